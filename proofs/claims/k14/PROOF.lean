import PyProof.Rows.All
import Wide.All
import OpenK.AllK
import Wide.FinOn
import Lean
import PyProof.EqAt
import PyProof.EqKinds
import PyProof.TupleCall
import PyProof.NeData
import PyProof.P3In
import PyProof.ZipIter
import PyProof.Rows.ZipGen
import KE.KRevIter
import PyProof.CollectIter
import PyProof.ListRange
import PyProof.EnumMake
import PyProof.EnumFor
import PyProof.EnumStmt
import PyProof.Rows.SortStr
import KE.KDictList
import KE.KSortTup
import KE.KSortAsk
import PySem.Challenge.RW_ken_k14_known_stays
import PyProof.SumAny
import PyProof.WalksMore
import KE.KTupSum
import PyProof.FactsAll.set
import PyProof.Rows.Range3
import PyProof.Rows.SetFrom
import PyProof.FactsAll.tuple_2
import PyProof.Rows.SeqMore2
set_option Elab.async false
set_option linter.all false
set_option maxRecDepth 100000
namespace L2
open PySem PySem.Spec PyProof.Rows
abbrev Key := Sum Int Str
def keyIs : Key → Value → Bool
  | .inl k, v => Value.isInt k v
  | .inr x, v => Value.isStrOf x v
def keyH (w : World) : Key → Int
  | .inl k => hashInt k
  | .inr x => hashStr w x
theorem keyIs_shape : ∀ {k : Key} {v : Value}, keyIs k v = true → (∃ i t, k = Sum.inl i ∧ v = Value.int i t) ∨ (∃ x t, k = Sum.inr x ∧ v = Value.str x t)
  | .inl i, v, h => by
    obtain ⟨t, e⟩ := Value.isInt_shape (k := i) (v := v) h
    exact .inl ⟨i, t, rfl, e⟩
  | .inr x, v, h => by
    obtain ⟨t, e⟩ := Value.isStrOf_shape (x := x) (v := v) h
    exact .inr ⟨x, t, rfl, e⟩
theorem keyIs_int (i : Int) (t : Tok) : keyIs (.inl i) (.int i t) = true := by simp [keyIs, Value.isInt]
theorem keyIs_str (x : Str) (t : Tok) : keyIs (.inr x) (.str x t) = true := by simp [keyIs, Value.isStrOf]
theorem key_ll (a b : Int) : decide ((Sum.inl a : Key) = Sum.inl b) = (a == b) := by
  by_cases e : a = b
  · subst e; simp
  · have h : ¬ (Sum.inl a : Key) = Sum.inl b := fun q => e (Sum.inl.inj q)
    rw [decide_eq_false h]
    exact (beq_eq_false_iff_ne.mpr e).symm
theorem key_rr (a b : Str) : decide ((Sum.inr a : Key) = Sum.inr b) = decide (a = b) := by
  by_cases e : a = b
  · subst e; simp
  · have h : ¬ (Sum.inr a : Key) = Sum.inr b := fun q => e (Sum.inr.inj q)
    rw [decide_eq_false h, decide_eq_false e]
theorem key_lr (a : Int) (b : Str) : decide ((Sum.inl a : Key) = Sum.inr b) = false := decide_eq_false (fun q => nomatch q)
theorem key_rl (a : Str) (b : Int) : decide ((Sum.inr a : Key) = Sum.inl b) = false := decide_eq_false (fun q => nomatch q)
def mixKind (prog : Program) (w : World) : PySem.KeyKind prog w Key where
  is := keyIs
  hash := keyH w
  inj := fun v a b ha hb => by
    rcases keyIs_shape ha with ⟨i, t, rfl, rfl⟩ | ⟨x, t, rfl, rfl⟩
    · rcases keyIs_shape hb with ⟨j, u, rfl, e⟩ | ⟨y, u, rfl, e⟩
      · injection e with e1 _; rw [e1]
      · exact nomatch e
    · rcases keyIs_shape hb with ⟨j, u, rfl, e⟩ | ⟨y, u, rfl, e⟩
      · exact nomatch e
      · injection e with e1 _; rw [e1]
  byValue := fun k v h => by
    rcases keyIs_shape h with ⟨i, t, rfl, rfl⟩ | ⟨x, t, rfl, rfl⟩ <;> rfl
  pyHash := fun hv h => by
    rcases keyIs_shape hv with ⟨i, t, rfl, rfl⟩ | ⟨x, t, rfl, rfl⟩
    · exact wpAny_pyHash_int h
    · exact wpAny_pyHash_str h
  eqBool := fun hu hv h => by
    rcases keyIs_shape hu with ⟨i, t, rfl, rfl⟩ | ⟨x, t, rfl, rfl⟩
    · rcases keyIs_shape hv with ⟨j, u, rfl, rfl⟩ | ⟨y, u, rfl, rfl⟩
      · rw [key_ll] at h; exact wpAny_eqBool_int h
      · rw [key_lr] at h; exact SeqAt.EqAt.int_str i t y u _ _ _ _ h
    · rcases keyIs_shape hv with ⟨j, u, rfl, rfl⟩ | ⟨y, u, rfl, rfl⟩
      · rw [key_rl] at h; exact SeqAt.EqAt.str_int x t j u _ _ _ _ h
      · rw [key_rr] at h; exact wpAny_eqBool_str h
  «strs» := fun k x t v h => by
    rcases keyIs_shape h with ⟨i, u, rfl, e⟩ | ⟨y, u, rfl, e⟩
    · exact nomatch e
    · injection e with e1 _
      subst e1
      cases v <;> rfl
theorem mixKind_int (prog : Program) (w : World) (i : Int) (t : Tok) : (mixKind prog w).is (.inl i) (.int i t) = true := keyIs_int i t
theorem mixKind_str (prog : Program) (w : World) (x : Str) (t : Tok) : (mixKind prog w).is (.inr x) (.str x t) = true := keyIs_str x t
end L2
namespace L2
open PySem PySem.Spec PyProof.Rows
inductive V where
  | non | bl (b : Bool) | int (i : Int) | str (x : Str) | byt (b : Array UInt8) | flt (b : UInt64) | ref (a : Addr) | ty (n : String)
  deriving DecidableEq
def RelV : V → Value → Prop
  | .non, u => u = Value.none
  | .bl b, u => u = Value.bool b
  | .int i, u => ∃ t, u = Value.int i t
  | .str x, u => ∃ t, u = Value.str x t
  | .byt b, u => ∃ t, u = Value.bytes b t
  | .flt b, u => ∃ t, u = Value.float b t
  | .ref a, u => u = Value.ref a
  | .ty n, u => u = Value.type n
abbrev Vals : List V → List Value → Prop := Paired RelV
theorem Vals.length {xs : List V} {us : List Value} (r : Vals xs us) : xs.length = us.length := Paired.length r
theorem Vals.get : ∀ {xs : List V} {us : List Value} {i : Nat} {x : V}, Vals xs us → xs[i]? = some x → ∃ u, us[i]? = some u ∧ RelV x u
  | _, _, _, _, .nil, e => by simp at e
  | _, _, 0, _, .cons r _, e => by simp at e; subst e; exact ⟨_, rfl, r⟩
  | _, _, i + 1, x, .cons _ t, e => by
    obtain ⟨u, h1, h2⟩ := Vals.get (i := i) (x := x) t (by simpa using e)
    exact ⟨u, by simpa using h1, h2⟩
theorem Vals.set {x : V} {u : Value} (r : RelV x u) : ∀ {xs : List V} {us : List Value} (i : Nat), Vals xs us → Vals (xs.set i x) (us.set i u)
  | _, _, _, .nil => .nil
  | _, _, 0, .cons _ t => .cons r t
  | _, _, i + 1, .cons q t => .cons q (Vals.set r i t)
theorem Vals.append : ∀ {xs ys : List V} {us ws : List Value}, Vals xs us → Vals ys ws → Vals (xs ++ ys) (us ++ ws)
  | _, _, _, _, .nil, s => s
  | _, _, _, _, .cons r t, s => .cons r (Vals.append t s)
theorem Vals.take : ∀ {xs : List V} {us : List Value} (n : Nat), Vals xs us → Vals (xs.take n) (us.take n)
  | _, _, 0, _ => .nil
  | _, _, _ + 1, .nil => .nil
  | _, _, n + 1, .cons r t => .cons r (Vals.take n t)
theorem Vals.drop : ∀ {xs : List V} {us : List Value} (n : Nat), Vals xs us → Vals (xs.drop n) (us.drop n)
  | _, _, 0, r => r
  | _, _, _ + 1, .nil => .nil
  | _, _, n + 1, .cons _ t => Vals.drop n t
def RelO : Option V → Option Value → Prop
  | some v, some u => RelV v u
  | none, none => True
  | _, _ => False
def KV {κ : Type} : List (κ × V) → List (κ × Value) → Prop := Paired fun (p : κ × V) (q : κ × Value) => p.1 = q.1 ∧ RelV p.2 q.2
def kV : Key → V
  | .inl i => .int i
  | .inr x => .str x
inductive HO where
  /-- a list -/
  | lst (xs : List V)
  /-- a tuple (never changes) -/
  | tup (xs : List V)
  /-- a dict whose keys are ints and texts; one whose keys are tuples of ints and texts (the empty one is both) -/
  | dK (kvs : List (Key × V)) | dT (kvs : List (List Key × V))
  /-- a set of ints: its members, its size -/
  | set (S : Int → Bool) (n : Nat)
  /-- an instance of the class at C, its dict at dx, its attributes -/
  | ins (C dx : Addr) (fs : List (Str × V))
  /-- the dict of the instance at x -/
  | own (x : Addr)
  /-- the dict of an exception -/
  | xd (fs : List (Str × V))
  /-- a bound method, f of x -/
  | met (f x : Addr)
  /-- a range object lo, lo + 1, .. below hi -/
  | rng (lo hi : Int)
  /-- a thing that is known to the object (the script; a dict while a loop walks it): read, never written while it is so -/
  | frz (o : Obj) (u : HO)
  /-- a code object's table -/
  | tbl (ps : Array Value)
  /-- any other thing, by what is true of its one object (a def of one's own: SetO a S n := HO.ext fun h => ..) -/
  | ext (φ : Heap → Prop)
abbrev Hp := Addr → Option HO
def upd (H : Hp) (a : Addr) (o : HO) : Hp := fun b => if b = a then some o else H b
theorem upd_same {H : Hp} {a : Addr} {o : HO} : upd H a o a = some o := by unfold upd; rw [if_pos rfl]
theorem upd_ne {H : Hp} {a b : Addr} {o : HO} (h : b ≠ a) : upd H a o b = H b := by unfold upd; rw [if_neg h]
theorem upd_upd {H : Hp} {a : Addr} {o u : HO} : upd (upd H a o) a u = upd H a u := by
  funext b; unfold upd; split <;> rfl
theorem ne_of {H : Hp} {a b : Addr} {o u : HO} (h : H a = some o) (h' : H b = some u) (d : o ≠ u) : a ≠ b := by
  intro e; subst e; rw [h] at h'; exact d (Option.some.inj h')
theorem ne_of_none {H : Hp} {a b : Addr} {o : HO} (h : H a = some o) (h' : H b = none) : a ≠ b := by
  intro e; subst e; rw [h] at h'; cases h'
section
variable (P : Program) (w : World)
def ObjOk (H : Hp) (h : Heap) (a : Addr) : HO → Prop
  | .lst xs => xs.length ≤ sizeLine ∧ ∃ (its : List Value) (n : Nat), Vals xs its ∧ h.get? a = some { cls := .type "list", data := .seq its.toArray n }
  | .tup xs => xs.length ≤ sizeLine ∧ ∃ its : List Value, Vals xs its ∧ IsTup h a its.toArray
  | .dK kvs => kvs.length ≤ sizeLine ∧ (a == sysModules) = false ∧ ∃ vs, KV kvs vs ∧ h.DictOf (mixKind P w) a vs
  | .dT kvs => kvs.length ≤ sizeLine ∧ (a == sysModules) = false ∧ ∃ xs : List (List Key × Addr × Value),
      Paired (fun (p : List Key × V) (q : List Key × Addr × Value) => p.1 = q.1 ∧ H q.2.1 = some (.tup (p.1.map kV)) ∧ RelV p.2 q.2.2) kvs xs ∧
      ∃ o es ep, h.get? a = some o ∧ o.ExactDict ∧ o.data = .dict es ep ∧ es.toList = xs.map (entryOfKey (tupleKind (mixKind P w))) ∧ (xs.map (·.1)).Nodup
  | .set S n => h.SetOf (intKind P w) a S n
  | .ins C dx fs => H dx = some (.own a) ∧ fs.length ≤ 1000 ∧ dx ≠ a ∧ h.get? a = some (PySem.W.instObj C dx) ∧
      ∃ mA, h.Ns1 dx mA ∧ (∀ f, RelO (fs.lookup f) (mA f)) ∧ PySem.Within mA (fs.map (·.1))
  | .own _ => ∃ o, h.get? a = some o
  | .xd fs => ∃ mA, h.Ns1 a mA ∧ ∀ f, RelO (fs.lookup f) (mA f)
  | .rng lo hi => ∃ t u v, h.get? a = some { cls := .type "range", data := .fields #[.int lo t, .int hi u, .int 1 v] }
  | .frz o u => h.get? a = some o ∧ ObjOk H h a u
  | .tbl ps => h.get? a = some { cls := .none, data := .fields ps }
  | .met f x => h.get? a = some (PySem.W.methodObj (.ref f) (.ref x))
  | .ext φ => φ h ∧ (∃ o, h.get? a = some o) ∧ ∀ h1 h2 : Heap, φ h1 → (∀ o, h1.get? a = some o → h2.get? a = some o) → φ h2
def HOk (H : Hp) (h : Heap) : Prop := ∀ a o, H a = some o → ObjOk P w H h a o
end
section
variable {P : Program} {w : World} {H H' : Hp} {h h' : Heap} {a : Addr} {o : HO}
theorem ObjOk.lt (x : ObjOk P w H h a o) : a < h.objs.size := by
  cases o with
  | lst xs => obtain ⟨_, _, _, _, e⟩ := x; exact Heap.lt_size e
  | tup xs => obtain ⟨_, _, _, p⟩ := x; exact p.lt
  | dK kvs => obtain ⟨_, _, _, _, o, _, _, e, _⟩ := x; exact Heap.lt_size e
  | dT kvs => obtain ⟨_, _, _, _, o, _, _, e, _⟩ := x; exact Heap.lt_size e
  | set S n => obtain ⟨o, _, _, _, e, _⟩ := x; exact Heap.lt_size e
  | ins C dx fs => obtain ⟨_, _, _, e, _⟩ := x; exact Heap.lt_size e
  | own y => obtain ⟨_, e⟩ := x; exact Heap.lt_size e
  | xd fs => obtain ⟨_, ⟨_, _, _, e, _⟩, _⟩ := x; exact Heap.lt_size e
  | rng lo hi => obtain ⟨_, _, _, e⟩ := x; exact Heap.lt_size e
  | frz ob u => obtain ⟨e, _⟩ := x; exact Heap.lt_size e
  | tbl ps => exact Heap.lt_size (show h.get? a = some _ from x)
  | met f y => exact Heap.lt_size (show h.get? a = some _ from x)
  | ext φ => obtain ⟨_, ⟨_, e⟩, _⟩ := x; exact Heap.lt_size e
theorem Paired.mapP {α β : Type} {F G : α → β → Prop} : ∀ {l₁ : List α} {l₂ : List β}, Paired F l₁ l₂ → (∀ a b, F a b → G a b) → Paired G l₁ l₂
  | _, _, .nil, _ => .nil
  | _, _, .cons r t, f => .cons (f _ _ r) (Paired.mapP t f)
theorem ObjOk.stay (x : ObjOk P w H h a o) (k : ∀ b u, (b = a ∨ H b = some (.own a)) → h.get? b = some u → h'.get? b = some u)
    (ho : ∀ b, H b = some (.own a) → H' b = some (.own a)) (ht : ∀ b xs, H b = some (.tup xs) → H' b = some (.tup xs)) : ObjOk P w H' h' a o := by
  induction o with
  | lst xs => obtain ⟨z, its, n, r, e⟩ := x; exact ⟨z, its, n, r, k _ _ (.inl rfl) e⟩
  | tup xs => obtain ⟨z, its, r, ob, e, c⟩ := x; exact ⟨z, its, r, ob, k _ _ (.inl rfl) e, c⟩
  | dK kvs => obtain ⟨z, y, vs, r, ob, es, ep, e, c⟩ := x; exact ⟨z, y, vs, r, ob, es, ep, k _ _ (.inl rfl) e, c⟩
  | dT kvs =>
    obtain ⟨z, y, xs, r, ob, es, ep, e, c⟩ := x
    exact ⟨z, y, xs, Paired.mapP r fun p q z => ⟨z.1, ht _ _ z.2.1, z.2.2⟩, ob, es, ep, k _ _ (.inl rfl) e, c⟩
  | set S n => obtain ⟨ob, es, ep, t, e, c⟩ := x; exact ⟨ob, es, ep, t, k _ _ (.inl rfl) e, c⟩
  | ins C dx fs =>
    obtain ⟨d, z, ne, e, mA, ⟨od, es, ep, e2, c⟩, r⟩ := x
    exact ⟨ho _ d, z, ne, k _ _ (.inl rfl) e, mA, ⟨od, es, ep, k _ _ (.inr d) e2, c⟩, r⟩
  | own y => obtain ⟨ob, e⟩ := x; exact ⟨ob, k _ _ (.inl rfl) e⟩
  | xd fs => obtain ⟨mA, ⟨od, es, ep, e, c⟩, r⟩ := x; exact ⟨mA, ⟨od, es, ep, k _ _ (.inl rfl) e, c⟩, r⟩
  | rng lo hi => obtain ⟨t, u, v, e⟩ := x; exact ⟨t, u, v, k _ _ (.inl rfl) e⟩
  | frz ob u ih => obtain ⟨e, q⟩ := x; exact ⟨k _ _ (.inl rfl) e, ih q⟩
  | tbl ps =>
    have e : h.get? a = some { cls := .none, data := .fields ps } := x
    show h'.get? a = some { cls := .none, data := .fields ps }
    exact k a _ (.inl rfl) e
  | met f y =>
    have e : h.get? a = some (PySem.W.methodObj (.ref f) (.ref y)) := x
    show h'.get? a = some (PySem.W.methodObj (.ref f) (.ref y))
    exact k a _ (.inl rfl) e
  | ext φ => obtain ⟨p, ⟨o, e⟩, st⟩ := x; exact ⟨st _ _ p fun o q => k _ _ (.inl rfl) q, ⟨o, k _ _ (.inl rfl) e⟩, st⟩
theorem HOk.lt (x : HOk P w H h) (e : H a = some o) : a < h.objs.size := (x a o e).lt
theorem HOk.fresh (x : HOk P w H h) (e : h.objs.size ≤ a) : H a = none := by
  cases q : H a with
  | none => rfl
  | some u => exact absurd (Nat.lt_of_lt_of_le (x.lt q) e) (Nat.lt_irrefl _)
theorem HOk.kept (x : HOk P w H h) (k : ∀ b u, h.get? b = some u → h'.get? b = some u) : HOk P w H h' := fun a o e =>
  (x a o e).stay (fun b u _ q => k b u q) (fun _ q => q) fun _ _ q => q
theorem HOk.laid (x : HOk P w H h) (k : ∀ b u, h.get? b = some u → h'.get? b = some u) (hp : h.objs.size ≤ a) (new : ObjOk P w (upd H a o) h' a o) : HOk P w (upd H a o) h' := fun b u e => by
  have hn := x.fresh hp
  by_cases hb : b = a
  · subst hb; rw [upd_same] at e; cases e; exact new
  · rw [upd_ne hb] at e
    exact (x b u e).stay (fun c v _ q => k c v q) (fun c q => by rw [upd_ne (ne_of_none q hn)]; exact q) fun c xs q => by rw [upd_ne (ne_of_none q hn)]; exact q
end
def Rd (H : Hp) (a : Addr) (u : HO) : Prop := H a = some u ∨ ∃ o, H a = some (.frz o u)
theorem Rd.of {H : Hp} {a : Addr} {u : HO} (h : H a = some u) : Rd H a u := .inl h
theorem Rd.ok {P : Program} {w : World} {H : Hp} {h : Heap} {a : Addr} {u : HO} (r : Rd H a u) (x : HOk P w H h) : ObjOk P w H h a u := by
  rcases r with r | ⟨o, r⟩
  · exact x a u r
  · obtain ⟨_, q⟩ := x a _ r
    exact q
def Mut : Option HO → Prop
  | some (.lst _) => True
  | some (.dK _) => True
  | some (.dT _) => True
  | some (.set _ _) => True
  | some (.ins _ _ _) => True
  | some (.ext _) => True
  | _ => False
section
variable {P : Program} {w : World} {H : Hp} {h h' : Heap} {x e : Addr} {o' : HO}
theorem HOk.write (ok : HOk P w H h) (mu : Mut (H x)) (he : e = x ∨ H e = some (.own x)) (k : ∀ b u, b ≠ e → h.get? b = some u → h'.get? b = some u) (heo : ∃ u, h'.get? e = some u)
    (new : ObjOk P w (upd H x o') h' x o') : HOk P w (upd H x o') h' := fun b u q => by
  have nown : ∀ c y, H c = some (.own y) → c ≠ x := fun c y r z => by subst z; rw [r] at mu; exact mu
  have ntup : ∀ c xs, H c = some (.tup xs) → c ≠ x := fun c xs r z => by subst z; rw [r] at mu; exact mu
  by_cases hb : b = x
  · subst hb; rw [upd_same] at q; cases q; exact new
  · rw [upd_ne hb] at q
    by_cases hbe : b = e
    · have q' : H b = some (.own x) := by
        rcases he with z | z
        · exact absurd (hbe.trans z) hb
        · rw [hbe]; exact z
      rw [q] at q'; cases q'
      obtain ⟨v, hv⟩ := heo
      exact ⟨v, by rw [hbe]; exact hv⟩
    · refine (ok b u q).stay (fun c v hc r => k c v ?_ r) (fun c r => by rw [upd_ne (nown c b r)]; exact r) fun c xs r => by rw [upd_ne (ntup c xs r)]; exact r
      rcases hc with rfl | hc
      · exact hbe
      · rintro rfl
        rcases he with z | z
        · exact nown c b hc z
        · rw [hc] at z; cases z; exact hb rfl
end
structure Un (fs ex : List Addr) (H H' : Hp) (h h' : Heap) : Prop where
  keep : ∀ b o, h.get? b = some o → H b = none → b ∉ fs → b ∉ ex → h'.get? b = some o
  slot : ∀ b o, h.get? b = some o → H b = none → b ∈ fs → b ∉ ex → ∃ sl, h'.get? b = some { o with slots := sl }
  free : ∀ b o, h.get? b = some o → H b = none → b ∉ ex → H' b = none
  there : ∀ b o, h.get? b = some o → b ∉ ex → ∃ o', h'.get? b = some o'
  tups : ∀ b xs, H b = some (.tup xs) → H' b = some (.tup xs)
  frzs : ∀ b o u, H b = some (.frz o u) → H' b = some (.frz o u)
  tbls : ∀ b ps, H b = some (.tbl ps) → ∃ more, H' b = some (.tbl (ps ++ more))
section
variable {fs fs' ex ex' : List Addr} {H H1 H2 : Hp} {h h1 h2 h' : Heap} {a x e : Addr} {o : HO}
theorem Un.any (u : Un fs ex H H1 h h1) {b : Addr} {ob : Obj} (q : h.get? b = some ob) (n : H b = none) (hx : b ∉ ex) : ∃ sl, h1.get? b = some { ob with slots := sl } := by
  by_cases hb : b ∈ fs
  · exact u.slot b ob q n hb hx
  · exact ⟨ob.slots, u.keep b ob q n hb hx⟩
theorem Un.trans (a : Un fs ex H H1 h h1) (b : Un fs ex H1 H2 h1 h2) : Un fs ex H H2 h h2 where
  keep := fun c ob q n hc hx => b.keep c ob (a.keep c ob q n hc hx) (a.free c ob q n hx) hc hx
  slot := fun c ob q n hc hx => by
    obtain ⟨sl, e1⟩ := a.slot c ob q n hc hx
    obtain ⟨sl', e2⟩ := b.slot c _ e1 (a.free c ob q n hx) hc hx
    exact ⟨sl', e2⟩
  free := fun c ob q n hx => by
    obtain ⟨o', e1⟩ := a.there c ob q hx
    exact b.free c o' e1 (a.free c ob q n hx) hx
  there := fun c ob q hx => by
    obtain ⟨o', e1⟩ := a.there c ob q hx
    exact b.there c o' e1 hx
  tups := fun c xs q => b.tups c xs (a.tups c xs q)
  frzs := fun c ob xs q => b.frzs c ob xs (a.frzs c ob xs q)
  tbls := fun c ps q => by
    obtain ⟨m1, e1⟩ := a.tbls c ps q
    obtain ⟨m2, e2⟩ := b.tbls c _ e1
    exact ⟨m1 ++ m2, by rw [e2, Array.append_assoc]⟩
theorem Un.kept (k : ∀ b u, h.get? b = some u → h'.get? b = some u) : Un fs ex H H h h' :=
  ⟨fun b ob q _ _ _ => k b ob q, fun b ob q _ _ _ => ⟨ob.slots, k b ob q⟩, fun _ _ _ n _ => n, fun b ob q _ => ⟨ob, k b ob q⟩, fun _ _ q => q, fun _ _ _ q => q, fun _ ps q => ⟨#[], by rw [q]; simp⟩⟩
theorem Un.refl : Un fs ex H H h h := Un.kept fun _ _ q => q
theorem Un.laid (k : ∀ b u, h.get? b = some u → h'.get? b = some u) (hp : h.objs.size ≤ a) (hn : H a = none) : Un fs ex H (upd H a o) h h' where
  keep := fun b u q _ _ _ => k b u q
  slot := fun b u q _ _ _ => ⟨u.slots, k b u q⟩
  free := fun b u q n _ => by rw [upd_ne (Nat.ne_of_lt (Nat.lt_of_lt_of_le (Heap.lt_size q) hp))]; exact n
  there := fun b u q _ => ⟨u, k b u q⟩
  tups := fun b xs q => by rw [upd_ne (ne_of_none q hn)]; exact q
  frzs := fun b u xs q => by rw [upd_ne (ne_of_none q hn)]; exact q
  tbls := fun b ps q => ⟨#[], by rw [upd_ne (ne_of_none q hn), q]; simp⟩
theorem Un.write (mu : Mut (H x)) (he : e = x ∨ H e = some (.own x)) (k : ∀ b u, b ≠ e → h.get? b = some u → h'.get? b = some u) (heo : ∃ u, h'.get? e = some u) : Un fs ex H (upd H x o) h h' := by
  have hx : ∀ b, H b = none → b ≠ x := fun b n z => by subst z; rw [n] at mu; exact mu
  have hb : ∀ b, H b = none → b ≠ e := fun b n z => by
    subst z
    rcases he with r | r
    · exact hx b n r
    · rw [n] at r; cases r
  have hm : ∀ b u, H b = some u → ¬ Mut (some u) → b ≠ x := fun b u q nm z => by subst z; rw [q] at mu; exact nm mu
  refine ⟨fun b u q n _ _ => k b u (hb b n) q, fun b u q n _ _ => ⟨u.slots, k b u (hb b n) q⟩, fun b u q n _ => by rw [upd_ne (hx b n)]; exact n, fun b u q _ => ?_,
    fun b xs q => by rw [upd_ne (hm b _ q fun z => z)]; exact q, fun b u xs q => by rw [upd_ne (hm b _ q fun z => z)]; exact q, fun b ps q => ⟨#[], by rw [upd_ne (hm b _ q fun z => z), q]; simp⟩⟩
  by_cases hbe : b = e
  · subst hbe; exact heo
  · exact ⟨u, k b u hbe q⟩
theorem Un.mono (u : Un fs ex H H1 h h1) (hs : ∀ b ∈ fs, b ∈ fs') (hx : ∀ b ∈ ex, b ∈ ex') : Un fs' ex' H H1 h h1 :=
  ⟨fun b ob q n hb he => u.keep b ob q n (fun z => hb (hs b z)) fun z => he (hx b z), fun _ _ q n _ he => u.any q n fun z => he (hx _ z), fun b ob q n he => u.free b ob q n fun z => he (hx b z), fun b ob q he => u.there b ob q fun z => he (hx b z), u.tups, u.frzs, u.tbls⟩
end
def trk (h : Heap) (H : Hp) : List Addr := (List.range h.objs.size).filter fun a => (H a).isSome
def hidT (h : Heap) (H : Hp) : Heap := PySem.W.hideAll h (trk h H)
theorem hidT_size (h : Heap) (H : Hp) : (hidT h H).objs.size = h.objs.size := PySem.W.hideAll_size _ _
theorem hidT_get {h : Heap} {H : Hp} {b : Addr} {o : Obj} (e : h.get? b = some o) (n : H b = none) : (hidT h H).get? b = some o :=
  PySem.W.hideAll_get _ e fun hm => by
    have q : (H b).isSome = true := (List.mem_filter.mp hm).2
    rw [n] at q; simp at q
theorem of_hidT {h : Heap} {H : Hp} {b : Addr} {o : Obj} (e : (hidT h H).get? b = some o) : h.get? b = some o ∧ H b = none := by
  have e' : h.get? b = some o := PySem.W.of_hideAll (trk h H) e
  refine ⟨e', ?_⟩
  cases q : H b with
  | none => rfl
  | some x =>
    have hm : b ∈ trk h H := List.mem_filter.mpr ⟨List.mem_range.mpr (Heap.lt_size e'), by simp [q]⟩
    have z : (hidT h H).get? b = none := PySem.W.hideAll_none (trk h H) hm
    rw [z] at e; cases e
def allNews (g h : Heap) (L : Addr) : List (Addr × Obj) := (List.range h.objs.size).filterMap fun a => if a = L ∨ (g.get? a).isSome = true then none else (h.get? a).map fun o => (a, o)
def rest (g h : Heap) (L d : Addr) : List (Addr × Obj) := (allNews g h L).filter fun p => decide (p.1 ≠ d)
end L2
namespace L2
open PySem PySem.Spec PyProof.Rows
structure Mod (K : PySem.W.Frag) (mg : Str → Option Value) (base : Heap) : Prop where
  kin : K.In base
  glob : base.Ns mainGlobals mg
  blt : ∃ mb, base.Ns builtinsNs mb ∧ ∀ x : Str, x ≠ "__name__" → mb x = bootBuiltins x
  nolimit : base.NoLimit
structure Cx where
  prog : Program
  w : World
  K : PySem.W.Frag
  mg : Str → Option Value
  base : Heap
  A : Around
  N : List Str
  s₀ : Shared
  H₀ : Hp
  env : Env
  outer : List Env
  stack : List Env
  ex : List Addr
  fn : Str → Bool
  calm : Bool
  pn : List (Addr × Obj)
  xe : Value → Shared → Prop
def frs (l : List Env) : List Addr := l.filterMap (·.frame)
abbrev Cx.fs (X : Cx) : List Addr := frs X.outer
def Vis (sc : Scope) (x : Str) : Prop := sc.names.lookup x = some .local ∨ sc.names.lookup x = some .cell ∨ sc.names.lookup x = some .free
def Loc (sc : Scope) (x : Str) : Prop := sc.names.lookup x = some .local ∨ sc.names.lookup x = some .cell
def Look (env : Env) (h : Heap) (m : Str → Option Value) (x : Str) (u : Value) : Prop :=
  (env.kindOf x = some .local ∧ m x = some u) ∨ ((env.kindOf x = some .cell ∨ env.kindOf x = some .free) ∧ ∃ c, env.cells.lookup x = some c ∧ h.IsCell c (some u))
structure Cx.Ok (X : Cx) : Prop where
  mod : Mod X.K X.mg X.base
  kind : X.env.scope.kind = .function
  glob : X.env.globals = mainGlobals
  blt : X.env.builtins = builtinsNs
  above : X.s₀.heap.objs.size ≤ X.env.locals
  inj : ∀ x y c, X.env.cells.lookup x = some c → X.env.cells.lookup y = some c → x = y
  has : ∀ x, (X.env.kindOf x = some .cell ∨ X.env.kindOf x = some .free) → ∃ c, X.env.cells.lookup x = some c
  cab : ∀ x c, X.fn x = true → X.env.cells.lookup x = some c → X.s₀.heap.objs.size ≤ c
  hd : X.calm = true → X.A.handled = none
  frames : X.A.frames = some X.stack
  stk : X.stack = X.outer ∨ (X.stack = X.env :: X.outer ∧ X.env.frame = some X.env.locals)
  exf : ∀ b ∈ X.ex, b ≠ X.env.locals ∧ ∀ x c, X.env.cells.lookup x = some c → c ≠ b
  bs : ∀ b o, X.base.get? b = some o → X.s₀.heap.get? b = some o ∧ X.H₀ b = none
  bsz : X.base.objs.size ≤ X.s₀.heap.objs.size
  noex : ∀ b o, X.base.get? b = some o → b ∉ X.ex
  exfs : ∀ b ∈ X.ex, b ∉ X.fs
  funs : X.s₀.heap.FunFrames X.base X.outer
  frf : ∀ b ∈ X.fs, X.H₀ b = none
structure Inv (X : Cx) (pins : List (Addr × Obj)) (σ : List (Option V)) (H : Hp) (s : Shared) : Prop where
  ok : X.Ok
  os : s.os = X.s₀.os
  bare : AllBare s.gens
  base : Un X.fs X.ex X.H₀ H X.s₀.heap s.heap
  loc : ∃ m, s.heap.Ns X.env.locals m ∧ ∀ (i : Nat) (x : Str) (v : V), X.N[i]? = some x → σ[i]? = some (some v) → Vis X.env.scope x → ∃ u, RelV v u ∧ Look X.env s.heap m x u
  cell : ∀ x c, X.env.cells.lookup x = some c → ∃ v, s.heap.IsCell c v
  free : H X.env.locals = none
  freeC : ∀ x c, X.env.cells.lookup x = some c → H c = none
  pin : ∀ p ∈ X.pn ++ pins, s.heap.get? p.1 = some p.2 ∧ H p.1 = none ∧ p.1 ≠ X.env.locals ∧ p.1 ∉ X.fs ∧ ∀ v, p.2.data ≠ .cell v
  hok : HOk X.prog X.w H s.heap
  len : σ.length = X.N.length
section
variable {X : Cx} {pins : List (Addr × Obj)} {σ : List (Option V)} {H H' : Hp} {s : Shared} {h' : Heap}
theorem Cx.Ok.nofr (ok : X.Ok) {b : Addr} {o : Obj} (e : X.base.get? b = some o) : b ∉ X.fs := fun hb => by
  have := (ok.funs.mem hb).1
  rw [e] at this; cases this
theorem Inv.bs (I : Inv X pins σ H s) : ∀ b o, X.base.get? b = some o → s.heap.get? b = some o ∧ H b = none := fun b o e =>
  ⟨I.base.keep b o (I.ok.bs b o e).1 (I.ok.bs b o e).2 (I.ok.nofr e) (I.ok.noex b o e), I.base.free b o (I.ok.bs b o e).1 (I.ok.bs b o e).2 (I.ok.noex b o e)⟩
theorem Inv.bk (I : Inv X pins σ H s) : ∀ b o, X.base.get? b = some o → s.heap.get? b = some o := fun b o e => (I.bs b o e).1
theorem Inv.mod (I : Inv X pins σ H s) : Mod X.K X.mg X.base := I.ok.mod
theorem Inv.kIn (I : Inv X pins σ H s) : X.K.In s.heap := I.ok.mod.kin.keeps I.bk
theorem Inv.nolimit (I : Inv X pins σ H s) : s.heap.NoLimit := I.ok.mod.nolimit.keeps I.bk
theorem Inv.fr (I : Inv X pins σ H s) : ∃ m, Fr X.base X.env.locals s.heap m :=
  let ⟨m, hn, _⟩ := I.loc
  ⟨m, hn, I.bk, Nat.le_trans I.ok.bsz I.ok.above⟩
theorem Inv.lt (I : Inv X pins σ H s) : X.env.locals < s.heap.objs.size := let ⟨_, hn, _⟩ := I.loc; hn.lt
theorem Inv.sz (I : Inv X pins σ H s) : X.s₀.heap.objs.size ≤ s.heap.objs.size := Nat.le_trans I.ok.above (Nat.le_of_lt I.lt)
theorem Inv.nofs (I : Inv X pins σ H s) {a : Addr} (h : s.heap.objs.size ≤ a) : a ∉ X.fs := fun hb => by
  obtain ⟨_, o, ho, _⟩ := I.ok.funs.mem hb
  exact absurd (Nat.lt_of_lt_of_le (Heap.lt_size ho) (Nat.le_trans I.sz h)) (Nat.lt_irrefl _)
theorem Inv.cne (I : Inv X pins σ H s) : ∀ x c, X.env.cells.lookup x = some c → c ≠ X.env.locals := fun x c e z => by
  obtain ⟨v, o, ho, hd⟩ := I.cell x c e
  obtain ⟨m, ⟨o', es, ep, ho', hd', _⟩, _⟩ := I.loc
  rw [z, ho'] at ho; cases ho; rw [hd'] at hd; cases hd
theorem Inv.funs (I : Inv X pins σ H s) : s.heap.FunFrames X.base X.outer := by
  have all : ∀ (l : List Env), (∀ b ∈ frs l, b ∈ X.fs) → X.s₀.heap.FunFrames X.base l → s.heap.FunFrames X.base l := by
    intro l
    induction l with
    | nil => intro _ _; trivial
    | cons env r ih =>
      intro hs hl
      obtain ⟨hk, ⟨L, o, hf, hn, ho, hd⟩, hr⟩ := hl
      have hL : L ∈ X.fs := hs L (by unfold frs; rw [List.filterMap_cons, hf]; exact List.mem_cons_self)
      obtain ⟨sl, e⟩ := I.base.slot L o ho (I.ok.frf L hL) hL fun z => I.ok.exfs L z hL
      exact ⟨hk, ⟨L, _, hf, hn, e, hd⟩, ih (fun b hb => hs b (by unfold frs; rw [List.filterMap_cons, hf]; exact List.mem_cons_of_mem _ hb)) hr⟩
  exact all X.outer (fun _ hb => hb) I.ok.funs
theorem Inv.stack (I : Inv X pins σ H s) : s.heap.FunFrames X.base X.stack := by
  rcases I.ok.stk with e | ⟨e, hf⟩
  · rw [e]; exact I.funs
  · rw [e]
    obtain ⟨m, hn, _⟩ := I.loc
    refine .cons (by rw [I.ok.kind]; decide) hf hn ?_ I.funs
    exact Heap.get?_none_of_le (Nat.le_trans I.ok.bsz I.ok.above)
theorem Inv.stkSub (I : Inv X pins σ H s) : ∀ b ∈ frs X.stack, b ∈ X.env.locals :: X.fs := fun b hb => by
  rcases I.ok.stk with e | ⟨e, hf⟩
  · rw [e] at hb; exact List.mem_cons_of_mem _ hb
  · rw [e] at hb
    unfold frs at hb
    rw [List.filterMap_cons, hf] at hb
    exact hb
theorem Inv.stkFree (I : Inv X pins σ H s) : ∀ b ∈ frs X.stack, H b = none := fun b hb => by
  rcases List.mem_cons.mp (I.stkSub b hb) with e | hb
  · rw [e]; exact I.free
  · obtain ⟨_, o, ho, _⟩ := I.ok.funs.mem hb
    exact I.base.free b o ho (I.ok.frf b hb) fun z => I.ok.exfs b z hb
theorem Inv.step {g' : Array GenState} {t' : Nat} {d' : Drawn} {ch : List Addr} (I : Inv X pins σ H s)
    (hch : ∀ b ∈ ch, (b ∈ X.ex ∨ X.s₀.heap.objs.size ≤ b) ∧ b ≠ X.env.locals ∧ (∀ x c, X.env.cells.lookup x = some c → c ≠ b) ∧ ∀ p ∈ X.pn ++ pins, p.1 ≠ b)
    (keep : ∀ b o, b ≠ X.env.locals → b ∉ X.fs → b ∉ ch → s.heap.get? b = some o → H b = none → h'.get? b = some o)
    (slot : ∀ b o, b ≠ X.env.locals → b ∈ X.fs → b ∉ ch → s.heap.get? b = some o → H b = none → ∃ sl, h'.get? b = some { o with slots := sl }) (free : ∀ b o, b ∉ ch → s.heap.get? b = some o → H b = none → H' b = none)
    (there : ∀ b o, b ∉ ch → s.heap.get? b = some o → ∃ o', h'.get? b = some o')
    (tups : ∀ b xs, H b = some (.tup xs) → H' b = some (.tup xs)) (frzs : ∀ b o u, H b = some (.frz o u) → H' b = some (.frz o u)) (tbls : ∀ b ps, H b = some (.tbl ps) → ∃ more, H' b = some (.tbl (ps ++ more)))
    (ns : ∀ m, s.heap.Ns X.env.locals m → h'.Ns X.env.locals m) (hok : HOk X.prog X.w H' h') (hg : AllBare g') :
    Inv X pins σ H' { s with heap := h', gens := g', drawn := d', toks := t' } := by
  have neL : ∀ b o, X.s₀.heap.get? b = some o → b ≠ X.env.locals := fun b o e => Nat.ne_of_lt (Nat.lt_of_lt_of_le (Heap.lt_size e) I.ok.above)
  have neC : ∀ b o, X.s₀.heap.get? b = some o → b ∉ X.ex → b ∉ ch := fun b o e hx hb => by
    rcases (hch b hb).1 with z | z
    · exact hx z
    · exact absurd (Nat.lt_of_lt_of_le (Heap.lt_size e) z) (Nat.lt_irrefl _)
  have cellK : ∀ x c, X.env.cells.lookup x = some c → ∀ v, s.heap.IsCell c v → h'.IsCell c v := fun x c e v ⟨o, ho, hd⟩ => by
    have nch : c ∉ ch := fun z => (hch c z).2.2.1 x c e rfl
    by_cases hc : c ∈ X.fs
    · obtain ⟨sl, q⟩ := slot c o (I.cne x c e) hc nch ho (I.freeC x c e)
      exact ⟨_, q, hd⟩
    · exact ⟨o, keep c o (I.cne x c e) hc nch ho (I.freeC x c e), hd⟩
  refine ⟨I.ok, I.os, hg, ⟨fun b o e n hb hx => ?_, fun b o e n hb hx => ?_, fun b o e n hx => ?_, fun b o e hx => ?_, fun b xs e => tups b xs (I.base.tups b xs e), fun b o xs e => frzs b o xs (I.base.frzs b o xs e), fun b ps e => ?_⟩, ?_, fun x c e => ?_, ?_, fun x c e => ?_, fun p hp => ?_, hok, I.len⟩
  · exact keep b o (neL b o e) hb (neC b o e hx) (I.base.keep b o e n hb hx) (I.base.free b o e n hx)
  · obtain ⟨sl, e1⟩ := I.base.slot b o e n hb hx
    obtain ⟨sl', e2⟩ := slot b _ (neL b o e) hb (neC b o e hx) e1 (I.base.free b o e n hx)
    exact ⟨sl', e2⟩
  · obtain ⟨o', e1⟩ := I.base.there b o e hx
    exact free b o' (neC b o e hx) e1 (I.base.free b o e n hx)
  · obtain ⟨o', e1⟩ := I.base.there b o e hx
    exact there b o' (neC b o e hx) e1
  · obtain ⟨m1, e1⟩ := I.base.tbls b ps e
    obtain ⟨m2, e2⟩ := tbls b _ e1
    exact ⟨m1 ++ m2, by rw [e2, Array.append_assoc]⟩
  · obtain ⟨m, hn, hl⟩ := I.loc
    refine ⟨m, ns m hn, fun i x v e1 e2 e3 => ?_⟩
    obtain ⟨u, r, l⟩ := hl i x v e1 e2 e3
    refine ⟨u, r, ?_⟩
    rcases l with l | ⟨k, c, e, z⟩
    · exact .inl l
    · exact .inr ⟨k, c, e, cellK x c e _ z⟩
  · obtain ⟨v, z⟩ := I.cell x c e
    exact ⟨v, cellK x c e v z⟩
  · obtain ⟨m, ⟨o, _, _, ho, _⟩, _⟩ := I.loc
    exact free _ o (fun z => (hch _ z).2.1 rfl) ho I.free
  · obtain ⟨v, o, ho, hd⟩ := I.cell x c e
    exact free c o (fun z => (hch c z).2.2.1 x c e rfl) ho (I.freeC x c e)
  · obtain ⟨e, n, ne, nf, d⟩ := I.pin p hp
    have nch : p.1 ∉ ch := fun z => (hch p.1 z).2.2.2 p hp rfl
    exact ⟨keep p.1 p.2 ne nf nch e n, free p.1 p.2 nch e n, ne, nf, d⟩
theorem Inv.un {t' : Nat} (I : Inv X pins σ H s) (u : Un X.fs [] H H' s.heap h') (hok : HOk X.prog X.w H' h') : Inv X pins σ H' { s with heap := h', toks := t' } := by
  obtain ⟨m, ⟨o, es, ep, ho, r⟩, _⟩ := id I.loc
  obtain ⟨sl, hL⟩ := u.any ho I.free (by simp)
  exact I.step (g' := s.gens) (d' := s.drawn) (ch := []) (fun _ z => nomatch z) (fun b o _ hb _ e n => u.keep b o e n hb (by simp)) (fun b o _ hb _ e n => u.slot b o e n hb (by simp)) (fun b o _ e n => u.free b o e n (by simp)) (fun b o _ e => u.there b o e (by simp)) u.tups u.frzs u.tbls (fun m' hm => by
    obtain ⟨o', es', ep', ho', r'⟩ := hm
    rw [ho] at ho'; cases ho'
    exact ⟨_, es', ep', hL, r'⟩) hok I.bare
theorem Inv.call {g' : Array GenState} {t' : Nat} {d' : Drawn} {ch : List Addr} (I : Inv X pins σ H s) (u : Un (frs X.stack) ch H H' s.heap h') (hok : HOk X.prog X.w H' h') (hg : AllBare g')
    (hch : ∀ b ∈ ch, (b ∈ X.ex ∨ X.s₀.heap.objs.size ≤ b) ∧ b ≠ X.env.locals ∧ (∀ x c, X.env.cells.lookup x = some c → c ≠ b) ∧ ∀ p ∈ X.pn ++ pins, p.1 ≠ b) :
    Inv X pins σ H' { s with heap := h', gens := g', drawn := d', toks := t' } := by
  obtain ⟨m, ⟨o, es, ep, ho, r⟩, _⟩ := id I.loc
  obtain ⟨sl, hL⟩ := u.any ho I.free fun z => (hch _ z).2.1 rfl
  exact I.step (ch := ch) hch (fun b o hL hb hc e n => u.keep b o e n (fun z => (List.mem_cons.mp (I.stkSub b z)).elim hL hb) hc) (fun b o _ _ hc e n => u.any e n hc) (fun b o hc e n => u.free b o e n hc) (fun b o hc e => u.there b o e hc) u.tups u.frzs u.tbls (fun m' hm => by
    obtain ⟨o', es', ep', ho', r'⟩ := hm
    rw [ho] at ho'; cases ho'
    exact ⟨_, es', ep', hL, r'⟩) hok hg
theorem Inv.turned {t' : Nat} {it : Addr} (I : Inv X pins σ H s) (k : ∀ b o, b ≠ it → s.heap.get? b = some o → h'.get? b = some o) (hn : H it = none) (hL : it ≠ X.env.locals)
    (h1 : it ∈ X.ex ∨ X.s₀.heap.objs.size ≤ it) (h2 : ∀ x c, X.env.cells.lookup x = some c → c ≠ it) (h3 : ∀ p ∈ X.pn ++ pins, p.1 ≠ it) : Inv X pins σ H { s with heap := h', toks := t' } := by
  have nit : ∀ b u, H b = some u → b ≠ it := fun b u e z => by rw [z, hn] at e; cases e
  refine I.step (g' := s.gens) (d' := s.drawn) (ch := [it]) (fun b hb => ?_) (fun b o _ _ hc e _ => k b o (fun z => hc (by simp [z])) e) (fun b o _ _ hc e _ => ⟨o.slots, k b o (fun z => hc (by simp [z])) e⟩) (fun _ _ _ _ n => n)
    (fun b o hc e => ⟨o, k b o (fun z => hc (by simp [z])) e⟩) (fun _ _ e => e) (fun _ _ _ e => e) (fun b ps e => ⟨#[], by rw [e]; simp⟩) (fun m hm => ?_) (fun b u e => ?_) I.bare
  · have e : b = it := by simpa using hb
    subst e
    exact ⟨h1, hL, h2, h3⟩
  · obtain ⟨o, es, ep, ho, r⟩ := hm
    exact ⟨o, es, ep, k _ o (Ne.symm hL) ho, r⟩
  · refine (I.hok b u e).stay (fun c v hc q => k c v ?_ q) (fun _ q => q) fun _ _ q => q
    rcases hc with z | z
    · rw [z]; exact nit b u e
    · exact nit c _ z
theorem Inv.tok (I : Inv X pins σ H s) (t : Nat) : Inv X pins σ H { s with toks := t } := I.un (h' := s.heap) (t' := t) Un.refl I.hok
theorem Inv.kept {t' : Nat} (I : Inv X pins σ H s) (k : ∀ b u, s.heap.get? b = some u → h'.get? b = some u) : Inv X pins σ H { s with heap := h', toks := t' } := I.un (Un.kept k) (I.hok.kept k)
theorem Inv.laid {a : Addr} {o : HO} {t' : Nat} (I : Inv X pins σ H s) (k : ∀ b u, s.heap.get? b = some u → h'.get? b = some u) (hp : s.heap.objs.size ≤ a) (new : ObjOk X.prog X.w (upd H a o) h' a o) :
    Inv X pins σ (upd H a o) { s with heap := h', toks := t' } := I.un (Un.laid k hp (I.hok.fresh hp)) (I.hok.laid k hp new)
theorem Inv.write {x e : Addr} {o : HO} {t' : Nat} (I : Inv X pins σ H s) (mu : Mut (H x)) (he : e = x ∨ H e = some (.own x)) (k : ∀ b u, b ≠ e → s.heap.get? b = some u → h'.get? b = some u) (heo : ∃ u, h'.get? e = some u)
    (new : ObjOk X.prog X.w (upd H x o) h' x o) : Inv X pins σ (upd H x o) { s with heap := h', toks := t' } := I.un (Un.write mu he k heo) (I.hok.write mu he k heo new)
theorem Inv.weak {σ' : List (Option V)} (I : Inv X pins σ H s) (hl : σ'.length = σ.length) (w : ∀ (i : Nat) v, σ'[i]? = some (some v) → σ[i]? = some (some v)) : Inv X pins σ' H s :=
  ⟨I.ok, I.os, I.bare, I.base, let ⟨m, hn, hl'⟩ := I.loc; ⟨m, hn, fun i x v e1 e2 e3 => hl' i x v e1 (w i v e2) e3⟩, I.cell, I.free, I.freeC, I.pin, I.hok, hl.trans I.len⟩
theorem Inv.pins_of {pins' : List (Addr × Obj)} (I : Inv X pins σ H s) (h : ∀ p ∈ pins', s.heap.get? p.1 = some p.2 ∧ H p.1 = none ∧ p.1 ≠ X.env.locals ∧ p.1 ∉ X.fs ∧ ∀ v, p.2.data ≠ .cell v) : Inv X pins' σ H s :=
  ⟨I.ok, I.os, I.bare, I.base, I.loc, I.cell, I.free, I.freeC, fun p hp => (List.mem_append.mp hp).elim (fun z => I.pin p (List.mem_append_left _ z)) (h p), I.hok, I.len⟩
theorem nodup_ix {N : List Str} (hN : N.Nodup) {i j : Nat} {x : Str} (a : N[i]? = some x) (b : N[j]? = some x) : i = j := by
  obtain ⟨h1, e1⟩ := List.getElem?_eq_some_iff.mp a
  obtain ⟨h2, e2⟩ := List.getElem?_eq_some_iff.mp b
  exact (List.getElem_inj hN).mp (e1.trans e2.symm)
theorem store_ok2 {M : Model} {A : Around} {E : Value → Shared → Prop} {i : Nat} {x : Str} {v : V} {u : Value} {Q : Unit → Shared → Prop} (I : Inv X pins σ H s) (hN : X.N.Nodup) (hi : X.N[i]? = some x) (hx : Loc X.env.scope x) (r : RelV v u)
    (h : ∀ s', Inv X pins (σ.set i (some v)) H s' → (∃ a, Heap.SameBut a s.heap s'.heap ∧ (a = X.env.locals ∨ X.env.cells.lookup x = some a)) → Q () s') (hf : X.fn x = true ∨ X.env.scope.names.lookup x = some .local := by first | exact .inl rfl | exact .inr rfl | assumption) : wpAny M A (storeName X.env x u) Q E s := by
  obtain ⟨m, hn, hl⟩ := id I.loc
  have hcls : (X.env.scope.kind == .class || (X.env.scope.kind == .module && X.env.locals != X.env.globals)) = false := by rw [I.ok.kind]; rfl
  have hiσ : i < σ.length := by rw [I.len]; exact (List.getElem?_eq_some_iff.mp hi).1
  have cne := I.cne
  have tracked : ∀ {a : Addr} {h' : Heap}, (∃ o, s.heap.get? a = some o ∧ H a = none) → Heap.SameBut a s.heap h' → HOk X.prog X.w H h' := fun {a h'} ha hs b ob e => by
    obtain ⟨_, _, hfree⟩ := ha
    refine (I.hok b ob e).stay (fun c w' hc q => (hs.2 c ?_).trans q) (fun _ q => q) fun _ _ q => q
    rintro rfl
    rcases hc with rfl | hc
    · rw [hfree] at e; cases e
    · rw [hfree] at hc; cases hc
  rcases hx with hk | hk
  · refine wpAny_storeName_local hk hn (fun h' hn' hs => ?_) hcls
    obtain ⟨oL, _, _, hoL, _⟩ := id hn
    refine h _ ⟨I.ok, I.os, I.bare, ⟨fun b o e n hb hx => ?_, fun b o e n hb hx => ?_, I.base.free, fun b o e hx => ?_, I.base.tups, I.base.frzs, I.base.tbls⟩, ⟨_, hn', fun j y v' e1 e2 e3 => ?_⟩, fun y c e => ?_, I.free, I.freeC, fun p hp => ?_, tracked ⟨oL, hoL, I.free⟩ hs, by simpa using I.len⟩ ⟨_, hs, .inl rfl⟩
    · exact (hs.2 b (Nat.ne_of_lt (Nat.lt_of_lt_of_le (Heap.lt_size e) I.ok.above))).trans (I.base.keep b o e n hb hx)
    · obtain ⟨sl, e1⟩ := I.base.slot b o e n hb hx
      exact ⟨sl, (hs.2 b (Nat.ne_of_lt (Nat.lt_of_lt_of_le (Heap.lt_size e) I.ok.above))).trans e1⟩
    · obtain ⟨o', e1⟩ := I.base.there b o e hx
      exact ⟨o', (hs.2 b (Nat.ne_of_lt (Nat.lt_of_lt_of_le (Heap.lt_size e) I.ok.above))).trans e1⟩
    · by_cases hj : j = i
      · subst hj
        rw [hi] at e1; cases e1
        rw [List.getElem?_set_self hiσ] at e2
        cases e2
        exact ⟨u, r, .inl ⟨hk, by simp⟩⟩
      · rw [List.getElem?_set_ne (Ne.symm hj)] at e2
        obtain ⟨u', r', q⟩ := hl j y v' e1 e2 e3
        refine ⟨u', r', ?_⟩
        rcases q with ⟨k, e⟩ | ⟨k, c, e, z⟩
        · refine .inl ⟨k, ?_⟩
          have : y ≠ x := fun e => hj (nodup_ix hN e1 (e ▸ hi))
          simp [this, e]
        · exact .inr ⟨k, c, e, z.sameBut hs (cne y c e)⟩
    · obtain ⟨w', z⟩ := I.cell y c e
      exact ⟨w', z.sameBut hs (cne y c e)⟩
    · obtain ⟨e, n, ne, nf, d⟩ := I.pin p hp
      exact ⟨(hs.2 p.1 ne).trans e, n, ne, nf, d⟩
  · have hfn : X.fn x = true := by
      rcases hf with z | z
      · exact z
      · rw [z] at hk; cases hk
    obtain ⟨c, hc⟩ := I.ok.has x (.inl hk)
    obtain ⟨w', z⟩ := I.cell x c hc
    refine wpAny_storeName_cell I.ok.kind hk hc z (fun h' hc' hs => ?_)
    obtain ⟨oc, hoc, hocd⟩ := id z
    refine h { s with heap := h' } ⟨I.ok, I.os, I.bare, ⟨fun b o e n hb hx => ?_, fun b o e n hb hx => ?_, I.base.free, fun b o e hx => ?_, I.base.tups, I.base.frzs, I.base.tbls⟩, ⟨m, hn.sameBut hs (Ne.symm (cne x c hc)), fun j y v' e1 e2 e3 => ?_⟩, fun y c' e => ?_, I.free, I.freeC, fun p hp => ?_, tracked ⟨oc, hoc, I.freeC x c hc⟩ hs, by simpa using I.len⟩ ⟨c, hs, .inr hc⟩
    · exact (hs.2 b (Nat.ne_of_lt (Nat.lt_of_lt_of_le (Heap.lt_size e) (I.ok.cab x c hfn hc)))).trans (I.base.keep b o e n hb hx)
    · obtain ⟨sl, e1⟩ := I.base.slot b o e n hb hx
      exact ⟨sl, (hs.2 b (Nat.ne_of_lt (Nat.lt_of_lt_of_le (Heap.lt_size e) (I.ok.cab x c hfn hc)))).trans e1⟩
    · obtain ⟨o', e1⟩ := I.base.there b o e hx
      exact ⟨o', (hs.2 b (Nat.ne_of_lt (Nat.lt_of_lt_of_le (Heap.lt_size e) (I.ok.cab x c hfn hc)))).trans e1⟩
    · by_cases hj : j = i
      · subst hj
        rw [hi] at e1; cases e1
        rw [List.getElem?_set_self hiσ] at e2
        cases e2
        exact ⟨u, r, .inr ⟨.inl hk, c, hc, hc'⟩⟩
      · rw [List.getElem?_set_ne (Ne.symm hj)] at e2
        obtain ⟨u', r', q⟩ := hl j y v' e1 e2 e3
        refine ⟨u', r', ?_⟩
        rcases q with q | ⟨k, c', e, z'⟩
        · exact .inl q
        · refine .inr ⟨k, c', e, z'.sameBut hs ?_⟩
          rintro rfl
          exact hj (nodup_ix hN e1 (I.ok.inj _ _ _ e hc ▸ hi))
    · by_cases hcc : c' = c
      · subst hcc; exact ⟨_, hc'⟩
      · obtain ⟨w2, z2⟩ := I.cell y c' e
        exact ⟨w2, z2.sameBut hs hcc⟩
    · obtain ⟨e, n, ne, nf, d⟩ := I.pin p hp
      refine ⟨(hs.2 p.1 ?_).trans e, n, ne, nf, d⟩
      intro q
      rw [q, hoc] at e
      have q' : oc = p.2 := Option.some.inj e
      exact d w' (by rw [← q']; exact hocd)
theorem store_ok {M : Model} {A : Around} {E : Value → Shared → Prop} {i : Nat} {x : Str} {v : V} {u : Value} {Q : Unit → Shared → Prop} (I : Inv X pins σ H s) (hN : X.N.Nodup) (hi : X.N[i]? = some x) (hx : Loc X.env.scope x) (r : RelV v u)
    (h : ∀ s', Inv X pins (σ.set i (some v)) H s' → Q () s') (hf : X.fn x = true ∨ X.env.scope.names.lookup x = some .local := by first | exact .inl rfl | exact .inr rfl | assumption) : wpAny M A (storeName X.env x u) Q E s :=
  store_ok2 I hN hi hx r (fun s' I' _ => h s' I') hf
theorem Inv.call' {s' : Shared} {ch : List Addr} (I : Inv X pins σ H s) (ho : s'.os = s.os) (u : Un (frs X.stack) ch H H' s.heap s'.heap) (hok : HOk X.prog X.w H' s'.heap) (hg : AllBare s'.gens)
    (hch : ∀ b ∈ ch, (b ∈ X.ex ∨ X.s₀.heap.objs.size ≤ b) ∧ b ≠ X.env.locals ∧ (∀ x c, X.env.cells.lookup x = some c → c ≠ b) ∧ ∀ p ∈ X.pn ++ pins, p.1 ≠ b) : Inv X pins σ H' s' := by
  obtain ⟨h', g', d', t', o'⟩ := s'
  have e : o' = s.os := ho
  subst e
  exact I.call (g' := g') (t' := t') (d' := d') u hok hg hch
end
abbrev XK := Value → Option Addr → Hp → Prop
abbrev St := List (Option V)
abbrev VK := V → Hp → Prop
abbrev TE := St → Hp → VK → Prop
abbrev TT := St → Hp → (Bool → Hp → Prop) → Prop
abbrev TA := St → Hp → (List V → Hp → Prop) → Prop
structure Ends where
  nx : St → Hp → Prop
  rt : VK
  bk : St → Hp → Prop := fun _ _ => False
  ct : St → Hp → Prop := fun _ _ => False
abbrev TS := Ends → St → Hp → Prop
def EP (X : Cx) (pins : List (Addr × Obj)) (σ : St) (Q : VK) (u : Value) (s' : Shared) : Prop := ∃ v H', Inv X pins σ H' s' ∧ RelV v u ∧ Q v H'
def TP (X : Cx) (pins : List (Addr × Obj)) (σ : St) (Q : Bool → Hp → Prop) (b : Bool) (s' : Shared) : Prop := ∃ H', Inv X pins σ H' s' ∧ Q b H'
def AP (X : Cx) (pins : List (Addr × Obj)) (σ : St) (Q : List V → Hp → Prop) (us : List Value) (s' : Shared) : Prop := ∃ vs H', Inv X pins σ H' s' ∧ Vals vs us ∧ Q vs H'
def SP (X : Cx) (pins : List (Addr × Obj)) (D : Ends) (f : Flow) (s' : Shared) : Prop :=
  match f with
  | .next => ∃ σ' H', Inv X pins σ' H' s' ∧ D.nx σ' H'
  | .brk => ∃ σ' H', Inv X pins σ' H' s' ∧ D.bk σ' H'
  | .cont => ∃ σ' H', Inv X pins σ' H' s' ∧ D.ct σ' H'
  | .ret u => ∃ v σ' H', Inv X pins σ' H' s' ∧ RelV v u ∧ D.rt v H'
def PE (X : Cx) (e : Expr) (t : TE) : Prop :=
  ∀ (pins : List (Addr × Obj)) (s : Shared) (σ : St) (H : Hp) (Q : VK), Inv X pins σ H s → t σ H Q → wpAny (model X.prog X.w) X.A (eval e X.env) (EP X pins σ Q) X.xe s
def PT (X : Cx) (e : Expr) (t : TT) : Prop :=
  ∀ (pins : List (Addr × Obj)) (s : Shared) (σ : St) (H : Hp) (Q : Bool → Hp → Prop), Inv X pins σ H s → t σ H Q → wpAny (model X.prog X.w) X.A (isTrue e X.env (eval e X.env)) (TP X pins σ Q) X.xe s
def PW (X : Cx) (e : Expr) (t : TT) : Prop :=
  ∀ (whole : Sem Value) (pins : List (Addr × Obj)) (s : Shared) (σ : St) (H : Hp) (Q : Bool → Hp → Prop), Inv X pins σ H s → t σ H Q → wpAny (model X.prog X.w) X.A (isTrue e X.env whole) (TP X pins σ Q) X.xe s
theorem PW.pt {X : Cx} {e : Expr} {t : TT} (h : PW X e t) : PT X e t := h _
def PA (X : Cx) (es : List Expr) (t : TA) : Prop :=
  ∀ (pos : Pos) (pins : List (Addr × Obj)) (s : Shared) (σ : St) (H : Hp) (Q : List V → Hp → Prop), Inv X pins σ H s → t σ H Q → wpAny (model X.prog X.w) X.A (spliced (backTo pos (starEach es X.env))) (AP X pins σ Q) X.xe s
def PS (X : Cx) (st : Stmt) (t : TS) : Prop :=
  ∀ (pins : List (Addr × Obj)) (s : Shared) (σ : St) (H : Hp) (D : Ends), Inv X pins σ H s → t D σ H → wpAny (model X.prog X.w) X.A (exec st X.env) (SP X pins D) X.xe s
def PSs (X : Cx) (st : List Stmt) (t : TS) : Prop :=
  ∀ (pins : List (Addr × Obj)) (s : Shared) (σ : St) (H : Hp) (D : Ends), Inv X pins σ H s → t D σ H → wpAny (model X.prog X.w) X.A (execs st X.env) (SP X pins D) X.xe s
theorem thn {α : Type} {t : Sem α} {Q Q' : α → Shared → Prop} {M : Model} {A : Around} {E : Value → Shared → Prop} {s : Shared} (h : wpAny M A t Q E s) (hQ : ∀ a s, Q a s → Q' a s) : wpAny M A t Q' E s := wpAny_mono h hQ fun _ _ x => x
end L2
namespace L2
open PySem PySem.Spec PyProof.Rows
section
variable {X : Cx}
def tVar (i : Nat) : TE := fun σ H Q => ∃ v, σ[i]? = some (some v) ∧ Q v H
def tC (v : V) : TE := fun _ H Q => Q v H
theorem pe_var {i : Nat} {x : Str} {pos : Pos} (hN : X.N[i]? = some x) (hv : Vis X.env.scope x) (hd : (x == ("__debug__" : Str)) = false := by decide) (hcd : (x == ("__classdict__" : Str)) = false := by decide) : PE X (.Name x pos) (tVar i) := by
  intro pins s σ H Q I h
  obtain ⟨v, e, h⟩ := h
  obtain ⟨m, hn, hl⟩ := I.loc
  obtain ⟨u, r, l⟩ := hl i x v hN e hv
  have fin : EP X pins σ Q u s := ⟨v, H, I, r, h⟩
  rcases l with ⟨hk, hm⟩ | ⟨hk, c, hc, hcell⟩
  · exact wpAny_Name (wpAny_loadName_local I.ok.kind hk hn hm fin) hd
  · rcases hk with hk | hk
    · exact wpAny_Name (wpAny_loadName_cell I.ok.kind hk hc hcell fin) hd
    · exact wpAny_Name (wpAny_loadName_free I.ok.kind hk hc hcell fin hcd) hd
theorem pe_int {i j pos} : PE X (.Constant (.int i) j pos) (tC (.int i)) := fun _ _ _ H _ I h => wpAny_Constant_int ⟨.int i, H, I.tok _, ⟨_, rfl⟩, h⟩
theorem pe_bl {b j pos} : PE X (.Constant (.bool b) j pos) (tC (.bl b)) := fun _ _ _ H _ I h => Constant_bool ⟨.bl b, H, I, rfl, h⟩
theorem pe_non {j pos} : PE X (.Constant .none j pos) (tC .non) := fun _ _ _ H _ I h => Constant_none ⟨.non, H, I, rfl, h⟩
theorem pe_str {x j pos} : PE X (.Constant (.str x) j pos) (tC (.str x)) := fun _ _ _ H _ I h => Calls.Constant_str ⟨.str x, H, I.tok _, ⟨_, rfl⟩, h⟩
def Gl (X : Cx) (x : Str) : Prop := X.env.kindOf x = some .globalImplicit
theorem ld_glob {E : Value → Shared → Prop} {pins : List (Addr × Obj)} {s : Shared} {σ : St} {H : Hp} {x : Str} {u : Value} {pos : Pos} {Q : Value → Shared → Prop} (I : Inv X pins σ H s) (hg : Gl X x) (hm : X.mg x = some u) (h : Q u s)
    (hd : (x == ("__debug__" : Str)) = false := by decide) : wpAny (model X.prog X.w) X.A (eval (.Name x pos) X.env) Q E s :=
  Calls.Name_function_global I.ok.kind hg (Calls.loadGlobal_global (by rw [I.ok.glob]; exact I.mod.glob.keeps I.bk) hm h) hd
theorem ld_blt {E : Value → Shared → Prop} {pins : List (Addr × Obj)} {s : Shared} {σ : St} {H : Hp} {x : Str} {u : Value} {pos : Pos} {Q : Value → Shared → Prop} (I : Inv X pins σ H s) (hg : Gl X x) (hm : X.mg x = none) (hv : bootBuiltins x = some u) (h : Q u s)
    (hn : x ≠ "__name__" := by decide) (hd : (x == ("__debug__" : Str)) = false := by decide) : wpAny (model X.prog X.w) X.A (eval (.Name x pos) X.env) Q E s := by
  obtain ⟨mb, h1, h2⟩ := I.mod.blt
  exact Calls.Name_function_global I.ok.kind hg (Calls.loadGlobal_builtin (by rw [I.ok.glob]; exact I.mod.glob.keeps I.bk) hm (by rw [I.ok.blt]; exact h1.keeps I.bk) ((h2 x hn).trans hv) h) hd
theorem pe_glob {x : Str} {v : V} {u : Value} {pos : Pos} (hg : Gl X x) (hm : X.mg x = some u) (r : RelV v u) (hd : (x == ("__debug__" : Str)) = false := by decide) : PE X (.Name x pos) (tC v) :=
  fun _ _ _ H _ I h => ld_glob I hg hm ⟨v, H, I, r, h⟩ hd
theorem pe_bltn {x : Str} {v : V} {u : Value} {pos : Pos} (hg : Gl X x) (hm : X.mg x = none) (hv : bootBuiltins x = some u) (r : RelV v u) (hn : x ≠ "__name__" := by decide) (hd : (x == ("__debug__" : Str)) = false := by decide) : PE X (.Name x pos) (tC v) :=
  fun _ _ _ H _ I h => ld_blt I hg hm hv ⟨v, H, I, r, h⟩ hn hd
variable {a b : Expr} {ta tb : TE} {pos : Pos}
def PC (X : Cx) (op : CmpOp) (a b : Expr) (t : TE) : Prop :=
  ∀ (pins : List (Addr × Obj)) (s : Shared) (σ : St) (H : Hp) (Q : VK), Inv X pins σ H s → t σ H Q →
    wpAny (model X.prog X.w) X.A (eval a X.env) (fun v s₁ => wpAny (model X.prog X.w) X.A (eval b X.env) (fun u s₂ => wpAny (model X.prog X.w) X.A (compareOp op v u) (EP X pins σ Q) X.xe s₂) X.xe s₁) X.xe s
theorem nobehind (b : Expr) {op : CmpOp} (h : op ≠ .In) (h2 : op ≠ .NotIn) : behindInMarks op b = false := by
  have e1 : (op == CmpOp.In) = false := by cases op <;> first | rfl | exact absurd rfl h
  have e2 : (op == CmpOp.NotIn) = false := by cases op <;> first | rfl | exact absurd rfl h2
  cases b <;> simp [behindInMarks, e1, e2]
def tB (t : TE) : TT := fun σ H Q => t σ H fun x H1 => ∃ c, x = .bl c ∧ Q c H1
theorem pt_cmp {op : CmpOp} {t : TE} (h : PC X op a b t) (h1 : behindInMarks op b = false := by first | exact nobehind _ (by decide) (by decide) | rfl) : PT X (.Compare a [op] [b] pos) (tB t) := by
  intro pins s σ H Q I hw
  refine wpAny_isTrue_Compare1 (thn (h pins s σ H _ I hw) fun v s1 h1 => thn h1 fun u s2 h2 => thn h2 fun c s3 ⟨x, H1, I1, r1, q1⟩ => ?_) h1
  obtain ⟨d, rfl, q⟩ := q1
  cases r1
  exact wpAny_truthy_bool ⟨H1, I1, q⟩
theorem pt_val {e : Expr} {t : TE} (h : PE X e t) (he : ∀ whole, isTrue e X.env whole = (do let v ← whole; standAt e.pos; holding [v] (truthy v)) := by intro _; rfl) : PT X e (tB t) := by
  intro pins s σ H Q I hw
  refine isTrue_plain (thn (h pins s σ H _ I hw) fun v s1 ⟨x, H1, I1, r1, q1⟩ => ?_) (he _)
  obtain ⟨d, rfl, q⟩ := q1
  cases r1
  exact wpAny_truthy_bool ⟨H1, I1, q⟩
variable {tA tB' : TT} {rest : List Expr}
def tAnd (t u : TT) : TT := fun σ H Q => t σ H fun c H1 => if c = true then u σ H1 Q else Q false H1
def tOr (t u : TT) : TT := fun σ H Q => t σ H fun c H1 => if c = true then Q true H1 else u σ H1 Q
def tNot (t : TT) : TT := fun σ H Q => t σ H fun c H1 => Q (!c) H1
theorem pw_and1 (ha : PT X a tA) : PW X (.BoolOp .And [a] pos) tA := by
  intro wh pins s σ H Q I h
  refine isTrue_and (thn (ha pins s σ H Q I h) fun c s1 e => ?_)
  cases c with
  | true => exact isTrue_and_nil e
  | false => exact e
theorem pw_or1 (ha : PT X a tA) : PW X (.BoolOp .Or [a] pos) tA := by
  intro wh pins s σ H Q I h
  refine isTrue_or (thn (ha pins s σ H Q I h) fun c s1 e => ?_)
  cases c with
  | false => exact isTrue_or_nil e
  | true => exact e
theorem pw_and (ha : PT X a tA) (hb : PW X (.BoolOp .And (b :: rest) pos) tB') : PW X (.BoolOp .And (a :: b :: rest) pos) (tAnd tA tB') := by
  intro wh pins s σ H Q I h
  refine isTrue_and (thn (ha pins s σ H _ I h) fun c s1 ⟨H1, I1, q1⟩ => ?_)
  cases c with
  | true => exact hb wh pins s1 σ H1 Q I1 q1
  | false => exact ⟨H1, I1, q1⟩
theorem pw_or (ha : PT X a tA) (hb : PW X (.BoolOp .Or (b :: rest) pos) tB') : PW X (.BoolOp .Or (a :: b :: rest) pos) (tOr tA tB') := by
  intro wh pins s σ H Q I h
  refine isTrue_or (thn (ha pins s σ H _ I h) fun c s1 ⟨H1, I1, q1⟩ => ?_)
  cases c with
  | true => exact ⟨H1, I1, q1⟩
  | false => exact hb wh pins s1 σ H1 Q I1 q1
theorem pt_not (ha : PT X a tA) : PT X (.UnaryOp .Not a pos) (tNot tA) := by
  intro pins s σ H Q I h
  exact isTrue_not (ha pins s σ H (fun c H1 => Q (!c) H1) I h)
def tAndV (ta tb : TE) : TE := fun σ H Q => ta σ H fun x H1 => ∃ c, x = .bl c ∧ if c = true then tb σ H1 Q else Q (.bl false) H1
def tOrV (ta tb : TE) : TE := fun σ H Q => ta σ H fun x H1 => ∃ c, x = .bl c ∧ if c = true then Q (.bl true) H1 else tb σ H1 Q
def tNotV (ta : TE) : TE := fun σ H Q => ta σ H fun x H1 => ∃ c, x = .bl c ∧ Q (.bl (!c)) H1
theorem pe_one {op} {t : TE} (h : PE X a t) : PE X (.BoolOp op [a] pos) t := fun pins s σ H Q I hw => BoolOp_one (h pins s σ H Q I hw)
theorem pe_and (ha : PE X a ta) (hb : PE X (.BoolOp .And (b :: rest) pos) tb) : PE X (.BoolOp .And (a :: b :: rest) pos) (tAndV ta tb) := by
  intro pins s σ H Q I h
  refine BoolOp_and (thn (ha pins s σ H _ I h) fun v s1 ⟨x, H1, I1, r1, q1⟩ => ?_)
  obtain ⟨c, rfl, q1⟩ := q1
  cases r1
  refine wpAny_truthy_bool ?_
  cases c with
  | true => exact hb pins s1 σ H1 Q I1 q1
  | false => exact ⟨.bl false, H1, I1, rfl, q1⟩
theorem pe_or (ha : PE X a ta) (hb : PE X (.BoolOp .Or (b :: rest) pos) tb) : PE X (.BoolOp .Or (a :: b :: rest) pos) (tOrV ta tb) := by
  intro pins s σ H Q I h
  refine BoolOp_or (thn (ha pins s σ H _ I h) fun v s1 ⟨x, H1, I1, r1, q1⟩ => ?_)
  obtain ⟨c, rfl, q1⟩ := q1
  cases r1
  refine wpAny_truthy_bool ?_
  cases c with
  | false => exact hb pins s1 σ H1 Q I1 q1
  | true => exact ⟨.bl true, H1, I1, rfl, q1⟩
theorem pe_not (ha : PE X a ta) : PE X (.UnaryOp .Not a pos) (tNotV ta) := by
  intro pins s σ H Q I h
  refine UnaryOp_ (thn (ha pins s σ H _ I h) fun v s1 ⟨x, H1, I1, r1, q1⟩ => ?_)
  obtain ⟨c, rfl, q1⟩ := q1
  cases r1
  exact not_of (wpAny_truthy_bool ⟨.bl (!c), H1, I1, rfl, q1⟩)
def tIf (t : TT) (ta tb : TE) : TE := fun σ H Q => t σ H fun c H1 => if c = true then ta σ H1 Q else tb σ H1 Q
theorem pe_ifExp {c : Expr} (hc : PT X c tA) (ha : PE X a ta) (hb : PE X b tb) : PE X (.IfExp c a b pos) (tIf tA ta tb) := by
  intro pins s σ H Q I h
  refine wpAny_IfExp (thn (hc pins s σ H _ I h) fun d s1 ⟨H1, I1, q1⟩ => ?_)
  cases d with
  | true => exact ha pins s1 σ H1 Q I1 q1
  | false => exact hb pins s1 σ H1 Q I1 q1
end
end L2
namespace L2
open PySem PySem.Spec PyProof.Rows
def SqL (K : PySem.W.Frag) (H : Hp) (a : Addr) (xs : List V) : Prop :=
  Rd H a (.lst xs) ∨
    ∃ (o : Obj) (its : Array Value) (n : Nat), K.lookup a = some o ∧ o.cls = .type "list" ∧ o.dict = none ∧ o.data = .seq its n ∧ its.size ≤ sizeLine ∧ Vals xs its.toList
def SqT (K : PySem.W.Frag) (H : Hp) (a : Addr) (xs : List V) : Prop :=
  Rd H a (.tup xs) ∨
    ∃ (o : Obj) (its : Array Value) (n : Nat), K.lookup a = some o ∧ o.cls = .type "tuple" ∧ o.data = .seq its n ∧ its.size ≤ sizeLine ∧ Vals xs its.toList
def absV : Value → Option V
  | .none => some .non
  | .bool b => some (.bl b)
  | .int i _ => some (.int i)
  | .str x _ => some (.str x)
  | .bytes b _ => some (.byt b)
  | .float b _ => some (.flt b)
  | .ref a => some (.ref a)
  | .type n => some (.ty n)
  | _ => none
theorem RelV.abs {x : V} {u : Value} (r : RelV x u) : absV u = some x := by
  cases x with
  | non => cases r; rfl
  | bl _ => cases r; rfl
  | int _ => obtain ⟨t, rfl⟩ := r; rfl
  | str _ => obtain ⟨t, rfl⟩ := r; rfl
  | byt _ => obtain ⟨t, rfl⟩ := r; rfl
  | flt _ => obtain ⟨t, rfl⟩ := r; rfl
  | ref _ => cases r; rfl
  | ty _ => cases r; rfl
theorem RelV.inj {x y : V} {u : Value} (r : RelV x u) (q : RelV y u) : x = y := Option.some.inj (r.abs.symm.trans q.abs)
theorem Vals.inj : ∀ {xs ys : List V} {us : List Value}, Vals xs us → Vals ys us → xs = ys
  | _, _, _, .nil, .nil => rfl
  | _, _, _, .cons r t, .cons r' t' => by rw [r.inj r', Vals.inj t t']
section
variable {X : Cx} {pins : List (Addr × Obj)} {σ : St} {H : Hp} {s : Shared} {a : Addr} {xs ys : List V}
theorem SqL.of {K : PySem.W.Frag} (h : H a = some (.lst xs)) : SqL K H a xs := .inl (.inl h)
theorem SqT.of {K : PySem.W.Frag} (h : H a = some (.tup xs)) : SqT K H a xs := .inl (.inl h)
theorem Inv.list (I : Inv X pins σ H s) (h : SqL X.K H a xs) : ∃ its : List Value, Vals xs its ∧ PlainL s.heap a its.toArray ∧ xs.length ≤ sizeLine := by
  rcases h with h | ⟨o, its, n, hk, hc, hd, hs, hz, r⟩
  · obtain ⟨z, its, n, r, e⟩ := h.ok I.hok
    exact ⟨its, r, ⟨_, n, e, rfl, rfl, rfl⟩, z⟩
  · refine ⟨its.toList, r, ⟨o, n, I.kIn a o hk, hc, hd, by simpa using hs⟩, ?_⟩
    have e := r.length
    simp only [Array.length_toList] at e
    omega
theorem Inv.tuple (I : Inv X pins σ H s) (h : SqT X.K H a xs) : ∃ its : List Value, Vals xs its ∧ IsTup s.heap a its.toArray ∧ xs.length ≤ sizeLine := by
  rcases h with h | ⟨o, its, n, hk, hc, hs, hz, r⟩
  · obtain ⟨z, its, r, p⟩ := h.ok I.hok
    exact ⟨its, r, p, z⟩
  · refine ⟨its.toList, r, ⟨o, I.kIn a o hk, hc, n, by simpa using hs⟩, ?_⟩
    have e := r.length
    simp only [Array.length_toList] at e
    omega
theorem Inv.list_inj (I : Inv X pins σ H s) (h : SqL X.K H a xs) (h' : SqL X.K H a ys) : xs = ys := by
  obtain ⟨its, r, ⟨o, n, e, _, _, d⟩, _⟩ := I.list h
  obtain ⟨its', r', ⟨o', n', e', _, _, d'⟩, _⟩ := I.list h'
  rw [e] at e'; cases e'
  rw [d] at d'
  injection d' with d1 _
  have : its = its' := by simpa using congrArg Array.toList d1
  subst this
  exact r.inj r'
end
abbrev Cx.wish (X : Cx) (E : Value → Shared → Prop) : Cx := { X with xe := E }
abbrev Cx.nox (X : Cx) : Cx := X.wish fun _ _ => False
theorem Cx.Ok.wish {X : Cx} (ok : X.Ok) (E : Value → Shared → Prop) : (X.wish E).Ok :=
  ⟨ok.mod, ok.kind, ok.glob, ok.blt, ok.above, ok.inj, ok.has, ok.cab, ok.hd, ok.frames, ok.stk, ok.exf, ok.bs, ok.bsz, ok.noex, ok.exfs, ok.funs, ok.frf⟩
theorem Cx.Ok.unwish {X : Cx} {E : Value → Shared → Prop} (ok : (X.wish E).Ok) : X.Ok :=
  ⟨ok.mod, ok.kind, ok.glob, ok.blt, ok.above, ok.inj, ok.has, ok.cab, ok.hd, ok.frames, ok.stk, ok.exf, ok.bs, ok.bsz, ok.noex, ok.exfs, ok.funs, ok.frf⟩
section
variable {X : Cx} {pins : List (Addr × Obj)} {σ : St} {H : Hp} {s : Shared} {E : Value → Shared → Prop}
theorem Inv.wish (I : Inv X pins σ H s) (E : Value → Shared → Prop) : Inv (X.wish E) pins σ H s := ⟨I.ok.wish E, I.os, I.bare, I.base, I.loc, I.cell, I.free, I.freeC, I.pin, I.hok, I.len⟩
theorem Inv.unwish (I : Inv (X.wish E) pins σ H s) : Inv X pins σ H s := ⟨I.ok.unwish, I.os, I.bare, I.base, I.loc, I.cell, I.free, I.freeC, I.pin, I.hok, I.len⟩
theorem SP.unwish {D : Ends} {f : Flow} {s' : Shared} (h : SP (X.wish E) pins D f s') : SP X pins D f s' := by
  cases f with
  | next => obtain ⟨σ', H', I, q⟩ := h; exact ⟨σ', H', I.unwish, q⟩
  | brk => obtain ⟨σ', H', I, q⟩ := h; exact ⟨σ', H', I.unwish, q⟩
  | cont => obtain ⟨σ', H', I, q⟩ := h; exact ⟨σ', H', I.unwish, q⟩
  | ret u => obtain ⟨v, σ', H', I, r, q⟩ := h; exact ⟨v, σ', H', I.unwish, r, q⟩
theorem PE.nox {e : Expr} {t : TE} (h : PE X.nox e t) : PE X e t := fun pins s σ H Q I hw =>
  wpAny_mono (h pins s σ H Q (I.wish _) hw) (fun _ _ ⟨v, H', I', r, q⟩ => ⟨v, H', I'.unwish, r, q⟩) fun _ _ z => False.elim z
theorem PT.nox {e : Expr} {t : TT} (h : PT X.nox e t) : PT X e t := fun pins s σ H Q I hw =>
  wpAny_mono (h pins s σ H Q (I.wish _) hw) (fun _ _ ⟨H', I', q⟩ => ⟨H', I'.unwish, q⟩) fun _ _ z => False.elim z
theorem PSs.nox {st : List Stmt} {t : TS} (h : PSs X.nox st t) : PSs X st t := fun pins s σ H D I hw =>
  wpAny_mono (h pins s σ H D (I.wish _) hw) (fun _ _ q => q.unwish) fun _ _ z => False.elim z
end
section
variable {X : Cx} {st : Stmt} {rest : List Stmt} {t u : TS} {e : Expr} {te : TE} {pos : Pos}
def tNext : TS := fun D σ H => D.nx σ H
def tSeq (t u : TS) : TS := fun D σ H => t { D with nx := u D } σ H
theorem pss_nil : PSs X [] tNext := fun _ _ σ H _ I h => wpAny_execs_nil ⟨σ, H, I, h⟩
theorem pss_cons (h1 : PS X st t) (h2 : PSs X rest u) : PSs X (st :: rest) (tSeq t u) := by
  intro pins s σ H D I h
  refine wpAny_execs_cons (thn (h1 pins s σ H { D with nx := u D } I h) fun f s1 q => ?_)
  cases f with
  | next =>
    obtain ⟨σ', H', I', q⟩ := q
    exact h2 pins s1 σ' H' D I' q
  | ret v => exact q
  | brk => exact q
  | cont => exact q
theorem pss_one (h1 : PS X st t) : PSs X [st] t := by
  intro pins s σ H D I h
  refine wpAny_execs_cons (thn (h1 pins s σ H D I h) fun f s1 q => ?_)
  cases f with
  | next => exact wpAny_execs_nil q
  | ret v => exact q
  | brk => exact q
  | cont => exact q
theorem Inv.quiet {pins : List (Addr × Obj)} {σ : St} {H : Hp} {s : Shared} (I : Inv X pins σ H s) : interactive X.env = false := by simp [interactive, I.ok.kind]
def tDrop (te : TE) : TS := fun D σ H => te σ H fun _ H1 => D.nx σ H1
theorem ps_expr (he : PE X e te) (hs : swapsWith e none pos.line X.env = pure false := by rfl) : PS X (.Expr e pos) (tDrop te) := by
  intro pins s σ H D I h
  exact wpAny_Expr_any (thn (he pins s σ H _ I h) fun v s1 ⟨x, H1, I1, r1, q1⟩ => ⟨σ, H1, I1, q1⟩) I.quiet hs
def tRet (te : TE) : TS := fun D σ H => te σ H D.rt
theorem ps_ret (he : PE X e te) : PS X (.Return (some e) pos) (tRet te) := by
  intro pins s σ H D I h
  exact wpAny_Return_some (thn (he pins s σ H _ I h) fun v s1 ⟨x, H1, I1, r1, q1⟩ => ⟨x, σ, H1, I1, r1, q1⟩)
def tRetN : TS := fun D _ H => D.rt .non H
def tIfS (c : TT) (t u : TS) : TS := fun D σ H => c σ H fun b H1 => if b = true then t D σ H1 else u D σ H1
theorem ps_if {c : Expr} {a b : List Stmt} {tc : TT} (hc : PT X c tc) (ha : PSs X a t) (hb : PSs X b u) : PS X (.If c a b pos) (tIfS tc t u) := by
  intro pins s σ H D I h
  refine wpAny_If (thn (hc pins s σ H _ I h) fun d s1 ⟨H1, I1, q1⟩ => ?_)
  cases d with
  | true => exact ha pins s1 σ H1 D I1 q1
  | false => exact hb pins s1 σ H1 D I1 q1
def tNever : TS := fun _ _ _ => False
end
abbrev TG := V → St → Hp → (St → Hp → Prop) → Prop
abbrev TGs := List V → St → Hp → (St → Hp → Prop) → Prop
def PG (X : Cx) (target : Expr) (t : TG) : Prop :=
  ∀ (pins : List (Addr × Obj)) (s : Shared) (σ : St) (H : Hp) (v : V) (u : Value) (Q : St → Hp → Prop), Inv X pins σ H s → RelV v u → t v σ H Q →
    wpAny (model X.prog X.w) X.A (assign target X.env u) (fun _ s' => ∃ σ' H', Inv X pins σ' H' s' ∧ Q σ' H') X.xe s
def PGs (X : Cx) (ts : List Expr) (t : TGs) : Prop :=
  ∀ (pins : List (Addr × Obj)) (s : Shared) (σ : St) (H : Hp) (vs : List V) (us : List Value) (Q : St → Hp → Prop), Inv X pins σ H s → Vals vs us → t vs σ H Q →
    wpAny (model X.prog X.w) X.A (assignInOrder ((assignEach ts X.env).map (·.2)) us) (fun _ s' => ∃ σ' H', Inv X pins σ' H' s' ∧ Q σ' H') X.xe s
abbrev TSet := V → V → V → Hp → (Hp → Prop) → Prop
def PSet (X : Cx) (t : TSet) : Prop :=
  ∀ (pins : List (Addr × Obj)) (s : Shared) (σ : St) (H : Hp) (o i v : V) (ov iv u : Value) (Q : Hp → Prop), Inv X pins σ H s → RelV o ov → RelV i iv → RelV v u → t o i v H Q →
    wpAny (model X.prog X.w) X.A (setItem ov iv u) (fun _ s' => ∃ H', Inv X pins σ H' s' ∧ Q H') X.xe s
abbrev TIp := V → V → Hp → VK → Prop
section
variable {X : Cx} {pos : Pos}
def gName (i : Nat) : TG := fun v σ H Q => Q (σ.set i (some v)) H
theorem pg_name {i : Nat} {x : Str} (hN : X.N.Nodup) (hi : X.N[i]? = some x) (hx : Loc X.env.scope x) (hf : X.fn x = true ∨ X.env.scope.names.lookup x = some .local := by first | exact .inl rfl | exact .inr rfl | assumption) : PG X (.Name x pos) (gName i) := by
  intro pins s σ H v u Q I r h
  exact wpAny_assign_Name (store_ok I hN hi hx r (fun s' I' => ⟨_, H, I', h⟩) hf)
def gNil : TGs := fun vs σ H Q => vs = [] ∧ Q σ H
def gCons (t : TG) (u : TGs) : TGs := fun vs σ H Q => ∃ v r, vs = v :: r ∧ t v σ H fun σ' H' => u r σ' H' Q
theorem pgs_nil : PGs X [] gNil := by
  intro pins s σ H vs us Q I r h
  obtain ⟨e, h⟩ := h
  subst e
  cases r
  exact assignInOrder_nil ⟨σ, H, I, h⟩
theorem pgs_cons {e : Expr} {es : List Expr} {t : TG} {u : TGs} (h1 : PG X e t) (h2 : PGs X es u)
    (hs : (assignEach (e :: es) X.env).map (·.2) = assign e X.env :: (assignEach es X.env).map (·.2) := by rfl) : PGs X (e :: es) (gCons t u) := by
  intro pins s σ H vs us Q I r h
  obtain ⟨v, vr, e1, h⟩ := h
  subst e1
  cases r with
  | cons r rr =>
    rw [hs]
    refine assignInOrder_cons (thn (h1 pins s σ H _ _ _ I r h) fun _ s1 ⟨σ1, H1, I1, q1⟩ => ?_)
    exact h2 pins s1 σ1 H1 _ _ Q I1 rr q1
def gTup (K : PySem.W.Frag) (n : Nat) (t : TGs) : TG := fun v σ H Q => ∃ a xs, v = .ref a ∧ SqT K H a xs ∧ xs.length = n ∧ t xs σ H Q
theorem pg_tup {es : List Expr} {k : Nat} {t : TGs} {n : Nat} (hc : X.calm = true) (h : PGs X es t)
    (hn : (assignEach es X.env).length = n := by rfl) (hst : (assignEach es X.env).findIdx? (·.1) = none := by rfl) : PG X (.Tuple es k pos) (gTup X.K n t) := by
  intro pins s σ H v u Q I r hw
  obtain ⟨a, xs, e1, hq, hl, hw⟩ := hw
  subst e1
  cases r
  obtain ⟨its, rv, ht, hz⟩ := I.tuple hq
  refine assign_Tuple_tuple (I.ok.hd hc) ht (by simp [hn, ← hl, rv.length]) hst fun h' hx => ?_
  have I1 : Inv X pins σ H { s with heap := h' } := I.kept (t' := s.toks) fun b o e => hx b o (Nat.ne_of_lt (Heap.lt_size e)) e
  exact h pins _ σ H xs _ Q I1 (by simpa using rv) hw
def gSub (to ti : TE) (t : TSet) : TG := fun v σ H Q => to σ H fun o H1 => ti σ H1 fun i H2 => t o i v H2 fun H3 => Q σ H3
theorem pg_sub {o i : Expr} {to ti : TE} {t : TSet} (ho : PE X o to) (hi : PE X i ti) (hs : PSet X t)
    (ha : ∀ v, assign (.Subscript o i pos) X.env v = (do
      let ov ← holding [v] (eval o X.env)
      let iv ← holding [v, ov] (eval i X.env)
      standAt pos
      holding [v, ov, iv] (setItem ov iv v)
      release [v, ov, iv] []) := by intro _; rfl) : PG X (.Subscript o i pos) (gSub to ti t) := by
  intro pins s σ H v u Q I r h
  rw [ha]
  refine wpAny_bind (wpAny_holding (thn (ho pins s σ H _ I h) fun ov s1 ⟨x, H1, I1, r1, q1⟩ => ?_))
  refine wpAny_bind (wpAny_holding (thn (hi pins s1 σ H1 _ I1 q1) fun iv s2 ⟨y, H2, I2, r2, q2⟩ => ?_))
  refine wpAny_bind (wpAny_standAt (wpAny_bind (wpAny_holding (thn (hs pins s2 σ H2 x y v ov iv u _ I2 r1 r2 r q2) fun _ s3 ⟨H3, I3, q3⟩ => ?_))))
  exact wpAny_release ⟨σ, H3, I3, q3⟩
def tAsg (te : TE) (g : TG) : TS := fun D σ H => te σ H fun x H1 => g x σ H1 D.nx
theorem ps_asg {tg e : Expr} {te : TE} {g : TG} (he : PE X e te) (hg : PG X tg g) (hs : swapsWithSole [tg] e pos.line X.env = pure false := by rfl) (hw : swappedStores [tg] e X.env = pure none := by rfl)
    (h1 : (assignEach [tg] X.env).map (·.2) = [assign tg X.env] := by rfl) : PS X (.Assign [tg] e pos) (tAsg te g) := by
  intro pins s σ H D I h
  refine wpAny_Assign_stores (thn (he pins s σ H _ I h) fun v s1 ⟨x, H1, I1, r1, q1⟩ => ?_) hs hw
  rw [h1]
  exact thn (hg pins s1 σ H1 x v _ I1 r1 q1) fun _ s2 q => q
theorem ps_set {i : Nat} {x : Str} {e : Expr} {te : TE} {pos' : Pos} (hN : X.N.Nodup) (hi : X.N[i]? = some x) (hx : Loc X.env.scope x) (he : PE X e te) (hs : swapsWith e (some (.Name x pos')) pos.line X.env = pure false := by rfl) (hf : X.fn x = true ∨ X.env.scope.names.lookup x = some .local := by first | exact .inl rfl | exact .inr rfl | assumption) :
    PS X (.Assign [.Name x pos'] e pos) (tAsg te (gName i)) := by
  intro pins s σ H D I h
  refine wpAny_Assign_Name (thn (he pins s σ H _ I h) fun v s1 ⟨y, H1, I1, r1, q1⟩ => ?_) hs
  exact store_ok I1 hN hi hx r1 (fun s2 I2 => ⟨_, H1, I2, q1⟩) hf
def tAug (i : Nat) (te : TE) (ti : TIp) : TS := fun D σ H => ∃ x, σ[i]? = some (some x) ∧ te σ H fun y H1 => ti x y H1 fun z H2 => D.nx (σ.set i (some z)) H2
def ipI (f : Int → Int → Int) : TIp := fun x y H Q => ∃ i j, x = .int i ∧ y = .int j ∧ Q (.int (f i j)) H
end
section
variable {X : Cx} {pos : Pos}
def tWhile (c : TT) (tb : TS) : TS := fun D σ H => ∃ W : Nat → St → Hp → Prop, (∃ m, W m σ H) ∧ ∀ m σ H, W m σ H →
  c σ H fun b H1 => if b = true then ∃ N : St → Hp → Prop, (∀ σ' H', N σ' H' → ∃ m', m' < m ∧ W m' σ' H') ∧ tb { D with nx := N, ct := N, bk := D.nx } σ H1 else D.nx σ H1
theorem ps_while {c : Expr} {body : List Stmt} {tc : TT} {tb : TS} (hp : PassesOwn (model X.prog X.w) X.A X.env X.xe) (hc : PT X c tc) (hb : PSs X body tb) : PS X (.While c body [] pos) (tWhile tc tb) := by
  intro pins s σ H D I h
  obtain ⟨W, ⟨m0, w0⟩, turn⟩ := h
  refine wpAny_While (codeAny_whileLoop (fun n s' => ∃ σ' H', Inv X pins σ' H' s' ∧ W n σ' H') ?_ m0 ⟨σ, H, I, w0⟩)
  rintro n s1 ⟨σ1, H1, I1, w1⟩
  refine wpAny_passesOwn hp (thn (hc pins s1 σ1 H1 _ I1 (turn n σ1 H1 w1)) fun b s2 ⟨H2, I2, q2⟩ => ?_)
  cases b with
  | true =>
    obtain ⟨N, hN, q2⟩ := q2
    rw [if_pos rfl]
    refine wpAny_passesOwn hp (thn (hb pins s2 σ1 H2 _ I2 q2) fun f s3 q3 => ?_)
    cases f with
    | next =>
      obtain ⟨σ3, H3, I3, n3⟩ := q3
      obtain ⟨m', hm, w3⟩ := hN σ3 H3 n3
      exact ⟨m', hm, σ3, H3, I3, w3⟩
    | cont =>
      obtain ⟨σ3, H3, I3, n3⟩ := q3
      obtain ⟨m', hm, w3⟩ := hN σ3 H3 n3
      exact ⟨m', hm, σ3, H3, I3, w3⟩
    | brk => exact q3
    | ret v => exact q3
  | false =>
    rw [if_neg Bool.false_ne_true]
    exact wpAny_execs_nil ⟨σ1, H2, I2, q2⟩
end
structure It where
  go : Nat → Hp → Prop
  yld : Nat → Hp → V → Hp → Prop
  stop : Nat → Hp → Prop
def FpOk (X : Cx) (pins : List (Addr × Obj)) (H : Hp) (b : Addr) : Prop :=
  H b = none ∧ b ≠ X.env.locals ∧ b ∉ X.fs ∧ (b ∈ X.ex ∨ X.s₀.heap.objs.size ≤ b) ∧ (∀ x c, X.env.cells.lookup x = some c → c ≠ b) ∧ ∀ p ∈ X.pn ++ pins, p.1 ≠ b
theorem Inv.fpOk {X : Cx} {pins : List (Addr × Obj)} {σ : St} {H H' : Hp} {s : Shared} {b : Addr} (I : Inv X pins σ H s) (hb : s.heap.objs.size ≤ b) (hn : H' b = none) : FpOk X pins H' b := by
  refine ⟨hn, Nat.ne_of_gt (Nat.lt_of_lt_of_le I.lt hb), I.nofs hb, .inr (Nat.le_trans I.sz hb), fun x c e z => ?_, fun p hp z => ?_⟩
  · obtain ⟨v, q⟩ := I.cell x c e
    exact absurd (Nat.lt_of_lt_of_le q.lt (by rw [z]; exact hb)) (Nat.lt_irrefl _)
  · exact absurd (Nat.lt_of_lt_of_le (Heap.lt_size (I.pin p hp).1) (by rw [z]; exact hb)) (Nat.lt_irrefl _)
structure Turn (P : Program) (w : World) (K : PySem.W.Frag) (tg : Expr) (J : It) (fp : List Addr) (it : Addr) (tn : Nat → Heap → Prop) : Prop where
  mem : it ∈ fp
  obj : ∀ i h, tn i h → ∀ b ∈ fp, ∃ o, h.get? b = some o ∧ ∀ v, o.data ≠ .cell v
  keep : ∀ i h h', tn i h → (∀ b ∈ fp, ∀ o, h.get? b = some o → h'.get? b = some o) → tn i h'
  item : ∀ (X : Cx), X.prog = P → X.w = w → X.K = K → X.calm = true → ∀ (i : Nat) (pins : List (Addr × Obj)) (s : Shared) (σ : St) (H : Hp) (E : Value → Shared → Prop), Inv X pins σ H s → (∀ b ∈ fp, FpOk X pins H b) → tn i s.heap → J.go i H →
    wpAny (model P w) X.A (pyNext (.ref it)) (fun r s1 => ∃ u, r = some u ∧
      wpAny (model P w) X.A (letOwnedTupleGo tg (.ref it) u) (fun _ s2 => ∃ x H', Inv X pins σ H' s2 ∧ RelV x u ∧ J.yld i H x H' ∧ tn (i + 1) s2.heap ∧ ∀ b ∈ fp, H' b = none) E s1) E s
  done : ∀ (X : Cx), X.prog = P → X.w = w → X.K = K → X.calm = true → ∀ (i : Nat) (pins : List (Addr × Obj)) (s : Shared) (σ : St) (H : Hp) (E : Value → Shared → Prop), Inv X pins σ H s → (∀ b ∈ fp, FpOk X pins H b) → tn i s.heap → J.stop i H →
    wpAny (model P w) X.A (pyNext (.ref it)) (fun r s1 => r = none ∧ Inv X pins σ H s1) E s
  self : ∀ (A : Around) (i : Nat) (s : Shared) (Q : Value → Shared → Prop) (E : Value → Shared → Prop), tn i s.heap → Q (.ref it) s → wpAny (model P w) A (pyIter (.ref it)) Q E s
abbrev TI := St → Hp → (It → Hp → Prop) → Prop
def PIE (X : Cx) (pins : List (Addr × Obj)) (σ : St) (tg : Expr) (R : It → Hp → Prop) (itv : Value) (s2 : Shared) : Prop :=
  ∃ (it : Addr) (fp : List Addr) (tn : Nat → Heap → Prop) (J : It) (H' : Hp), itv = .ref it ∧ Inv X pins σ H' s2 ∧ Turn X.prog X.w X.K tg J fp it tn ∧ tn 0 s2.heap ∧ (∀ b ∈ fp, FpOk X pins H' b) ∧ R J H'
def PI (X : Cx) (tg iter : Expr) (wi : TI) : Prop :=
  ∀ (pins : List (Addr × Obj)) (s : Shared) (σ : St) (H : Hp) (R : It → Hp → Prop), Inv X pins σ H s → wi σ H R →
    wpAny (model X.prog X.w) X.A (eval iter X.env) (fun v s1 => wpAny (model X.prog X.w) X.A (pyIter v) (PIE X pins σ tg R) X.xe s1) X.xe s
theorem go_of {M : Model} {A : Around} {E : Value → Shared → Prop} {s : Shared} {tg : Expr} {it : Addr} {u : Value} {o : Obj} {n : String} {vs : Array Value} {Q : Unit → Shared → Prop} (ho : s.heap.get? it = some o) (hc : o.cls = .type n) (hd : o.data = .fields vs)
    (hn : ["enumerate", "zip", "dict_itemiterator", "dict_reverseitemiterator", "odict_iterator", "itertools.zip_longest", "itertools.pairwise"].contains n = false) (hQ : Q () s) : wpAny M A (letOwnedTupleGo tg (.ref it) u) Q E s := by
  unfold letOwnedTupleGo
  cases tg <;> first
    | exact wpAny_pure hQ
    | (cases u <;> first
        | exact wpAny_pure hQ
        | (refine wpAny_bind (wpAny_load ho ?_)
           rw [hc, hd]
           show wpAny M A (if (["enumerate", "zip", "dict_itemiterator", "dict_reverseitemiterator", "odict_iterator", "itertools.zip_longest", "itertools.pairwise"].contains n && vs[0]? == some (rawInt _)) = true then _ else _) Q E s
           rw [if_neg (by intro h; rw [hn, Bool.false_and] at h; cases h)]
           exact wpAny_pure hQ))
def Itl (K : PySem.W.Frag) (a : Addr) : It :=
  ⟨fun i H => ∃ xs x, SqL K H a xs ∧ xs[i]? = some x, fun i H x H' => H' = H ∧ ∀ xs, SqL K H a xs → xs[i]? = some x, fun i H => ∃ xs, SqL K H a xs ∧ xs.length ≤ i⟩
def Itt (K : PySem.W.Frag) (a : Addr) : It :=
  ⟨fun i H => ∃ xs x, SqT K H a xs ∧ xs[i]? = some x, fun i H x H' => H' = H ∧ ∀ xs, SqT K H a xs → xs[i]? = some x, fun i H => ∃ xs, SqT K H a xs ∧ xs.length ≤ i⟩
def Itr (lo : Int) (n : Nat) : It := ⟨fun i _ => i < n, fun i H x H' => H' = H ∧ x = .int (lo + i), fun i _ => n ≤ i⟩
theorem turn_list {P : Program} {w : World} {K : PySem.W.Frag} {tg : Expr} (a it : Addr) : Turn P w K tg (Itl K a) [it] it (fun i h => h.IsListIter it a i) where
  mem := by simp
  obj := fun i h st b hb => by
    have e : b = it := by simpa using hb
    subst e
    obtain ⟨o, e, c, d⟩ := st
    exact ⟨o, e, fun v z => by rw [d] at z; cases z⟩
  keep := fun i h h' st k => st.at fun o e => k it (by simp) o e
  item := by
    intro X hP hw hK hc i pins s σ H E I hf st hg
    subst hP hw hK
    obtain ⟨xs, x, hq, hx⟩ := hg
    obtain ⟨its, rv, p, hz⟩ := I.list hq
    obtain ⟨u, hu, ru⟩ := rv.get hx
    obtain ⟨f0, f1, f2, f3, f4, f5⟩ := hf it (by simp)
    refine wpAny_pyNext_list_item st p.isList (x := u) (by simpa using hu) fun h' st' sb => ?_
    have I1 : Inv X pins σ H { s with heap := h' } := I.turned (t' := s.toks) (fun b o hb e => (sb.2 b hb).trans e) f0 f1 f3 f4 f5
    obtain ⟨o, e, c, d⟩ := id st'
    exact ⟨u, rfl, go_of (s := { s with heap := h' }) e c d (by decide) ⟨x, H, I1, ru, ⟨rfl, fun ys hy => by rw [I.list_inj hy hq]; exact hx⟩, st', fun b hb => (hf b hb).1⟩⟩
  done := by
    intro X hP hw hK hc i pins s σ H E I hf st hg
    subst hP hw hK
    obtain ⟨xs, hq, hx⟩ := hg
    obtain ⟨its, rv, p, hz⟩ := I.list hq
    obtain ⟨f0, f1, f2, f3, f4, f5⟩ := hf it (by simp)
    have hl := rv.length
    exact wpAny_pyNext_list_end (I.ok.hd hc) st p.isList (by simp; omega) fun h' eb => ⟨rfl, I.turned (t' := s.toks) (fun b o hb e => eb b o hb e) f0 f1 f3 f4 f5⟩
  self := fun _ _ _ _ _ st h => wpAny_pyIter_listiter st h
theorem turn_range {P : Program} {w : World} {K : PySem.W.Frag} {tg : Expr} (it : Addr) (lo : Int) (n : Nat) : Turn P w K tg (Itr lo n) [it] it (fun i h => IsRangeIter h it (lo + (i : Nat) * 1) ((n : Int) - (i : Nat)) 1) where
  mem := by simp
  obj := fun i h st b hb => by
    have e : b = it := by simpa using hb
    subst e
    exact ⟨_, st, fun v z => by
      have z' : Data.fields _ = Data.cell v := z
      cases z'⟩
  keep := fun i h h' st k => k it (by simp) _ st
  item := by
    intro X hP hw hK hc i pins s σ H E I hf st hg
    subst hP hw hK
    obtain ⟨f0, f1, f2, f3, f4, f5⟩ := hf it (by simp)
    have W := Walks.range (prog := X.prog) (w := X.w) (I.ok.hd hc) it lo 1 n
    refine W.item i s _ _ hg st fun v h' tk hv st' kk => ?_
    obtain ⟨t, rfl⟩ := hv
    have I1 : Inv X pins σ H { s with heap := h', toks := tk } := I.turned (fun b o hb e => kk b o (by simpa using hb) e) f0 f1 f3 f4 f5
    refine ⟨_, rfl, go_of (s := { s with heap := h', toks := tk }) (n := "range_iterator") st' rfl rfl (by decide) ⟨.int (lo + i), H, I1, ⟨t, ?_⟩, ⟨rfl, rfl⟩, st', fun b hb => (hf b hb).1⟩⟩
    rw [Int.mul_one]
  done := by
    intro X hP hw hK hc i pins s σ H E I hf st hg
    subst hP hw hK
    obtain ⟨f0, f1, f2, f3, f4, f5⟩ := hf it (by simp)
    exact wpAny_pyNext_range_end (I.ok.hd hc) st (by have : n ≤ i := hg; omega) fun h' eb => ⟨rfl, I.turned (t' := s.toks) (fun b o hb e => eb b o hb e) f0 f1 f3 f4 f5⟩
  self := fun _ _ _ _ _ st h => wpAny_pyIter_rangeiter st h
end L2
namespace L2
open PySem PySem.Spec PyProof.Rows
section
variable {X : Cx} {tg : Expr}
def iList (K : PySem.W.Frag) (tl : TE) : TI := fun σ H R => tl σ H fun x H1 => ∃ a, x = .ref a ∧ (∃ xs, SqL K H1 a xs) ∧ R (Itl K a) H1
def iTup (K : PySem.W.Frag) (tl : TE) : TI := fun σ H R => tl σ H fun x H1 => ∃ a, x = .ref a ∧ (∃ xs, SqT K H1 a xs) ∧ R (Itt K a) H1
theorem pi_list {l : Expr} {tl : TE} (hl : PE X l tl) : PI X tg l (iList X.K tl) := by
  intro pins s σ H R I h
  refine thn (hl pins s σ H _ I h) fun v s1 ⟨x, H1, I1, r1, q1⟩ => ?_
  obtain ⟨a, e, ⟨xs, hq⟩, q⟩ := q1
  subst e
  cases r1
  obtain ⟨its, rv, p, hz⟩ := I1.list hq
  refine wpAny_pyIter_list p.isList ?_
  refine ⟨s1.heap.objs.size, [s1.heap.objs.size], _, _, H1, rfl, I1.kept (t' := s1.toks) fun b o e => Heap.get?_push_of_some _ e, turn_list a _, ⟨_, Heap.get?_push_size _ rfl, rfl, rfl⟩, fun b hb => ?_, q⟩
  have e : b = s1.heap.objs.size := by simpa using hb
  subst e
  exact I1.fpOk (Nat.le_refl _) (I1.hok.fresh (Nat.le_refl _))
theorem range_it {pins : List (Addr × Obj)} {σ : St} {H : Hp} {s : Shared} {R : It → Hp → Prop} {E : Value → Shared → Prop} {lo hi : Int} {t u v : Tok} {tk : Nat} (I : Inv X pins σ H s) (h1 : -(2 ^ 62) ≤ lo) (h2 : lo < 2 ^ 62) (h3 : -(2 ^ 62) ≤ hi) (h4 : hi < 2 ^ 62)
    (q : R (Itr lo (hi - lo).toNat) H) : wpAny (model X.prog X.w) X.A (pyIter (.ref s.heap.objs.size)) (PIE X pins σ tg R) E { s with heap := s.heap.push { cls := .type "range", data := .fields #[.int lo t, .int hi u, .int 1 v] }, toks := tk } := by
  refine wpAny_pyIter_range (IsRange.new ..) (small_one h1 h2 h3 h4) ?_
  have I1 : Inv X pins σ H { s with heap := s.heap.push { cls := .type "range", data := .fields #[.int lo t, .int hi u, .int 1 v] }, toks := tk } := I.kept fun b o e => Heap.get?_push_of_some _ e
  refine ⟨(s.heap.push { cls := .type "range", data := .fields #[.int lo t, .int hi u, .int 1 v] }).objs.size, [(s.heap.push { cls := .type "range", data := .fields #[.int lo t, .int hi u, .int 1 v] }).objs.size], _, _, H, rfl,
    I1.kept (t' := tk) fun b o e => Heap.get?_push_of_some _ e, turn_range _ lo (hi - lo).toNat, ?_, fun b hb => ?_, q⟩
  · have e1 : lo + ((0 : Nat) : Int) * 1 = lo := by simp
    have e2 : (((hi - lo).toNat : Nat) : Int) - ((0 : Nat) : Int) = Builtin.Range.rangeSize lo hi 1 := by rw [rangeSize_one]; split <;> omega
    show IsRangeIter _ _ (lo + ((0 : Nat) : Int) * 1) ((((hi - lo).toNat : Nat) : Int) - ((0 : Nat) : Int)) 1
    rw [e1, e2]
    exact Heap.get?_push_size _ rfl
  · have e : b = (s.heap.push { cls := .type "range", data := .fields #[.int lo t, .int hi u, .int 1 v] }).objs.size := by simpa using hb
    subst e
    exact I1.fpOk (Nat.le_refl _) (I1.hok.fresh (Nat.le_refl _))
def iRng1 (ta : TA) : TI := fun σ H R => ta σ H fun vs H1 => ∃ j : Int, vs = [.int j] ∧ -(2 ^ 62) ≤ j ∧ j < 2 ^ 62 ∧ R (Itr 0 j.toNat) H1
def iRng2 (ta : TA) : TI := fun σ H R => ta σ H fun vs H1 => ∃ i j : Int, vs = [.int i, .int j] ∧ (-(2 ^ 62) ≤ i ∧ i < 2 ^ 62 ∧ -(2 ^ 62) ≤ j ∧ j < 2 ^ 62) ∧ R (Itr i (j - i).toNat) H1
theorem pi_range1 {a : Expr} {ta : TA} {p pos : Pos} (hg : Gl X "range") (hm : X.mg "range" = none) (ha : PA X [a] ta) (hs : starEach [a] X.env = [(false, eval a X.env)] := by rfl) : PI X tg (.Call (.Name "range" p) [a] [] pos) (iRng1 ta) := by
  intro pins s σ H R I h
  refine Call_ (ld_blt I hg hm boot_range (PyProof.Rows.callWith_type1 (thn (ha pos pins s σ H _ I h) fun us s1 ⟨vs, H1, I1, r1, q1⟩ => ?_) hs rfl))
  obtain ⟨j, e, q1, q2, q⟩ := q1
  subst e
  cases r1 with
  | cons r rr =>
    cases rr
    obtain ⟨t, rfl⟩ := r
    exact call_range_1 (range_it I1 (by omega) (by omega) q1 q2 (by simpa using q))
theorem pi_range2 {a b : Expr} {ta : TA} {p pos : Pos} (hg : Gl X "range") (hm : X.mg "range" = none) (ha : PA X [a, b] ta) (hs : starEach [a, b] X.env = [(false, eval a X.env), (false, eval b X.env)] := by rfl) (hs2 : starEach [b] X.env = [(false, eval b X.env)] := by rfl) :
    PI X tg (.Call (.Name "range" p) [a, b] [] pos) (iRng2 ta) := by
  intro pins s σ H R I h
  refine Call_ (ld_blt I hg hm boot_range (PyProof.Rows.callWith_type1 (thn (ha pos pins s σ H _ I h) fun us s1 ⟨vs, H1, I1, r1, q1⟩ => ?_) (by rw [hs, hs2]) (by rw [hs2]; rfl)))
  obtain ⟨i, j, e, ⟨q1, q2, q3, q4⟩, q⟩ := q1
  subst e
  cases r1 with
  | cons r rr =>
    cases rr with
    | cons r' rr =>
      cases rr
      obtain ⟨t, rfl⟩ := r
      obtain ⟨t', rfl⟩ := r'
      exact call_range_2 (range_it I1 q1 q2 q3 q4 q)
def tFor (wi : TI) (g : TG) (tb : TS) : TS := fun D σ H => wi σ H fun J H1 => ∃ W : Nat → Nat → St → Hp → Prop, (∃ m, W 0 m σ H1) ∧ ∀ i m σ H, W i m σ H →
  (J.stop i H ∧ D.nx σ H) ∨ (J.go i H ∧ ∃ N : St → Hp → Prop, (∀ σ' H', N σ' H' → ∃ m', m' < m ∧ W (i + 1) m' σ' H') ∧ ∀ x H', J.yld i H x H' → g x σ H' fun σ2 H2 => tb { D with nx := N, ct := N, bk := D.nx } σ2 H2)
def pinsAt (fp : List Addr) (h : Heap) : List (Addr × Obj) := fp.filterMap fun b => (h.get? b).map fun o => (b, o)
theorem mem_pinsAt {fp : List Addr} {h : Heap} {b : Addr} {o : Obj} (hb : b ∈ fp) (e : h.get? b = some o) : (b, o) ∈ pinsAt fp h := List.mem_filterMap.mpr ⟨b, hb, by rw [e]; rfl⟩
theorem of_pinsAt {fp : List Addr} {h : Heap} {p : Addr × Obj} (hp : p ∈ pinsAt fp h) : p.1 ∈ fp ∧ h.get? p.1 = some p.2 := by
  obtain ⟨b, hb, e⟩ := List.mem_filterMap.mp hp
  cases q : h.get? b with
  | none => rw [q] at e; cases e
  | some o =>
    rw [q] at e
    have e' : (b, o) = p := Option.some.inj e
    subst e'
    exact ⟨hb, q⟩
theorem Inv.pinned {pins : List (Addr × Obj)} {σ : St} {H : Hp} {s : Shared} {fp : List Addr} (I : Inv X pins σ H s) (hf : ∀ b ∈ fp, FpOk X pins H b) (ho : ∀ b ∈ fp, ∃ o, s.heap.get? b = some o ∧ ∀ v, o.data ≠ .cell v) : Inv X (pins ++ pinsAt fp s.heap) σ H s :=
  I.pins_of fun p hp => (List.mem_append.mp hp).elim (fun z => I.pin p (List.mem_append_right _ z)) fun z => by
    obtain ⟨hb, e⟩ := of_pinsAt z
    obtain ⟨f0, f1, f2, _⟩ := hf p.1 hb
    obtain ⟨o, e', d⟩ := ho p.1 hb
    rw [e] at e'; cases e'
    exact ⟨e, f0, f1, f2, d⟩
theorem Inv.unpinned {pins pl : List (Addr × Obj)} {σ : St} {H : Hp} {s : Shared} (I : Inv X (pins ++ pl) σ H s) : Inv X pins σ H s := I.pins_of fun p hp => I.pin p (List.mem_append_right _ (List.mem_append_left _ hp))
theorem ps_for {iter : Expr} {body : List Stmt} {wi : TI} {g : TG} {tb : TS} {pos : Pos} (hp : PassesOwn (model X.prog X.w) X.A X.env X.xe) (hc : X.calm = true) (hi : PI X tg iter wi) (hg : PG X tg g) (hb : PSs X body tb)
    (hs : ∀ x, foldedSetIterable iter X.env x = pure x := by intro _; rfl) : PS X (.For tg iter body [] pos) (tFor wi g tb) := by
  intro pins s σ H D I h
  refine wpAny_For (thn (hi pins s σ H _ I h) fun v s1 h1 => thn h1 fun itv s2 h2 => ?_) hs
  obtain ⟨it, fp, tn, J, H2, e, I2, T, st2, f2, W, ⟨m0, w0⟩, turn⟩ := h2
  subst e
  have stat : ∀ {H' : Hp}, (∀ b ∈ fp, H' b = none) → ∀ b ∈ fp, FpOk X pins H' b := fun hn b hb => ⟨hn b hb, (f2 b hb).2⟩
  refine codeAny_forLoop_any (fun n s' => ∃ i σ' H', Inv X pins σ' H' s' ∧ tn i s'.heap ∧ (∀ b ∈ fp, H' b = none) ∧ W i n σ' H') ?_ m0 ⟨0, σ, H2, I2, st2, fun b hb => (f2 b hb).1, w0⟩
  rintro n s3 ⟨i, σ3, H3, I3, st3, fr3, w3⟩
  rcases turn i n σ3 H3 w3 with ⟨stop, qn⟩ | ⟨go, N, hN, step⟩
  · refine wpAny_passesOwn hp (thn (T.done X rfl rfl rfl hc i pins s3 σ3 H3 X.xe I3 (stat fr3) st3 stop) fun r s4 ⟨hr, I4⟩ => ?_)
    subst hr
    exact wpAny_execs_nil ⟨σ3, H3, I4, qn⟩
  · refine wpAny_passesOwn hp (thn (T.item X rfl rfl rfl hc i pins s3 σ3 H3 X.xe I3 (stat fr3) st3 go) fun r s4 ⟨u, hr, h4⟩ => ?_)
    subst hr
    refine wpAny_passesOwn hp (thn h4 fun _ s5 ⟨x, H5, I5, r5, y5, st5, fr5⟩ => ?_)
    have I5' := I5.pinned (stat fr5) (T.obj _ _ st5)
    refine wpAny_passesOwn hp (thn (hg _ s5 σ3 H5 x u _ I5' r5 (step x H5 y5)) fun _ s6 ⟨σ6, H6, I6, q6⟩ => ?_)
    refine wpAny_passesOwn hp (thn (hb _ s6 σ6 H6 _ I6 q6) fun f s7 q7 => ?_)
    have again : ∀ {σ7 : St} {H7 : Hp}, Inv X (pins ++ pinsAt fp s5.heap) σ7 H7 s7 → N σ7 H7 → ∃ m, m < n ∧ ∃ i σ' H', Inv X pins σ' H' s7 ∧ tn i s7.heap ∧ (∀ b ∈ fp, H' b = none) ∧ W i m σ' H' := fun {σ7 H7} I7 n7 => by
      obtain ⟨m', hm, w7⟩ := hN σ7 H7 n7
      refine ⟨m', hm, i + 1, σ7, H7, I7.unpinned, T.keep _ _ _ st5 fun b hb o e => (I7.pin (b, o) (List.mem_append_right _ (List.mem_append_right _ (mem_pinsAt hb e)))).1, fun b hb => ?_, w7⟩
      obtain ⟨o, e, d⟩ := T.obj _ _ st5 b hb
      exact (I7.pin (b, o) (List.mem_append_right _ (List.mem_append_right _ (mem_pinsAt hb e)))).2.1
    cases f with
    | next => obtain ⟨σ7, H7, I7, n7⟩ := q7; exact again I7 n7
    | cont => obtain ⟨σ7, H7, I7, n7⟩ := q7; exact again I7 n7
    | brk => obtain ⟨σ7, H7, I7, q7⟩ := q7; exact ⟨σ7, H7, I7.unpinned, q7⟩
    | ret v => obtain ⟨x7, σ7, H7, I7, r7, q7⟩ := q7; exact ⟨x7, σ7, H7, I7.unpinned, r7, q7⟩
end
theorem for_list {K : PySem.W.Frag} {a : Addr} {xs : List V} {g : TG} {tb : TS} {D : Ends} {σ : St} {H : Hp} (Pv : Nat → St → Hp → Prop) (h0 : Pv 0 σ H) (hl : ∀ i σ H, i ≤ xs.length → Pv i σ H → SqL K H a xs)
    (hs : ∀ i x σ H, xs[i]? = some x → Pv i σ H → g x σ H fun σ2 H2 => tb { D with nx := Pv (i + 1), ct := Pv (i + 1), bk := D.nx } σ2 H2) (hd : ∀ σ H, Pv xs.length σ H → D.nx σ H) :
    ∃ W : Nat → Nat → St → Hp → Prop, (∃ m, W 0 m σ H) ∧ ∀ i m σ H, W i m σ H →
      ((Itl K a).stop i H ∧ D.nx σ H) ∨ ((Itl K a).go i H ∧ ∃ N : St → Hp → Prop, (∀ σ' H', N σ' H' → ∃ m', m' < m ∧ W (i + 1) m' σ' H') ∧ ∀ x H', (Itl K a).yld i H x H' → g x σ H' fun σ2 H2 => tb { D with nx := N, ct := N, bk := D.nx } σ2 H2) := by
  refine ⟨fun i m σ H => m = xs.length - i ∧ i ≤ xs.length ∧ Pv i σ H, ⟨xs.length, by simp, Nat.zero_le _, h0⟩, ?_⟩
  rintro i m σ H ⟨rfl, hi, p⟩
  have q := hl i σ H hi p
  by_cases hlt : i < xs.length
  · refine .inr ⟨⟨xs, xs[i], q, by simp [hlt]⟩, Pv (i + 1), fun σ' H' p' => ⟨xs.length - (i + 1), by omega, rfl, hlt, p'⟩, fun x H' y => ?_⟩
    obtain ⟨e, y⟩ := y
    subst e
    exact hs i x σ _ (y xs q) p
  · have e : i = xs.length := by omega
    subst e
    exact .inl ⟨⟨xs, q, Nat.le_refl _⟩, hd σ H p⟩
theorem for_range {lo : Int} {n : Nat} {g : TG} {tb : TS} {D : Ends} {σ : St} {H : Hp} (Pv : Nat → St → Hp → Prop) (h0 : Pv 0 σ H)
    (hs : ∀ i σ H, i < n → Pv i σ H → g (.int (lo + i)) σ H fun σ2 H2 => tb { D with nx := Pv (i + 1), ct := Pv (i + 1), bk := D.nx } σ2 H2) (hd : ∀ σ H, Pv n σ H → D.nx σ H) :
    ∃ W : Nat → Nat → St → Hp → Prop, (∃ m, W 0 m σ H) ∧ ∀ i m σ H, W i m σ H →
      ((Itr lo n).stop i H ∧ D.nx σ H) ∨ ((Itr lo n).go i H ∧ ∃ N : St → Hp → Prop, (∀ σ' H', N σ' H' → ∃ m', m' < m ∧ W (i + 1) m' σ' H') ∧ ∀ x H', (Itr lo n).yld i H x H' → g x σ H' fun σ2 H2 => tb { D with nx := N, ct := N, bk := D.nx } σ2 H2) := by
  refine ⟨fun i m σ H => m = n - i ∧ i ≤ n ∧ Pv i σ H, ⟨n, by simp, Nat.zero_le _, h0⟩, ?_⟩
  rintro i m σ H ⟨rfl, hi, p⟩
  by_cases hlt : i < n
  · refine .inr ⟨hlt, Pv (i + 1), fun σ' H' p' => ⟨n - (i + 1), by omega, rfl, hlt, p'⟩, fun x H' y => ?_⟩
    obtain ⟨e, y⟩ := y
    subst e y
    exact hs i σ _ hlt p
  · have e : i = n := by omega
    subst e
    exact .inl ⟨Nat.le_refl _, hd σ H p⟩
end L2
namespace L2
open PySem PySem.Spec PyProof.Rows
abbrev R2 := V → V → Hp → VK → Prop
def OpR (X : Cx) (f : Value → Value → Sem Value) (r : R2) : Prop :=
  ∀ (pins : List (Addr × Obj)) (s : Shared) (σ : St) (H : Hp) (x y : V) (v u : Value) (Q : VK), Inv X pins σ H s → RelV x v → RelV y u → r x y H Q →
    wpAny (model X.prog X.w) X.A (f v u) (EP X pins σ Q) X.xe s
def UnR (X : Cx) (f : Value → Sem Value) (r : V → Hp → VK → Prop) : Prop :=
  ∀ (pins : List (Addr × Obj)) (s : Shared) (σ : St) (H : Hp) (x : V) (v : Value) (Q : VK), Inv X pins σ H s → RelV x v → r x H Q →
    wpAny (model X.prog X.w) X.A (f v) (EP X pins σ Q) X.xe s
def CallR (X : Cx) (f : Value) (r : List V → Hp → VK → Prop) : Prop :=
  ∀ (pins : List (Addr × Obj)) (s : Shared) (σ : St) (H : Hp) (xs : List V) (us : List Value) (Q : VK), Inv X pins σ H s → Vals xs us → r xs H Q →
    wpAny (model X.prog X.w) X.A (call f us) (EP X pins σ Q) X.xe s
def TruR (X : Cx) (r : V → Hp → (Bool → Hp → Prop) → Prop) : Prop :=
  ∀ (pins : List (Addr × Obj)) (s : Shared) (σ : St) (H : Hp) (x : V) (v : Value) (Q : Bool → Hp → Prop), Inv X pins σ H s → RelV x v → r x H Q →
    wpAny (model X.prog X.w) X.A (truthy v) (TP X pins σ Q) X.xe s
def tOp (r : R2) (ta tb : TE) : TE := fun σ H Q => ta σ H fun x H1 => tb σ H1 fun y H2 => r x y H2 Q
def tUn (r : V → Hp → VK → Prop) (ta : TE) : TE := fun σ H Q => ta σ H fun x H1 => r x H1 Q
def rI (C : Int → Int → Prop) (g : Int → Int → V) : R2 := fun x y H Q => ∃ i j, x = .int i ∧ y = .int j ∧ C i j ∧ Q (g i j) H
def rI0 (g : Int → Int → V) : R2 := fun x y H Q => ∃ i j, x = .int i ∧ y = .int j ∧ Q (g i j) H
def rU (g : Int → V) : V → Hp → VK → Prop := fun x H Q => ∃ i, x = .int i ∧ Q (g i) H
section
variable {X : Cx} {a b c : Expr} {ta tb tc : TE} {pos : Pos}
theorem binT (ha : PE X a ta) (hb : PE X b tb) {pins : List (Addr × Obj)} {s : Shared} {σ : St} {H : Hp} {R : V → V → Hp → Prop} (I : Inv X pins σ H s)
    (h : ta σ H fun x H1 => tb σ H1 fun y H2 => R x y H2) {Q : Value → Shared → Prop} {f : Value → Value → Sem Value}
    (hf : ∀ v u s2 x y H2, Inv X pins σ H2 s2 → RelV x v → RelV y u → R x y H2 → wpAny (model X.prog X.w) X.A (f v u) Q X.xe s2) :
    wpAny (model X.prog X.w) X.A (eval a X.env) (fun v s₁ => wpAny (model X.prog X.w) X.A (eval b X.env) (fun u s₂ => wpAny (model X.prog X.w) X.A (f v u) Q X.xe s₂) X.xe s₁) X.xe s := by
  refine thn (ha pins s σ H _ I h) fun v s1 ⟨x, H1, I1, r1, q1⟩ => ?_
  refine thn (hb pins s1 σ H1 _ I1 q1) fun u s2 ⟨y, H2, I2, r2, q2⟩ => ?_
  exact hf v u s2 x y H2 I2 r1 r2 q2
theorem pe_op {op : Operator} {r : R2} (ho : OpR X (binaryOp op) r) (ha : PE X a ta) (hb : PE X b tb) : PE X (.BinOp a op b pos) (tOp r ta tb) := by
  intro pins s σ H Q I h
  exact wpAny_BinOp (binT ha hb I h fun v u s2 x y H2 I2 rx ry q => ho pins s2 σ H2 x y v u Q I2 rx ry q)
theorem pe_un {op : UnaryOp} {r : V → Hp → VK → Prop} (ho : UnR X (unaryOp op) r) (ha : PE X a ta) : PE X (.UnaryOp op a pos) (tUn r ta) := by
  intro pins s σ H Q I h
  exact UnaryOp_ (thn (ha pins s σ H _ I h) fun v s1 ⟨x, H1, I1, r1, q1⟩ => ho pins s1 σ H1 x v Q I1 r1 q1)
theorem opI {f : Value → Value → Sem Value} {C : Int → Int → Prop} {g : Int → Int → Int}
    (rule : ∀ (i j : Int) (t u : Tok) (s : Shared) (Q : Value → Shared → Prop) (E : Value → Shared → Prop), C i j → Q (.int (g i j) s.toks) { s with toks := s.toks + 1 } → wpAny (model X.prog X.w) X.A (f (.int i t) (.int j u)) Q E s) :
    OpR X f (rI C fun i j => .int (g i j)) := by
  intro pins s σ H x y v u Q I rx ry h
  obtain ⟨i, j, rfl, rfl, hc, q⟩ := h
  obtain ⟨t, rfl⟩ := rx
  obtain ⟨t', rfl⟩ := ry
  exact rule i j t t' s _ _ hc ⟨.int (g i j), H, I.tok _, ⟨_, rfl⟩, q⟩
theorem opI0 {f : Value → Value → Sem Value} {g : Int → Int → Int}
    (rule : ∀ (i j : Int) (t u : Tok) (s : Shared) (Q : Value → Shared → Prop) (E : Value → Shared → Prop), Q (.int (g i j) s.toks) { s with toks := s.toks + 1 } → wpAny (model X.prog X.w) X.A (f (.int i t) (.int j u)) Q E s) :
    OpR X f (rI0 fun i j => .int (g i j)) := by
  intro pins s σ H x y v u Q I rx ry h
  obtain ⟨i, j, rfl, rfl, q⟩ := h
  obtain ⟨t, rfl⟩ := rx
  obtain ⟨t', rfl⟩ := ry
  exact rule i j t t' s _ _ ⟨.int (g i j), H, I.tok _, ⟨_, rfl⟩, q⟩
theorem opB0 {f : Value → Value → Sem Value} {g : Int → Int → Bool}
    (rule : ∀ (i j : Int) (t u : Tok) (s : Shared) (Q : Value → Shared → Prop) (E : Value → Shared → Prop), Q (.bool (g i j)) s → wpAny (model X.prog X.w) X.A (f (.int i t) (.int j u)) Q E s) :
    OpR X f (rI0 fun i j => .bl (g i j)) := by
  intro pins s σ H x y v u Q I rx ry h
  obtain ⟨i, j, rfl, rfl, q⟩ := h
  obtain ⟨t, rfl⟩ := rx
  obtain ⟨t', rfl⟩ := ry
  exact rule i j t t' s _ _ ⟨.bl (g i j), H, I, rfl, q⟩
def CDiv (i j : Int) : Prop := 0 < j ∧ j < 1073741824
def CMul (i j : Int) : Prop := (-(2 ^ 64) < i ∧ i < 2 ^ 64) ∨ (-(2 ^ 64) < j ∧ j < 2 ^ 64)
theorem CMul.ok {i j : Int} (h : CMul i j) : IntMulOk i j := by
  rcases h with ⟨h1, h2⟩ | ⟨h1, h2⟩
  · exact .of_left (intBits_le_64 h1 h2)
  · exact .of_right (intBits_le_64 h1 h2)
theorem op_add : OpR X (binaryOp .Add) (rI0 fun i j => .int (i + j)) := opI0 fun _ _ _ _ _ _ _ q => add_int q
theorem op_sub : OpR X (binaryOp .Sub) (rI0 fun i j => .int (i - j)) := opI0 fun _ _ _ _ _ _ _ q => sub_int q
theorem op_mul : OpR X (binaryOp .Mult) (rI CMul fun i j => .int (i * j)) := opI fun _ _ _ _ _ _ _ hc q => mul_int q hc.ok
theorem op_fdiv : OpR X (binaryOp .FloorDiv) (rI CDiv fun i j => .int (i / j)) := opI fun i j _ _ _ _ _ hc q => by
  have h1 : (0 : Int) < j := hc.1
  have h2 : j < 1073741824 := hc.2
  exact floordiv_int (by omega) (by rw [Int.fdiv_eq_ediv_of_nonneg i (by omega)]; exact q) (.inl (PyProof.noPylong_small (by omega)))
theorem op_mod : OpR X (binaryOp .Mod) (rI (fun _ j => 0 < j) fun i j => .int (i % j)) := opI fun i j _ _ _ _ _ hc q => by
  have h1 : (0 : Int) < j := hc
  exact mod_int' (by omega) (by rw [Int.fmod_eq_emod_of_nonneg i (by omega)]; exact q)
theorem unI {f : Value → Sem Value} {g : Int → Int}
    (rule : ∀ (i : Int) (t : Tok) (s : Shared) (Q : Value → Shared → Prop) (E : Value → Shared → Prop), Q (.int (g i) s.toks) { s with toks := s.toks + 1 } → wpAny (model X.prog X.w) X.A (f (.int i t)) Q E s) :
    UnR X f (rU fun i => .int (g i)) := by
  intro pins s σ H x v Q I rx h
  obtain ⟨i, rfl, q⟩ := h
  obtain ⟨t, rfl⟩ := rx
  exact rule i t s _ _ ⟨.int (g i), H, I.tok _, ⟨_, rfl⟩, q⟩
theorem un_neg : UnR X (unaryOp .USub) (rU fun i => .int (-i)) := unI fun _ _ _ _ _ q => neg_int q
end
def scal : V → V → Bool
  | .non, .non => true | .non, .int _ => true | .int _, .non => true | .non, .bl _ => true | .bl _, .non => true | .non, .str _ => true | .str _, .non => true
  | .int _, .int _ => true | .bl _, .bl _ => true | .str _, .str _ => true | .byt _, .byt _ => true
  | .int _, .str _ => true | .str _, .int _ => true | .bl _, .str _ => true | .str _, .bl _ => true
  | _, _ => false
def rEq : R2 := fun x y H Q => scal x y = true ∧ Q (.bl (decide (x = y))) H
def rNe : R2 := fun x y H Q => scal x y = true ∧ Q (.bl (!decide (x = y))) H
theorem dec_int {i j : Int} : decide (V.int i = V.int j) = (i == j) := by
  rw [Bool.eq_iff_iff]
  simp
theorem dec_bl {i j : Bool} : decide (V.bl i = V.bl j) = (i == j) := by
  rw [Bool.eq_iff_iff]
  simp
theorem dec_str {i j : Str} : decide (V.str i = V.str j) = (i == j) := by
  rw [Bool.eq_iff_iff]
  simp
theorem dec_byt {i j : Array UInt8} : decide (V.byt i = V.byt j) = (i.toList == j.toList) := by
  rw [Bool.eq_iff_iff]
  cases i
  cases j
  simp
section
variable {X : Cx} {a b c : Expr} {ta tb tc : TE} {pos : Pos}
theorem fin_bl {pins : List (Addr × Obj)} {σ : St} {H : Hp} {s : Shared} {Q : VK} {k k' : Bool} (I : Inv X pins σ H s) (q : Q (.bl k) H) (e : k = k') : EP X pins σ Q (.bool k') s := by
  subst e
  exact ⟨.bl k, H, I, rfl, q⟩
theorem op_eq : OpR X (compareOp .Eq) rEq := by
  intro pins s σ H x y v u Q I rx ry h
  obtain ⟨hs, q⟩ := h
  cases x with
  | non =>
    cases rx
    cases y with
    | non => cases ry; exact PySem.EqNone.eq_none_none (fin_bl I q (by simp))
    | bl j => cases ry; exact PySem.EqNone.eq_none_bool (fin_bl I q (by simp))
    | int j => obtain ⟨t', rfl⟩ := ry; exact PySem.EqNone.eq_none_int (fin_bl I q (by simp))
    | str j => obtain ⟨t', rfl⟩ := ry; exact PySem.EqNone.eq_none_str (fin_bl I q (by simp))
    | _ => exact absurd (show false = true from hs) Bool.false_ne_true
  | bl i =>
    cases rx
    cases y with
    | non => cases ry; exact PySem.EqNone.eq_bool_none (fin_bl I q (by simp))
    | bl j => cases ry; exact eq_bool (fin_bl I q dec_bl)
    | str j => obtain ⟨t', rfl⟩ := ry; exact PySem.EqMixed.eq_bool_str (fin_bl I q (by simp))
    | _ => exact absurd (show false = true from hs) Bool.false_ne_true
  | int i =>
    obtain ⟨t, rfl⟩ := rx
    cases y with
    | non => cases ry; exact PySem.EqNone.eq_int_none (fin_bl I q (by simp))
    | int j => obtain ⟨t', rfl⟩ := ry; exact eq_int (fin_bl I q dec_int)
    | str j => obtain ⟨t', rfl⟩ := ry; exact PySem.EqMixed.eq_int_str (fin_bl I q (by simp))
    | _ => exact absurd (show false = true from hs) Bool.false_ne_true
  | str i =>
    obtain ⟨t, rfl⟩ := rx
    cases y with
    | non => cases ry; exact PySem.EqNone.eq_str_none (fin_bl I q (by simp))
    | bl j => cases ry; exact PySem.EqMixed.eq_str_bool (fin_bl I q (by simp))
    | int j => obtain ⟨t', rfl⟩ := ry; exact PySem.EqMixed.eq_str_int (fin_bl I q (by simp))
    | str j => obtain ⟨t', rfl⟩ := ry; exact eq_str (fin_bl I q dec_str)
    | _ => exact absurd (show false = true from hs) Bool.false_ne_true
  | byt i =>
    obtain ⟨t, rfl⟩ := rx
    cases y with
    | byt j => obtain ⟨t', rfl⟩ := ry; exact PySem.W.eq_bytes (fin_bl I q dec_byt)
    | _ => exact absurd (show false = true from hs) Bool.false_ne_true
  | _ => cases y <;> exact absurd (show false = true from hs) Bool.false_ne_true
theorem op_ne : OpR X (compareOp .NotEq) rNe := by
  intro pins s σ H x y v u Q I rx ry h
  obtain ⟨hs, q⟩ := h
  cases x with
  | non =>
    cases rx
    cases y with
    | non => cases ry; exact PySem.EqNone.ne_none_none (fin_bl I q (by simp))
    | bl j => cases ry; exact PySem.EqNone.ne_none_bool (fin_bl I q (by simp))
    | int j => obtain ⟨t', rfl⟩ := ry; exact PySem.EqNone.ne_none_int (fin_bl I q (by simp))
    | str j => obtain ⟨t', rfl⟩ := ry; exact PySem.EqNone.ne_none_str (fin_bl I q (by simp))
    | _ => exact absurd (show false = true from hs) Bool.false_ne_true
  | bl i =>
    cases rx
    cases y with
    | non => cases ry; exact PySem.EqNone.ne_bool_none (fin_bl I q (by simp))
    | bl j => cases ry; exact ne_bool (fin_bl I q (congrArg not dec_bl))
    | str j => obtain ⟨t', rfl⟩ := ry; exact PySem.EqMixed.ne_bool_str (fin_bl I q (by simp))
    | _ => exact absurd (show false = true from hs) Bool.false_ne_true
  | int i =>
    obtain ⟨t, rfl⟩ := rx
    cases y with
    | non => cases ry; exact PySem.EqNone.ne_int_none (fin_bl I q (by simp))
    | int j => obtain ⟨t', rfl⟩ := ry; exact ne_int (fin_bl I q (congrArg not dec_int))
    | str j => obtain ⟨t', rfl⟩ := ry; exact PySem.EqMixed.ne_int_str (fin_bl I q (by simp))
    | _ => exact absurd (show false = true from hs) Bool.false_ne_true
  | str i =>
    obtain ⟨t, rfl⟩ := rx
    cases y with
    | non => cases ry; exact PySem.EqNone.ne_str_none (fin_bl I q (by simp))
    | bl j => cases ry; exact PySem.EqMixed.ne_str_bool (fin_bl I q (by simp))
    | int j => obtain ⟨t', rfl⟩ := ry; exact PySem.EqMixed.ne_str_int (fin_bl I q (by simp))
    | str j => obtain ⟨t', rfl⟩ := ry; exact ne_str (fin_bl I q (congrArg not dec_str))
    | _ => exact absurd (show false = true from hs) Bool.false_ne_true
  | byt i =>
    obtain ⟨t, rfl⟩ := rx
    cases y with
    | byt j => obtain ⟨t', rfl⟩ := ry; exact PySem.W.ne_bytes (fin_bl I q (congrArg not dec_byt))
    | _ => exact absurd (show false = true from hs) Bool.false_ne_true
  | _ => cases y <;> exact absurd (show false = true from hs) Bool.false_ne_true
theorem op_lt : OpR X (compareOp .Lt) (rI0 fun i j => .bl (decide (i < j))) := opB0 fun _ _ _ _ _ _ _ q => lt_int q
theorem op_ge : OpR X (compareOp .GtE) (rI0 fun i j => .bl (decide (j ≤ i))) := opB0 fun _ _ _ _ _ _ _ q => ge_int q
theorem op_notN : OpR X (compareOp .IsNot) (fun x y H Q => y = .non ∧ Q (.bl (!decide (x = .non))) H) := by
  intro pins s σ H x y v u Q I rx ry h
  obtain ⟨rfl, q⟩ := h
  cases ry
  refine isnot_none_gen (fin_bl I q ?_)
  cases x <;> first
    | (cases rx; rfl)
    | (obtain ⟨t, rfl⟩ := rx; rfl)
theorem OpR.or {f : Value → Value → Sem Value} {r r' : R2} (h : OpR X f r) (h' : OpR X f r') : OpR X f (fun x y H Q => r x y H Q ∨ r' x y H Q) := by
  intro pins s σ H x y v u Q I rx ry q
  rcases q with q | q
  · exact h pins s σ H x y v u Q I rx ry q
  · exact h' pins s σ H x y v u Q I rx ry q
theorem nomark (b : Expr) {op : CmpOp} (h : op ≠ .In := by decide) (h2 : op ≠ .NotIn := by decide) : behindInMarks op b = false := by
  have e1 : (op == CmpOp.In) = false := by cases op <;> first | rfl | exact absurd rfl h
  have e2 : (op == CmpOp.NotIn) = false := by cases op <;> first | rfl | exact absurd rfl h2
  cases b <;> simp [behindInMarks, e1, e2]
theorem pe_cmpR {op : CmpOp} {r : R2} (ho : OpR X (compareOp op) r) (ha : PE X a ta) (hb : PE X b tb) (hm : behindInMarks op b = false) : PE X (.Compare a [op] [b] pos) (tOp r ta tb) := by
  intro pins s σ H Q I h
  exact wpAny_Compare1 (binT ha hb I h fun v u s2 x y H2 I2 rx ry q => ho pins s2 σ H2 x y v u Q I2 rx ry q) hm
def tTest (t : TE) : TT := fun σ H Q => t σ H fun x H' => ∃ k, x = .bl k ∧ Q k H'
theorem pt_cmpR {op : CmpOp} {r : R2} (ho : OpR X (compareOp op) r) (ha : PE X a ta) (hb : PE X b tb) (hm : behindInMarks op b = false) : PT X (.Compare a [op] [b] pos) (tTest (tOp r ta tb)) := by
  intro pins s σ H Q I h
  refine wpAny_isTrue_Compare1 (thn (ha pins s σ H _ I h) fun v s1 ⟨x, H1, I1, r1, q1⟩ => thn (hb pins s1 σ H1 _ I1 q1) fun u s2 ⟨y, H2, I2, r2, q2⟩ =>
    thn (ho pins s2 σ H2 x y v u _ I2 r1 r2 q2) fun c s3 ⟨z, H3, I3, r3, k, e, q3⟩ => ?_) hm
  subst e
  cases r3
  exact wpAny_truthy_bool ⟨H3, I3, q3⟩
def tChain (r r' : R2) (ta tb tc : TE) : TE := fun σ H Q => ta σ H fun x H1 => tb σ H1 fun y H2 => r x y H2 fun z H3 => ∃ k, z = .bl k ∧
  (if k = true then tc σ H3 fun w' H4 => r' y w' H4 Q else Q (.bl false) H3)
def TruV (K : PySem.W.Frag) (x : V) (H : Hp) (k : Bool) : Prop :=
  match x with
  | .non => k = false
  | .bl b => k = b
  | .int i => k = (i != 0)
  | .str y => y.length ≤ sizeLine ∧ k = ((y.length : Int) != 0)
  | .byt y => y.size ≤ sizeLine ∧ k = ((y.size : Int) != 0)
  | .ref p => (∃ xs, SqL K H p xs ∧ k = !xs.isEmpty) ∨ (∃ xs, SqT K H p xs ∧ k = !xs.isEmpty) ∨ ∃ kvs, H p = some (.dK kvs) ∧ k = !kvs.isEmpty
  | _ => False
theorem isEmpty_kv {κ : Type} {kvs : List (κ × V)} {vs : List (κ × Value)} (r : KV kvs vs) : (!vs.isEmpty) = !kvs.isEmpty := by
  cases r <;> rfl
theorem isEmpty_of {xs : List V} {its : List Value} (r : Vals xs its) : (!its.toArray.isEmpty) = !xs.isEmpty := by
  cases r <;> simp
theorem line63 : (sizeLine : Nat) < 2 ^ 63 := by rw [sizeLine_eq]; decide
theorem tru_ok : TruR X (fun x H Q => ∃ k, TruV X.K x H k ∧ Q k H) := by
  intro pins s σ H x v Q I rx h
  obtain ⟨k, e, q⟩ := h
  have hl := line63
  have hs : sizeLine = 16777216 := sizeLine_eq
  cases x with
  | non =>
    cases rx
    have e' : k = false := e
    subst e'
    exact truthy_none ⟨H, I, q⟩
  | bl b =>
    cases rx
    have e' : k = b := e
    subst e'
    exact wpAny_truthy_bool ⟨H, I, q⟩
  | int i =>
    obtain ⟨t, rfl⟩ := rx
    have e' : k = (i != 0) := e
    subst e'
    exact PySem.P.truthy_int ⟨H, I, q⟩
  | str y =>
    obtain ⟨t, rfl⟩ := rx
    obtain ⟨hy, e'⟩ : y.length ≤ sizeLine ∧ k = ((y.length : Int) != 0) := e
    subst e'
    exact PySem.P.truthy_str (by omega) ⟨H, I.tok _, q⟩
  | byt y =>
    obtain ⟨t, rfl⟩ := rx
    obtain ⟨hy, e'⟩ : y.size ≤ sizeLine ∧ k = ((y.size : Int) != 0) := e
    subst e'
    exact PySem.W.truthy_bytes (by omega) ⟨H, I.tok _, q⟩
  | ref p =>
    cases rx
    have e' : (∃ xs, SqL X.K H p xs ∧ k = !xs.isEmpty) ∨ (∃ xs, SqT X.K H p xs ∧ k = !xs.isEmpty) ∨ ∃ kvs, H p = some (.dK kvs) ∧ k = !kvs.isEmpty := e
    rcases e' with ⟨xs, hx, e'⟩ | ⟨xs, hx, e'⟩ | ⟨kvs, hx, e'⟩
    · subst e'
      obtain ⟨its, r, pl, hz⟩ := I.list hx
      have hlen := r.length
      exact wpAny_truthy_list pl.isList (by simp only [List.size_toArray]; omega) ⟨H, I.tok _, by rw [isEmpty_of r]; exact q⟩
    · subst e'
      obtain ⟨its, r, pl, hz⟩ := I.tuple hx
      have hlen := r.length
      exact truthy_tuple pl (by simp only [List.size_toArray]; omega) ⟨H, I.tok _, by rw [isEmpty_of r]; exact q⟩
    · subst e'
      obtain ⟨hz, hS, vs, r, m⟩ : kvs.length ≤ sizeLine ∧ (p == sysModules) = false ∧ ∃ vs, KV kvs vs ∧ s.heap.DictOf (mixKind X.prog X.w) p vs := I.hok p _ hx
      have hlen : kvs.length = vs.length := Paired.length r
      exact wpAny_truthy_dict hS m (by omega) ⟨H, I.tok _, by rw [isEmpty_kv r]; exact q⟩
  | _ => exact (show False from e).elim
theorem pt_truth (ha : PE X a ta) (he : ∀ whole, isTrue a X.env whole = (do let v ← whole; standAt a.pos; holding [v] (truthy v))) :
    PT X a (fun σ H Q => ta σ H fun x H' => ∃ k, TruV X.K x H' k ∧ Q k H') := by
  intro pins s σ H Q I h
  exact isTrue_plain (thn (ha pins s σ H _ I h) fun v s1 ⟨x, H1, I1, r1, q1⟩ => tru_ok pins s1 σ H1 x v Q I1 r1 q1) (he _)
theorem op_add_str : OpR X (binaryOp .Add) (fun x y H Q => ∃ i j, x = .str i ∧ y = .str j ∧ i.length + j.length ≤ sizeLine ∧ Q (.str (i ++ j)) H) := by
  intro pins s σ H x y v u Q I rx ry h
  obtain ⟨i, j, rfl, rfl, hz, q⟩ := h
  obtain ⟨t, rfl⟩ := rx
  obtain ⟨t', rfl⟩ := ry
  exact add_str (fun t' tk => ⟨.str (i ++ j), H, I.tok _, ⟨_, rfl⟩, q⟩) hz
theorem vals1 {x : V} {us : List Value} (r : Vals [x] us) : ∃ u, us = [u] ∧ RelV x u := by
  cases r with
  | cons r1 r2 => cases r2; exact ⟨_, rfl, r1⟩
theorem vals2 {x y : V} {us : List Value} (r : Vals [x, y] us) : ∃ u w', us = [u, w'] ∧ RelV x u ∧ RelV y w' := by
  cases r with
  | cons r1 r2 =>
    cases r2 with
    | cons r3 r4 => cases r4; exact ⟨_, _, rfl, r1, r3⟩
theorem call_max2 (hc : X.calm = true) : CallR X (.builtin "max") (fun xs H Q => ∃ i j, xs = [.int i, .int j] ∧ Q (.int (if j > i then j else i)) H) := by
  intro pins s σ H xs us Q I r h
  obtain ⟨i, j, rfl, q⟩ := h
  obtain ⟨u, w', rfl, ⟨t, rfl⟩, ⟨t', rfl⟩⟩ := vals2 r
  refine max_two_ints (I.ok.hd hc) fun h' tk k => ⟨_, H, I.kept k, ?_, q⟩
  by_cases hj : j > i
  · rw [if_pos hj, if_pos hj]; exact ⟨_, rfl⟩
  · rw [if_neg hj, if_neg hj]; exact ⟨_, rfl⟩
theorem call_int1 : CallR X (.type "int") (fun xs H Q => (∃ i, xs = [.int i] ∧ Q (.int i) H) ∨ ∃ k, xs = [.bl k] ∧ Q (.int (if k then 1 else 0)) H) := by
  intro pins s σ H xs us Q I r h
  rcases h with ⟨i, rfl, q⟩ | ⟨k, rfl, q⟩
  · obtain ⟨u, rfl, t, rfl⟩ := vals1 r
    exact call_int_int ⟨.int i, H, I, ⟨_, rfl⟩, q⟩
  · obtain ⟨u, rfl, r1⟩ := vals1 r
    cases r1
    exact call_int_bool ⟨.int (if k then 1 else 0), H, I.tok _, ⟨_, rfl⟩, q⟩
end
end L2
namespace L2
open PySem PySem.Spec PyProof.Rows
structure ObjM (h : Heap) (x dx C : Addr) (mA : Str → Option Value) : Prop where
  obj : h.get? x = some (PySem.W.instObj C dx)
  ns : h.Ns1 dx mA
  ne : dx ≠ x
theorem lookIn_ns {h : Heap} {dx : Addr} {mA : Str → Option Value} (n : h.Ns1 dx mA) : ∃ od, h.get? dx = some od ∧ ∀ name, PySem.W.lookIn name od = some (mA name) := by
  obtain ⟨o, es, ep, ho, hd, hk, _, hm⟩ := n
  refine ⟨o, ho, fun name => ?_⟩
  have e := hm name
  unfold nsFind findBy at e
  rw [← Array.find?_toList] at e
  unfold PySem.W.lookIn
  rw [hd]
  dsimp only
  split
  · rename_i y q
    rw [q] at e
    exact congrArg some e
  · rename_i q
    rw [q] at e
    have a : es.toList.any (·.refKey) = false := by
      rw [List.any_eq_false]
      intro y hy
      obtain ⟨z, t, hkey⟩ := hk y (Array.mem_toList_iff.mp hy)
      simp [DictEntry.refKey, hkey]
    have a' : ¬ es.toList.any (·.refKey) = true := by rw [a]; exact Bool.false_ne_true
    rw [if_neg a']
    exact congrArg some e
theorem ObjM.look {h : Heap} {x dx C : Addr} {mA : Str → Option Value} (I : ObjM h x dx C mA) : ∃ od, PySem.W.InstAt h x (PySem.W.instObj C dx) C (some od) ∧ ∀ name, PySem.W.lookIn name od = some (mA name) :=
  let ⟨od, ho, hl⟩ := lookIn_ns I.ns
  ⟨od, ⟨I.obj, rfl, rfl, ho⟩, hl⟩
section
variable {prog : Program} {w : World} {A : Around} {E : Value → Shared → Prop} {s : Shared} {K : PySem.W.Frag} {x dx C f : Addr} {mA : Str → Option Value} {name : Str} {v : Value}
end
theorem RelO.some_of {v : V} {o : Option Value} (r : RelO (some v) o) : ∃ u, o = some u ∧ RelV v u := by
  cases o with
  | none => exact (show False from r).elim
  | some u => exact ⟨u, rfl, r⟩
section
variable {P : Program} {w : World} {H H' : Hp} {h h' : Heap} {a C dx : Addr} {fs fs' : List (Str × V)}
theorem ins_get (hok : HOk P w H h) (e : H a = some (.ins C dx fs)) : ∃ mA, ObjM h a dx C mA ∧ (∀ f, RelO (fs.lookup f) (mA f)) ∧ PySem.Within mA (fs.map (·.1)) ∧ fs.length ≤ 1000 ∧ H dx = some (.own a) := by
  obtain ⟨d, z, ne, ob, mA, n, r, q⟩ := (show ObjOk P w H h a (.ins C dx fs) from hok a _ e)
  exact ⟨mA, ⟨ob, n, ne⟩, r, q, z, d⟩
end
structure Cls (K : PySem.W.Frag) (C : Addr) : Prop where
  pg : PySem.W.plainGet K C Str.empty = true
  hd : PySem.W.hasDictIn K C = true
  po : PySem.W.plainOver K C = true
  sa : PySem.W.findIn K (.ref C) "__setattr__" = some (some (.builtin "object.__setattr__"))
theorem Cls.get {K : PySem.W.Frag} {C : Addr} (c : Cls K C) (f : Str) : PySem.W.plainGet K C f = true := c.pg
section
variable {X : Cx} {pins : List (Addr × Obj)} {σ : St} {H : Hp} {s : Shared} {a C dx : Addr} {fs : List (Str × V)} {f : Str} {v : V} {A : Around} {E : Value → Shared → Prop}
end
section
variable {X : Cx} {o e value : Expr} {f : Str} {pos pos' tpos : Pos} {ta tv : TE}
end
section
variable {X : Cx} {pins : List (Addr × Obj)} {σ : St} {H : Hp} {s : Shared} {A : Around} {E : Value → Shared → Prop} {Q : Value → Shared → Prop} {c : Value} {b : Bool}
inductive TyOf (K : PySem.W.Frag) (H : Hp) : V → Value → Prop where
  | non : TyOf K H .non (.type "NoneType")
  | bl (x : Bool) : TyOf K H (.bl x) (.type "bool")
  | int (i : Int) : TyOf K H (.int i) (.type "int")
  | str (x : Str) : TyOf K H (.str x) (.type "str")
  | flt (x : UInt64) : TyOf K H (.flt x) (.type "float")
  | lst {a : Addr} {xs : List V} (e : H a = some (.lst xs)) : TyOf K H (.ref a) (.type "list")
  | frz {a : Addr} {o : Obj} {xs : List V} (e : H a = some (.frz o (.lst xs))) : TyOf K H (.ref a) (.type "list")
  | tup {a : Addr} {xs : List V} (e : H a = some (.tup xs)) : TyOf K H (.ref a) (.type "tuple")
  | dK {a : Addr} {kvs : List (Key × V)} (e : H a = some (.dK kvs)) : TyOf K H (.ref a) (.type "dict")
  | dT {a : Addr} {kvs : List (List Key × V)} (e : H a = some (.dT kvs)) : TyOf K H (.ref a) (.type "dict")
  | ins {a C dx : Addr} {fs : List (Str × V)} (e : H a = some (.ins C dx fs)) (cl : Cls K C) (ha : PySem.W.findIn K (.ref C) "__class__" = some (some (.builtin "object.__class__")))
      (hn : PySem.W.specialIn K (.builtin "object.__class__") "__get__" = some (some (.builtin "getset_descriptor.__get__"))) (htk : PySem.W.takesIn K (.builtin "object.__class__") = some true)
      (hm : PySem.W.mroIn K C (.type "object") = some true) : TyOf K H (.ref a) (.ref C)
theorem isinst_ok {x : V} {u t : Value} (I : Inv X pins σ H s) (rx : RelV x u) (ty : TyOf X.K H x t) (e : PySem.W.kitOne X.K t c = some b) (h : ∀ tk, Q (.bool b) { s with toks := tk }) :
    wpAny (model X.prog X.w) A (call (.builtin "isinstance") [u, c]) Q E s := by
  cases ty with
  | non => cases (show u = Value.none from rx); exact PySem.W.kia_one PySem.W.kitx_none I.kIn True.intro e (fun z => nomatch z) h
  | bl y => cases (show u = Value.bool y from rx); exact PySem.W.kia_one PySem.W.kitx_bool I.kIn True.intro e (fun z => nomatch z) h
  | int i => obtain ⟨t, q⟩ := (show ∃ t, u = Value.int i t from rx); cases q; exact PySem.W.kia_one PySem.W.kitx_int I.kIn True.intro e (fun z => nomatch z) h
  | str y => obtain ⟨t, q⟩ := (show ∃ t, u = Value.str y t from rx); cases q; exact PySem.W.kia_one PySem.W.kitx_str I.kIn True.intro e (fun z => nomatch z) h
  | flt y => obtain ⟨t, q⟩ := (show ∃ t, u = Value.float y t from rx); cases q; exact PySem.W.kia_one PySem.W.kitx_float I.kIn True.intro e (fun z => nomatch z) h
  | @lst a xs ea =>
    cases (show u = Value.ref a from rx)
    obtain ⟨_, _, n, _, h1⟩ := (show ObjOk X.prog X.w H s.heap a (.lst xs) from I.hok a _ ea)
    exact PySem.W.kia_one PySem.W.kitx_list I.kIn ⟨_, h1, rfl⟩ e (fun z => nomatch z) h
  | @frz a ob xs ea =>
    cases (show u = Value.ref a from rx)
    obtain ⟨_, _, _, n, _, h1⟩ := (show ObjOk X.prog X.w H s.heap a (.frz ob (.lst xs)) from I.hok a _ ea)
    exact PySem.W.kia_one PySem.W.kitx_list I.kIn ⟨_, h1, rfl⟩ e (fun z => nomatch z) h
  | @tup a xs ea =>
    cases (show u = Value.ref a from rx)
    obtain ⟨_, _, _, p⟩ := (show ObjOk X.prog X.w H s.heap a (.tup xs) from I.hok a _ ea)
    obtain ⟨o, h1, h2, _⟩ := p
    exact PySem.W.kia_one PySem.W.kitx_tuple I.kIn ⟨o, h1, h2⟩ e (fun z => nomatch z) h
  | @dK a kvs ea =>
    cases (show u = Value.ref a from rx)
    obtain ⟨_, _, vs, _, p⟩ := (show ObjOk X.prog X.w H s.heap a (.dK kvs) from I.hok a _ ea)
    obtain ⟨o, es, ep, h1, h2, _⟩ := p
    exact PySem.W.kia_one PySem.W.kitx_dict I.kIn ⟨o, h1, h2.1⟩ e (fun z => nomatch z) h
  | @dT a kvs ea =>
    cases (show u = Value.ref a from rx)
    obtain ⟨_, _, xs, _, o, es, ep, h1, h2, _⟩ := (show ObjOk X.prog X.w H s.heap a (.dT kvs) from I.hok a _ ea)
    exact PySem.W.kia_one PySem.W.kitx_dict I.kIn ⟨o, h1, h2.1⟩ e (fun z => nomatch z) h
  | @ins a C dx fs ea cl ha hn htk hm =>
    cases (show u = Value.ref a from rx)
    obtain ⟨mA, O, _⟩ := ins_get I.hok ea
    obtain ⟨od, J, _⟩ := O.look
    exact PySem.W.kia_one (PySem.W.kitx_own (cl.get _) cl.hd ha hn htk hm) I.kIn J e (fun z => nomatch z) h
end
end L2
namespace L2
open PySem PySem.Spec PyProof.Rows
structure Room (k : Nat) (A : Around) : Prop where
  hd : A.handled = none
  dp : A.depth + 3 * k + 5 < recursionLimit
  un : A.units + 16 * k + 200 < cLine
theorem Room.mono {j k : Nat} {A : Around} (r : Room k A) (h : j ≤ k) : Room j A := ⟨r.hd, by have := r.dp; omega, by have := r.un; omega⟩
theorem Room.deeper {k : Nat} {A : Around} (r : Room (k + 1) A) (env : Env) : Room k (A.deeper env) :=
  ⟨r.hd, by have := r.dp; show A.depth + 1 + 3 * k + 5 < _; omega, by have := r.un; show A.units + 3 + 16 * k + 200 < _; omega⟩
theorem Room.in1 {k : Nat} {A : Around} (r : Room (k + 1) A) : Room k A.in1 :=
  ⟨r.hd, by have := r.dp; show A.depth + 3 * k + 5 < _; omega, by have := r.un; show A.units + 1 + 16 * k + 200 < _; omega⟩
theorem Room.depth {k : Nat} {A : Around} (r : Room k A) : A.depth < recursionLimit := by have := r.dp; omega
theorem Room.units {k : Nat} {A : Around} (r : Room k A) : A.units + 64 < cLine := by have := r.un; omega
def tNil : TA := fun _ H Q => Q [] H
def tCons (ta : TE) (tr : TA) : TA := fun σ H Q => ta σ H fun x H1 => tr σ H1 fun xs H2 => Q (x :: xs) H2
section
variable {X : Cx} {e : Expr} {es : List Expr} {te : TE} {t : TA} {pos : Pos}
theorem pa_nil : PA X [] tNil := fun _ _ _ _ H Q I h => Calls.spliced_nil ⟨[], H, I, .nil, h⟩
theorem pa_cons (ha : PE X e te) (hr : PA X es t) (hs : starEach (e :: es) X.env = (false, eval e X.env) :: starEach es X.env := by rfl) : PA X (e :: es) (tCons te t) := by
  intro pos pins s σ H Q I h
  rw [hs]
  show wpAny _ _ (spliced ((false, eval e X.env) :: backTo pos (starEach es X.env))) _ _ s
  refine Calls.spliced_cons (thn (ha pins s σ H _ I h) fun u s1 ⟨x, H1, I1, r1, q1⟩ => ?_)
  exact thn (hr pos pins s1 σ H1 _ I1 q1) fun us s2 ⟨xs, H2, I2, r2, q2⟩ => ⟨x :: xs, H2, I2, .cons r1 r2, q2⟩
def tTup (t : TA) : TE := fun σ H Q => t σ H fun xs H1 => xs.length ≤ sizeLine ∧ ∀ p, H1 p = none → Q (.ref p) (upd H1 p (.tup xs))
def tLst (t : TA) : TE := fun σ H Q => t σ H fun xs H1 => xs.length ≤ sizeLine ∧ ∀ p, H1 p = none → Q (.ref p) (upd H1 p (.lst xs))
theorem pe_tup {x1} (h : PA X es t) : PE X (.Tuple es x1 pos) (tTup t) := by
  intro pins s σ H Q I hq
  refine wpAny_Tuple_spliced (thn (h pos pins s σ H _ I hq) fun us s1 ⟨xs, H1, I1, r, z, q⟩ => ⟨by rw [← r.length]; exact z, ?_⟩)
  have hf : H1 s1.heap.objs.size = none := I1.hok.fresh (Nat.le_refl _)
  refine ⟨.ref s1.heap.objs.size, upd H1 s1.heap.objs.size (.tup xs), I1.laid (t' := s1.toks) (fun b u e => Heap.get?_push_of_some _ e) (Nat.le_refl _) ?_, rfl, q _ hf⟩
  exact ⟨z, us, r, ⟨_, Heap.get?_push_size _ rfl, rfl, _, rfl⟩⟩
theorem pe_lst (h : PA X es t) : PE X (.List es pos) (tLst t) := by
  intro pins s σ H Q I hq
  refine wpAny_List_spliced (thn (h pos pins s σ H _ I hq) fun us s1 ⟨xs, H1, I1, r, z, q⟩ => ⟨by rw [← r.length]; exact z, ?_⟩)
  have hf : H1 s1.heap.objs.size = none := I1.hok.fresh (Nat.le_refl _)
  refine ⟨.ref s1.heap.objs.size, upd H1 s1.heap.objs.size (.lst xs), I1.laid (t' := s1.toks) (fun b u e => Heap.get?_push_of_some _ e) (Nat.le_refl _) ?_, rfl, q _ hf⟩
  exact ⟨z, us, 0, r, Heap.get?_push_size _ rfl⟩
end
abbrev Sp := List V → Hp → VK → XK → Prop
abbrev CXT := List Env → Hp → Shared → XK → Value → Shared → Prop
structure Env0 (P : Program) (w : World) (K : PySem.W.Frag) (mg : Str → Option Value) (base : Heap) (A : Around) (outer : List Env) (s : Shared) (H : Hp) : Prop where
  frames : A.frames = some outer
  mod : Mod K mg base
  bs : ∀ b o, base.get? b = some o → s.heap.get? b = some o ∧ H b = none
  bsz : base.objs.size ≤ s.heap.objs.size
  funs : s.heap.FunFrames base outer
  frf : ∀ b ∈ frs outer, H b = none
  hok : HOk P w H s.heap
  bare : AllBare s.gens
def CE (outer : List Env) (P : Program) (w : World) (H : Hp) (s : Shared) (Q : VK) (u : Value) (s' : Shared) : Prop :=
  ∃ v H', s'.os = s.os ∧ AllBare s'.gens ∧ Un (frs outer) [] H H' s.heap s'.heap ∧ HOk P w H' s'.heap ∧ RelV v u ∧ Q v H'
def CR (CX : CXT) (outer : List Env) (P : Program) (w : World) (H : Hp) (s : Shared) (Q : VK) (E : XK) (r : Result) (s' : Shared) : Prop :=
  match r with
  | .ok (.ret u) => CE outer P w H s Q u s'
  | .ok _ => False
  | .error e => CX outer H s E e s'
structure FnOk (P : Program) (w : World) (K : PySem.W.Frag) (mg : Str → Option Value) (base : Heap) (CX : CXT) (k : Nat) (f : Addr) (fd : FuncData) (ps : List Str) (sp : Sp) : Prop where
  len : ∀ vs H Q E, sp vs H Q E → vs.length = ps.length
  run : ∀ (A : Around) (outer : List Env) (s : Shared) (H : Hp) (args : Args) (us : List Value) (vs : List V) (Q : VK) (E : XK), Room k A → Env0 P w K mg base A outer s H → BindsTo s fd args (ps.zip us) → Vals vs us → sp vs H Q E →
    codeAny (model P w) A (.call (.ref f) args) (CR CX outer P w H s Q E) s
theorem FnOk.mono {P : Program} {w : World} {K : PySem.W.Frag} {mg : Str → Option Value} {base : Heap} {CX : CXT} {j k : Nat} {f : Addr} {fd : FuncData} {ps : List Str} {sp : Sp} (F : FnOk P w K mg base CX j f fd ps sp) (h : j ≤ k) :
    FnOk P w K mg base CX k f fd ps sp := ⟨F.len, fun A outer s H args us vs Q E hr => F.run A outer s H args us vs Q E (hr.mono h)⟩
theorem FnOk.imp {P : Program} {w : World} {K : PySem.W.Frag} {mg : Str → Option Value} {base : Heap} {CX : CXT} {k : Nat} {f : Addr} {fd : FuncData} {ps : List Str} {sp sp' : Sp} (F : FnOk P w K mg base CX k f fd ps sp)
    (h : ∀ vs H Q E, sp' vs H Q E → sp vs H Q E) : FnOk P w K mg base CX k f fd ps sp' :=
  ⟨fun vs H Q E q => F.len vs H Q E (h _ _ _ _ q), fun A outer s H args us vs Q E hr he hb hv hs => F.run A outer s H args us vs Q E hr he hb hv (h _ _ _ _ hs)⟩
theorem Env0.in1 {P : Program} {w : World} {K : PySem.W.Frag} {mg : Str → Option Value} {base : Heap} {A : Around} {outer : List Env} {s : Shared} {H : Hp} (e : Env0 P w K mg base A outer s H) :
    Env0 P w K mg base A.in1 outer s H := ⟨e.frames, e.mod, e.bs, e.bsz, e.funs, e.frf, e.hok, e.bare⟩
section
variable {X : Cx} {pins : List (Addr × Obj)} {σ : St} {H : Hp} {s s' : Shared}
theorem Inv.env0 (I : Inv X pins σ H s) : Env0 X.prog X.w X.K X.mg X.base X.A X.stack s H :=
  ⟨I.ok.frames, I.ok.mod, I.bs, Nat.le_trans I.ok.bsz I.sz, I.stack, I.stkFree, I.hok, I.bare⟩
theorem Inv.after {Q : VK} {u : Value} (I : Inv X pins σ H s) (h : CE X.stack X.prog X.w H s Q u s') : EP X pins σ Q u s' := by
  obtain ⟨v, H', os, bare, un, hok, r, q⟩ := h
  obtain ⟨hh, g, d, t, os'⟩ := s'
  obtain rfl : os' = s.os := os
  exact ⟨v, H', I.call (h' := hh) (g' := g) (d' := d) (t' := t) (ch := []) un hok bare (fun b z => absurd z (by simp)), r, q⟩
end
def tCall (sp : Sp) (dvs : List V) (E : XK) (t : TA) : TE := fun σ H Q => t σ H fun vs H1 => sp (vs ++ dvs) H1 Q E
def Binds (K : PySem.W.Frag) (fd : FuncData) (ps : List Str) (ds : List Value) : Prop :=
  ∀ (s : Shared) (us : List Value), K.In s.heap → (us ++ ds).length = ps.length → BindsTo s fd ⟨us, []⟩ (ps.zip (us ++ ds))
theorem Binds.all {K : PySem.W.Frag} {fd : FuncData} {ps : List Str} (h : ∀ us : List Value, us.length = ps.length → bindArgs fd ⟨us, []⟩ = pure (ps.zip us)) : Binds K fd ps [] := fun s us _ hl => by
  rw [List.append_nil] at hl ⊢
  exact .of_eq (h us hl)
def Passes (CX : CXT) (X : Cx) (E : XK) : Prop := ∀ (pins : List (Addr × Obj)) (σ : St) (H : Hp) (s : Shared) (e : Value) (s' : Shared), Inv X pins σ H s → CX X.stack H s E e s' → X.xe e s'
section
variable {X : Cx} {CX : CXT} {k : Nat} {f C : Addr} {fd : FuncData} {ps : List Str} {sp : Sp} {dvs : List V} {ds : List Value} {E : XK} {x m : Str} {p pos apos : Pos} {e o : Expr} {es : List Expr} {ta : TE} {t : TA}
theorem run_fn {pins : List (Addr × Obj)} {σ : St} {H : Hp} {s : Shared} {Q : VK} {us : List Value} {vs : List V} (F : FnOk X.prog X.w X.K X.mg X.base CX k f fd ps sp) (hr : Room k X.A) (hb : Binds X.K fd ps ds) (hd : Vals dvs ds) (hx : Passes CX X E)
    (I : Inv X pins σ H s) (r : Vals vs us) (h : sp (vs ++ dvs) H Q E) : wpAny (model X.prog X.w) X.A (call (.ref f) us) (EP X pins σ Q) X.xe s := by
  have r2 : Vals (vs ++ dvs) (us ++ ds) := r.append hd
  have hl : (us ++ ds).length = ps.length := by rw [← r2.length]; exact F.len _ _ _ _ h
  refine wpAny_call (codeAny_mono (F.run X.A X.stack s H ⟨us, []⟩ (us ++ ds) (vs ++ dvs) Q E hr I.env0 (hb s us I.kIn hl) r2 h) fun r s' hq => ?_)
  cases r with
  | error e => exact hx pins σ H s e s' I hq
  | ok fl =>
    cases fl with
    | ret u => exact I.after hq
    | next => exact False.elim hq
    | brk => exact False.elim hq
    | cont => exact False.elim hq
theorem pe_call (F : FnOk X.prog X.w X.K X.mg X.base CX k f fd ps sp) (hr : Room k X.A) (hg : Gl X x) (hm : X.mg x = some (.ref f)) (hk : PySem.W.keepIn X.K (.ref f) = true) (hb : Binds X.K fd ps ds) (hd : Vals dvs ds) (hx : Passes CX X E)
    (ha : PA X (e :: es) t) (hdb : (x == ("__debug__" : Str)) = false := by decide) (he : starEach (e :: es) X.env = (false, eval e X.env) :: starEach es X.env := by rfl) (hpl : (backTo pos (starEach es X.env)).any (·.1) = false := by rfl) :
    PE X (.Call (.Name x p) (e :: es) [] pos) (tCall sp dvs E t) := by
  intro pins s σ H Q I h
  refine wpAny_Call_Name_kw (ld_glob I hg hm ?_ hdb)
  refine PySem.W.callWith_K (h₀ := X.base) I.ok.mod.kin hk (thn (ha pos pins s σ H _ I h) fun us s1 ⟨vs, H1, I1, r, q⟩ => ⟨I1.kIn, ?_⟩) he hpl
  exact run_fn F hr hb hd hx I1 r q
end
section
variable {X : Cx} {CX : CXT} {k : Nat} {f C : Addr} {fd : FuncData} {ps ks : List Str} {sp : Sp} {E : XK} {x m : Str} {p pos apos kpos : Pos} {e o : Expr} {es : List Expr} {kws : List Keyword} {te ta : TE} {t tk : TA} {nm : Option Str}
variable {g : List Value → List Value → List Value} {gV : List V → List V → List V}
end
structure FnScope (N P : List Str) (sc : Scope) : Prop where
  kind : sc.kind = .function
  co : sc.isCoroutine = false
  gen : sc.isGenerator = false
  nd : N.Nodup
  pre : N.take P.length = P
  par : ∀ x ∈ P, sc.names.lookup x = some .local ∨ sc.names.lookup x = some .cell
  nofree : ∀ y ∈ sc.names, y.2 ≠ .free
theorem bindL_out {kindOf : Str → Option NameKind} {x : Str} : ∀ {binds : List (Str × Value)} {m : Str → Option Value}, (∀ v, (x, v) ∉ binds) → bindL kindOf binds m x = m x
  | [], _, _ => rfl
  | (n, v) :: r, m, h => by
    unfold bindL
    rw [bindL_out fun w hw => h w (List.mem_cons_of_mem _ hw)]
    split
    · have : x ≠ n := by rintro rfl; exact h v List.mem_cons_self
      simp [this]
    · rfl
theorem bindC_out {kindOf : Str → Option NameKind} {x : Str} : ∀ {binds : List (Str × Value)} {m : Str → Option Value}, (∀ v, (x, v) ∉ binds) → bindC kindOf binds m x = m x
  | [], _, _ => rfl
  | (n, v) :: r, m, h => by
    unfold bindC
    rw [bindC_out fun w hw => h w (List.mem_cons_of_mem _ hw)]
    split
    · rfl
    · have : x ≠ n := by rintro rfl; exact h v List.mem_cons_self
      simp [this]
theorem bindL_get {kindOf : Str → Option NameKind} {x : Str} {v : Value} : ∀ {P : List Str} {vs : List Value} {i : Nat} {m : Str → Option Value}, P.Nodup → P[i]? = some x → vs[i]? = some v → kindOf x = some .local →
    bindL kindOf (P.zip vs) m x = some v
  | [], _, _, _, _, h, _, _ => by simp at h
  | _ :: _, [], _, _, _, _, h, _ => by simp at h
  | p :: P, w :: vs, 0, m, nd, h1, h2, hk => by
    simp at h1 h2; subst h1; subst h2
    show bindL kindOf ((p, w) :: P.zip vs) m p = _
    unfold bindL
    rw [bindL_out fun v hv => (List.nodup_cons.mp nd).1 (List.of_mem_zip hv).1, if_pos hk]
    simp
  | p :: P, w :: vs, i + 1, m, nd, h1, h2, hk => by
    show bindL kindOf ((p, w) :: P.zip vs) m x = _
    unfold bindL
    exact bindL_get (i := i) (List.nodup_cons.mp nd).2 (by simpa using h1) (by simpa using h2) hk
theorem bindC_get {kindOf : Str → Option NameKind} {x : Str} {v : Value} : ∀ {P : List Str} {vs : List Value} {i : Nat} {m : Str → Option Value}, P.Nodup → P[i]? = some x → vs[i]? = some v → kindOf x ≠ some .local →
    bindC kindOf (P.zip vs) m x = some v
  | [], _, _, _, _, h, _, _ => by simp at h
  | _ :: _, [], _, _, _, _, h, _ => by simp at h
  | p :: P, w :: vs, 0, m, nd, h1, h2, hk => by
    simp at h1 h2; subst h1; subst h2
    show bindC kindOf ((p, w) :: P.zip vs) m p = _
    unfold bindC
    rw [bindC_out fun v hv => (List.nodup_cons.mp nd).1 (List.of_mem_zip hv).1, if_neg hk]
    simp
  | p :: P, w :: vs, i + 1, m, nd, h1, h2, hk => by
    show bindC kindOf ((p, w) :: P.zip vs) m x = _
    unfold bindC
    exact bindC_get (i := i) (List.nodup_cons.mp nd).2 (by simpa using h1) (by simpa using h2) hk
def start (N : List Str) (vs : List V) : St := vs.map some ++ List.replicate (N.length - vs.length) none
def cxOf (CX : CXT) (P : Program) (w : World) (K : PySem.W.Frag) (mg : Str → Option Value) (base : Heap) (N : List Str) (qual : Str) (scope : Scope) (f : Addr) (cd : Value) (A : Around) (outer : List Env) (s : Shared) (H : Hp) (E : XK) : Cx where
  prog := P
  w := w
  K := K
  mg := mg
  base := base
  A := A.deeper (envOfC qual scope s.heap.objs.size f cd)
  N := N
  s₀ := s
  H₀ := H
  env := envOfC qual scope s.heap.objs.size f cd
  outer := outer
  stack := envOfC qual scope s.heap.objs.size f cd :: outer
  ex := []
  calm := true
  fn := fun _ => true
  pn := []
  xe := fun e s' => wpAny (model P w) (A.deeper (envOfC qual scope s.heap.objs.size f cd)) (leaving (envOfC qual scope s.heap.objs.size f cd) e) (fun _ s'' => CX outer H s E e s'') (fun e' s'' => CX outer H s E e' s'') s'
theorem cell_has {sc : Scope} {n : Nat} {x : Str} (h : sc.names.lookup x = some .cell) : ∃ c, (cellsFrom n sc.names []).lookup x = some c := by
  have q := PySem.W.cellsFrom_some sc.names n [] (.inl h)
  exact Option.isSome_iff_exists.mp q
theorem inv_start {CX : CXT} {P : Program} {w : World} {K : PySem.W.Frag} {mg : Str → Option Value} {base : Heap} {N ps : List Str} {qual : Str} {scope : Scope} {f : Addr} {cd : Value} {A : Around} {outer : List Env} {s s1 : Shared} {H : Hp} {E : XK} {us : List Value} {vs : List V}
    (S : FnScope N ps scope) (hd : A.handled = none) (e0 : Env0 P w K mg base A outer s H) (hl : vs.length = ps.length) (r : Vals vs us)
    (x : InCallC s s.heap.objs.size (bindL (envOfC qual scope s.heap.objs.size f cd).kindOf (ps.zip us) fun _ => none) (cellsFrom (s.heap.objs.size + 1) scope.names []) (bindC (envOfC qual scope s.heap.objs.size f cd).kindOf (ps.zip us) fun _ => none) s1) :
    Inv (cxOf CX P w K mg base N qual scope f cd A outer s H E) [] (start N vs) H s1 := by
  have hpl : ps.length ≤ N.length := by have := congrArg List.length S.pre; rw [List.length_take] at this; omega
  obtain ⟨h1, tk, rfl, hk⟩ := x.done
  have noA : ∀ b : Addr, b ∉ (cxOf CX P w K mg base N qual scope f cd A outer s H E).ex := fun b z => absurd (show b ∈ ([] : List Addr) from z) (by simp)
  refine ⟨⟨e0.mod, S.kind, rfl, rfl, Nat.le_refl _, fun y z c h1 h2 => ?_, fun y hy => ?_, fun y c _ h => ?_, fun _ => hd, Around.frames_deeper e0.frames, .inr ⟨rfl, rfl⟩, fun b z => absurd z (noA b), e0.bs, e0.bsz, fun b _ _ => noA b, fun b z => absurd z (noA b), e0.funs, e0.frf⟩,
    rfl, e0.bare, Un.kept hk, ⟨_, x.toInCall.ns, fun i y v h1 h2 h3 => ?_⟩, fun y c h => ⟨_, x.cell y c h⟩, e0.hok.fresh (Nat.le_refl _), fun y c h => ?_, fun p hp => absurd (show p ∈ ([] : List (Addr × Obj)) from hp) (by simp), e0.hok.kept hk, ?_⟩
  · exact name_of_addr x.apart (PySem.mem_of_lookup h1) (PySem.mem_of_lookup h2)
  · have hy : scope.names.lookup y = some .cell ∨ scope.names.lookup y = some .free := hy
    rcases hy with hy | hy
    · exact cell_has hy
    · exact absurd rfl (S.nofree _ (PySem.mem_of_lookup hy))
  · exact Nat.le_of_lt (x.above y c (PySem.mem_of_lookup h))
  · have hi : i < vs.length := by
      unfold start at h2
      by_cases hi : i < vs.length
      · exact hi
      · rw [List.getElem?_append_right (by simpa using hi)] at h2
        rw [List.getElem?_replicate] at h2
        split at h2 <;> cases h2
    have ha : vs[i]? = some v := by
      unfold start at h2
      rw [List.getElem?_append_left (by simpa using hi), List.getElem?_map] at h2
      cases e : vs[i]? with
      | none => rw [e] at h2; cases h2
      | some a => rw [e] at h2; cases h2; rfl
    obtain ⟨u, hu, rv⟩ := r.get ha
    have hp : ps[i]? = some y := by
      rw [← S.pre, List.getElem?_take_of_lt (by omega)]; exact h1
    have ndP : ps.Nodup := by rw [← S.pre]; exact S.nd.sublist (List.take_sublist _ _)
    refine ⟨u, rv, ?_⟩
    rcases S.par y (List.mem_of_getElem? hp) with k | k
    · exact .inl ⟨k, bindL_get ndP hp hu k⟩
    · obtain ⟨c, e⟩ := cell_has (n := s.heap.objs.size + 1) k
      refine .inr ⟨.inl k, c, e, ?_⟩
      have q := x.cell y c e
      rw [bindC_get ndP hp hu (by show scope.names.lookup y ≠ _; rw [k]; decide)] at q
      exact q
  · exact e0.hok.fresh (Nat.le_of_lt (x.above y c (PySem.mem_of_lookup h)))
  · unfold start
    show _ = N.length
    rw [List.length_append, List.length_map, List.length_replicate]
    omega
theorem fn_of {CX : CXT} {P : Program} {w : World} {K : PySem.W.Frag} {mg : Str → Option Value} {base : Heap} {k : Nat} {f : Addr} {name qual : Str} {params : Arguments} {body : List Stmt} {scope : Scope} {dV kV doc pm cdv ct oc : Value} {an od : Option Addr}
    {osl : Array (Option Value)} {N ps : List Str} {sp : Sp} (lk : K.lookup f = some ⟨oc, od, .func (PySem.W.fnOf name qual params body scope dV kV doc pm an cdv ct), osl⟩) (hcd : PySem.W.codeIn K cdv qual = true) (S : FnScope N ps scope)
    (len : ∀ vs H Q E, sp vs H Q E → vs.length = ps.length)
    (hbody : ∀ (A : Around) (outer : List Env) (s : Shared) (H : Hp) (vs : List V) (Q : VK) (E : XK), Room k (A.deeper (envOfC qual scope s.heap.objs.size f cdv)) → sp vs H Q E →
      ∃ t, PSs (cxOf CX P w K mg base N qual scope f cdv A outer s H E) body t ∧ t { nx := fun _ H' => Q .non H', rt := Q } (start N vs) H) :
    FnOk P w K mg base CX (k + 1) f (PySem.W.fnOf name qual params body scope dV kV doc pm an cdv ct) ps sp := by
  refine ⟨len, fun A outer s H args us vs Q E hr e0 hb r hsp => ?_⟩
  have hl := len _ _ _ _ hsp
  have KX : K.In s.heap := e0.mod.kin.keeps fun b o e => (e0.bs b o e).1
  have lim : s.heap.NoLimit := e0.mod.nolimit.keeps fun b o e => (e0.bs b o e).1
  have hkind : ∀ y ∈ ps.zip us, scope.names.lookup y.1 = some .local ∨ (scope.names.lookup y.1 = some .cell ∧ ((cellsFrom (s.heap.objs.size + 1) scope.names []).lookup y.1).isSome = true) := fun ⟨n, v⟩ hy => by
    rcases S.par n (List.of_mem_zip hy).1 with q | q
    · exact .inl q
    · exact .inr ⟨q, PySem.W.cellsFrom_some _ _ _ (.inl q)⟩
  refine codeAny_call_function hr.depth (KX _ _ lk) rfl S.co S.gen rfl (PySem.W.codeRec_of KX hcd) (hb _ _ _ _ ?_)
  refine wpAny_newFunctionEnv_cells S.kind hkind fun env he s1 x => ?_
  subst he
  refine ⟨lim.keeps x.toInCall.keep, codeAny_func ?_⟩
  obtain ⟨t, ht, hq⟩ := hbody A outer s H vs Q E (hr.deeper _) hsp
  have I : Inv (cxOf CX P w K mg base N qual scope f cdv A outer s H E) [] (start N vs) H s1 := inv_start S hr.hd e0 hl r x
  refine wpAny_mono (ht [] s1 (start N vs) H _ I hq) (fun fl s' hs => ?_) fun e s' hs => hs
  have fin : ∀ {σ' : St} {H' : Hp} {v : V} {u : Value}, Inv (cxOf CX P w K mg base N qual scope f cdv A outer s H E) [] σ' H' s' → RelV v u → Q v H' → CE outer P w H s Q u s' :=
    fun {σ' H' v u} J rv q => ⟨v, H', J.os, J.bare, J.base, J.hok, rv, q⟩
  cases fl with
  | ret u =>
    obtain ⟨v, σ', H', J, rv, q⟩ := hs
    exact fin J rv q
  | next =>
    obtain ⟨σ', H', J, q⟩ := hs
    exact fin (v := V.non) (u := Value.none) J rfl q
  | brk =>
    obtain ⟨_, _, _, q⟩ := hs
    exact False.elim q
  | cont =>
    obtain ⟨_, _, _, q⟩ := hs
    exact False.elim q
end L2
namespace L2
open PySem PySem.Spec PyProof.Rows
section
variable {X : Cx} {x : Str} {p pos : Pos} {e : Expr} {es : List Expr} {t : TA} {id T : String} {r : List V → Hp → VK → Prop}
def tCB (r : List V → Hp → VK → Prop) (t : TA) : TE := fun σ H Q => t σ H fun vs H1 => r vs H1 Q
theorem pe_callB (hc : CallR X (.builtin id) r) (hg : Gl X x) (hm : X.mg x = none) (hv : bootBuiltins x = some (.builtin id)) (ha : PA X (e :: es) t) (hn : x ≠ "__name__" := by decide) (hdb : (x == ("__debug__" : Str)) = false := by decide)
    (he : starEach (e :: es) X.env = (false, eval e X.env) :: starEach es X.env := by rfl) (hpl : (backTo pos (starEach es X.env)).any (·.1) = false := by rfl) : PE X (.Call (.Name x p) (e :: es) [] pos) (tCB r t) := by
  intro pins s σ H Q I h
  refine wpAny_Call_Name_kw (ld_blt I hg hm hv ?_ hn hdb)
  exact PyProof.Rows.callWith_builtin1 (thn (ha pos pins s σ H _ I h) fun us s1 ⟨vs, H1, I1, r1, q1⟩ => hc pins s1 σ H1 vs us Q I1 r1 q1) he hpl
theorem pe_callTy (hc : CallR X (.type T) r) (hg : Gl X x) (hm : X.mg x = none) (hv : bootBuiltins x = some (.type T)) (ha : PA X (e :: es) t) (hn : x ≠ "__name__" := by decide) (hdb : (x == ("__debug__" : Str)) = false := by decide)
    (he : starEach (e :: es) X.env = (false, eval e X.env) :: starEach es X.env := by rfl) (hpl : (backTo pos (starEach es X.env)).any (·.1) = false := by rfl) : PE X (.Call (.Name x p) (e :: es) [] pos) (tCB r t) := by
  intro pins s σ H Q I h
  refine wpAny_Call_Name_kw (ld_blt I hg hm hv ?_ hn hdb)
  exact PyProof.Rows.callWith_type1 (thn (ha pos pins s σ H _ I h) fun us s1 ⟨vs, H1, I1, r1, q1⟩ => hc pins s1 σ H1 vs us Q I1 r1 q1) he hpl
end
end L2
namespace HT
open PySem PyProof.Rows
section
open PySem.SeqAt
open PySem.AutoSeq1 (wpAny_loadPart')
open PySem.MeetsSeq PySem.MeetsSeq2 PySem.MeetsSeq3
end
section
variable {prog : Program} {w : World} {A : Around} {E : Value → Shared → Prop} {s : Shared}
def sIx (n d : Nat) : Option Int → Nat
  | none => d
  | some v => if v < 0 then (v + (n : Int)).toNat else min v.toNat n
theorem sIx_none (n d : Nat) : sIx n d none = d := rfl
theorem sIx_nat (n d k : Nat) : sIx n d (some (k : Int)) = min k n := by
  show (if (k : Int) < 0 then ((k : Int) + (n : Int)).toNat else min (k : Int).toNat n) = min k n
  rw [if_neg (by omega), Int.toNat_natCast]
end
end HT
namespace L2
open PySem PySem.Spec PyProof.Rows
abbrev TO := St → Hp → (Option Int → Hp → Prop) → Prop
def PO (X : Cx) (e : Option Expr) (t : TO) : Prop :=
  ∀ (pins : List (Addr × Obj)) (s : Shared) (σ : St) (H : Hp) (Q : Option Int → Hp → Prop), Inv X pins σ H s → t σ H Q →
    wpAny (model X.prog X.w) X.A (evalPart e X.env) (fun u s' => ∃ o H', Inv X pins σ H' s' ∧ IsPart u o ∧ Q o H') X.xe s
def tNoPart : TO := fun _ H Q => Q none H
def tPart (t : TE) : TO := fun σ H Q => t σ H fun x H1 => ∃ i, x = .int i ∧ Q (some i) H1
theorem intsAre_of {ns : List Int} : ∀ {us : List Value}, Vals (ns.map V.int) us → IntsAre us ns := by
  induction ns with
  | nil => intro us r; rw [List.map_nil] at r; cases r; exact .nil
  | cons n ns ih =>
    intro us r
    rw [List.map_cons] at r
    cases r with
    | cons r1 r2 =>
      obtain ⟨t, e⟩ := r1
      subst e
      exact .cons n t (ih r2)
section
variable {X : Cx} {e : Expr} {te : TE} {lo hi : Option Expr} {tl th : TO} {pos p2 : Pos}
theorem po_none : PO X none tNoPart := by
  intro pins s σ H Q I h
  rw [evalPart_none]
  exact wpAny_pure ⟨none, H, I, .none, h⟩
theorem po_some (h : PE X e te) : PO X (some e) (tPart te) := by
  intro pins s σ H Q I hw
  rw [evalPart_some]
  refine thn (h pins s σ H _ I hw) fun u s1 ⟨x, H1, I1, r1, q1⟩ => ?_
  obtain ⟨i, rfl, q⟩ := q1
  obtain ⟨t, rfl⟩ := r1
  exact ⟨some i, H1, I1, .int i t, q⟩
def SlR (X : Cx) (r : V → Option Int → Option Int → Hp → VK → Prop) : Prop :=
  ∀ (pins : List (Addr × Obj)) (s : Shared) (σ : St) (H : Hp) (x : V) (v vl vu : Value) (lo hi : Option Int) (sl : Addr) (Q : VK), Inv X pins σ H s → RelV x v → s.heap.IsSliceOf sl vl vu .none → IsPart vl lo → IsPart vu hi → r x lo hi H Q →
    ∃ T id, typeLookup (.type T) "__getitem__" = pure (some (.builtin id)) ∧ s.TypeIs v T ∧ wpAny (model X.prog X.w) X.A (getItem v (.ref sl)) (EP X pins σ Q) X.xe s
theorem SlR.or {r r' : V → Option Int → Option Int → Hp → VK → Prop} (h : SlR X r) (h' : SlR X r') : SlR X (fun x lo hi H Q => r x lo hi H Q ∨ r' x lo hi H Q) := by
  intro pins s σ H x v vl vu lo hi sl Q I rx hs pl pu q
  rcases q with q | q
  · exact h pins s σ H x v vl vu lo hi sl Q I rx hs pl pu q
  · exact h' pins s σ H x v vl vu lo hi sl Q I rx hs pl pu q
def tSl (r : V → Option Int → Option Int → Hp → VK → Prop) (te : TE) (tl th : TO) : TE := fun σ H Q => te σ H fun x H1 => tl σ H1 fun l H2 => th σ H2 fun u H3 => r x l u H3 Q
theorem pe_slice {r : V → Option Int → Option Int → Hp → VK → Prop} (hr : SlR X r) (he : PE X e te) (hl : PO X lo tl) (hu : PO X hi th) : PE X (.Subscript e (.Slice lo hi none p2) pos) (tSl r te tl th) := by
  intro pins s σ H Q I h
  refine Subscript_ (thn (he pins s σ H _ I h) fun v s1 ⟨x, H1, I1, r1, q1⟩ => ?_)
  refine wpAny_Slice (thn (hl pins s1 σ H1 _ I1 q1) fun vl s2 ⟨l, H2, I2, pl, q2⟩ => thn (hu pins s2 σ H2 _ I2 q2) fun vu s3 ⟨u, H3, I3, pu, q3⟩ => ?_)
  rw [evalPart_none]
  refine wpAny_pure ?_
  have I4 : Inv X pins σ H3 { s3 with heap := s3.heap.push { cls := .type "slice", data := .fields #[vl, vu, .none] } } := I3.kept (t' := s3.toks) fun b ob q => Heap.get?_push_of_some _ q
  obtain ⟨T, id, hT, ht, hg⟩ := hr pins { s3 with heap := s3.heap.push { cls := .type "slice", data := .fields #[vl, vu, .none] } } σ H3 x v vl vu l u s3.heap.objs.size Q I4 r1 (Heap.IsSliceOf.new ..) pl pu q3
  show wpAny (model X.prog X.w) X.A (subscriptTail e (.Slice lo hi none p2) v (.ref s3.heap.objs.size)) (EP X pins σ Q) X.xe { s3 with heap := s3.heap.push { cls := .type "slice", data := .fields #[vl, vu, .none] } }
  exact tail_any (ops := [.ref s3.heap.objs.size, v]) ht hT hg (by with_unfolding_all rfl)
def cutV (xs : List V) (lo hi : Option Int) : List V := (xs.drop (HT.sIx xs.length 0 lo)).take (HT.sIx xs.length xs.length hi - HT.sIx xs.length 0 lo)
theorem cutV_length (xs : List V) (lo hi : Option Int) : (cutV xs lo hi).length ≤ xs.length := by
  unfold cutV
  rw [List.length_take, List.length_drop]
  omega
end
end L2
namespace L2
open PySem PySem.Spec PyProof.Rows
def ixN (n : Nat) (i : Int) : Option Nat := if 0 ≤ i then (if i < n then some i.toNat else none) else if -(n : Int) ≤ i then some (i + n).toNat else none
def atI {α : Type} (xs : List α) (i : Int) : Option α := (ixN xs.length i).bind fun j => xs[j]?
theorem ixN_seq {n : Nat} {i : Int} {j : Nat} (h : ixN n i = some j) : seqIndex? i n = some j ∧ j < n ∧ -(n : Int) ≤ i ∧ i < n := by
  unfold ixN at h
  by_cases h0 : 0 ≤ i
  · rw [if_pos h0] at h
    by_cases h1 : i < n
    · rw [if_pos h1] at h
      have e : i.toNat = j := Option.some.inj h
      exact ⟨by rw [seqIndex_of h0 h1, e], by omega, by omega, h1⟩
    · rw [if_neg h1] at h; cases h
  · rw [if_neg h0] at h
    by_cases h1 : -(n : Int) ≤ i
    · rw [if_pos h1] at h
      have e : (i + n).toNat = j := Option.some.inj h
      exact ⟨by rw [seqIndex_neg (by omega) h1, e], by omega, h1, by omega⟩
    · rw [if_neg h1] at h; cases h
theorem atI_get {α : Type} {xs : List α} {i : Int} {v : α} (h : atI xs i = some v) : ∃ j, seqIndex? i xs.length = some j ∧ xs[j]? = some v ∧ j < xs.length ∧ -(xs.length : Int) ≤ i ∧ i < xs.length := by
  unfold atI at h
  cases e : ixN xs.length i with
  | none => rw [e] at h; cases h
  | some j =>
    rw [e] at h
    obtain ⟨h1, h2, h3, h4⟩ := ixN_seq e
    exact ⟨j, h1, h, h2, h3, h4⟩
theorem atI_nat {α : Type} {xs : List α} {j : Nat} {v : α} (h : xs[j]? = some v) : atI xs (j : Int) = some v := by
  have hj : j < xs.length := (List.getElem?_eq_some_iff.mp h).1
  have e : ixN xs.length (j : Int) = some j := by
    unfold ixN
    rw [if_pos (by omega), if_pos (by omega)]; simp
  unfold atI; rw [e]; exact h
def PlainIx (b : Expr) : Prop := ∀ o i, subscripted b false o i = operate [o, i] (getItem o i)
def IxR (X : Cx) (r : R2) : Prop :=
  ∀ (value slice : Expr) (pins : List (Addr × Obj)) (s : Shared) (σ : St) (H : Hp) (x y : V) (v u : Value) (Q : VK), Inv X pins σ H s → RelV x v → RelV y u → r x y H Q →
    subscripted slice false v u = operate [v, u] (getItem v u) → wpAny (model X.prog X.w) X.A (subscriptTail value slice v u) (EP X pins σ Q) X.xe s
def MtR (X : Cx) (id : String) (r : V → List V → Hp → VK → Prop) : Prop :=
  ∀ (pins : List (Addr × Obj)) (s : Shared) (σ : St) (H : Hp) (x : V) (xs : List V) (v : Value) (us : List Value) (Q : VK), Inv X pins σ H s → RelV x v → Vals xs us → r x xs H Q →
    wpAny (model X.prog X.w) X.A (call (.builtin id) (v :: us)) (EP X pins σ Q) X.xe s
section
variable {X : Cx} {a b : Expr} {ta tb : TE} {pos : Pos}
theorem IxR.or {r r' : R2} (h : IxR X r) (h' : IxR X r') : IxR X (fun x y H Q => r x y H Q ∨ r' x y H Q) := by
  intro value slice pins s σ H x y v u Q I rx ry q hs
  rcases q with q | q
  · exact h value slice pins s σ H x y v u Q I rx ry q hs
  · exact h' value slice pins s σ H x y v u Q I rx ry q hs
theorem MtR.or {id : String} {r r' : V → List V → Hp → VK → Prop} (h : MtR X id r) (h' : MtR X id r') : MtR X id (fun x xs H Q => r x xs H Q ∨ r' x xs H Q) := by
  intro pins s σ H x xs v us Q I rx rs q
  rcases q with q | q
  · exact h pins s σ H x xs v us Q I rx rs q
  · exact h' pins s σ H x xs v us Q I rx rs q
theorem pe_ix {r : R2} (hr : IxR X r) (ha : PE X a ta) (hb : PE X b tb) (hs : PlainIx b) : PE X (.Subscript a b pos) (tOp r ta tb) := by
  intro pins s σ H Q I h
  exact Subscript_ (binT ha hb I h fun v u s2 x y H2 I2 rx ry q => hr a b pins s2 σ H2 x y v u Q I2 rx ry q (hs _ _))
def rIxL (K : PySem.W.Frag) : R2 := fun x y H Q => ∃ p xs i v, x = .ref p ∧ y = .int i ∧ SqL K H p xs ∧ atI xs i = some v ∧ Q v H
def rIxT (K : PySem.W.Frag) : R2 := fun x y H Q => ∃ p xs i v, x = .ref p ∧ y = .int i ∧ SqT K H p xs ∧ atI xs i = some v ∧ Q v H
def rIxS : R2 := fun x y H Q => ∃ z i c, x = .str z ∧ y = .int i ∧ z.length ≤ sizeLine ∧ atI z.cps.toList i = some c ∧ Q (.str ⟨#[c]⟩) H
theorem ix_list : IxR X (rIxL X.K) := by
  intro value slice pins s σ H x y v u Q I rx ry h hs
  obtain ⟨p, xs, i, z, rfl, rfl, hq, he, q⟩ := h
  cases rx
  obtain ⟨t, rfl⟩ := ry
  obtain ⟨its, r, pl, hz⟩ := I.list hq
  obtain ⟨j, h1, h2, h3, h4, h5⟩ := atI_get he
  obtain ⟨w, ew, rw'⟩ := r.get h2
  have hl := r.length
  have hn := line63
  have fin : EP X pins σ Q w s := ⟨z, H, I, rw', q⟩
  by_cases h0 : 0 ≤ i
  · have hj : i.toNat = j := by
      rw [seqIndex_of h0 h5] at h1
      exact Option.some.inj h1
    exact item_listR pl.isList h0 (by omega) (by rw [hj]; simpa using ew) fin hs
  · have hj : (i + (its.toArray.size : Int)).toNat = j := by
      rw [seqIndex_neg (by omega) h4] at h1
      rw [List.size_toArray, ← hl]
      exact Option.some.inj h1
    exact subscriptTail_builtinR (x := w) pl.isList.typeIs slot_list_getitem.lookup
      (wpAny_getItem_list_neg (Q := fun r s' => r = w ∧ EP X pins σ Q r s') pl.isList (by omega) (by rw [List.size_toArray] <;> omega) (by omega) (by rw [hj]; simpa using ew) ⟨rfl, fin⟩) hs
theorem ix_tup : IxR X (rIxT X.K) := by
  intro value slice pins s σ H x y v u Q I rx ry h hs
  obtain ⟨p, xs, i, z, rfl, rfl, hq, he, q⟩ := h
  cases rx
  obtain ⟨t, rfl⟩ := ry
  obtain ⟨its, r, pl, hz⟩ := I.tuple hq
  obtain ⟨j, h1, h2, h3, h4, h5⟩ := atI_get he
  obtain ⟨w, ew, rw'⟩ := r.get h2
  have hl := r.length
  have hn := line63
  have fin : EP X pins σ Q w s := ⟨z, H, I, rw', q⟩
  exact subscriptTail_builtinR (x := w) pl.typeIs slot_tuple_getitem.lookup
    (getItem_tuple (j := j) (Q := fun r s' => r = w ∧ EP X pins σ Q r s') pl (by omega) (by omega) (by rw [List.size_toArray, ← hl]; exact h1) (by simpa using ew) ⟨rfl, fin⟩) hs
theorem ix_str : IxR X rIxS := by
  intro value slice pins s σ H x y v u Q I rx ry h hs
  obtain ⟨z, i, c, rfl, rfl, hz, he, q⟩ := h
  obtain ⟨t, rfl⟩ := rx
  obtain ⟨t', rfl⟩ := ry
  obtain ⟨j, h1, h2, h3, h4, h5⟩ := atI_get he
  have hl : z.cps.toList.length = z.length := by simp [Str.length]
  rw [hl] at h1 h4 h5
  have hn := line63
  exact tail_any (typeIs_str s z t) slot_str_getitem.lookup (getItem_str (c := c) (by
    have e1 : decide (i < -(2 ^ 63 : Int)) = false := decide_eq_false (by omega)
    have e2 : decide (i ≥ 2 ^ 63) = false := decide_eq_false (by omega)
    rw [e1, e2, Bool.or_false]) (by rw [h1]; simpa using h2) ⟨.str ⟨#[c]⟩, H, I.tok _, ⟨_, rfl⟩, q⟩) hs
theorem mapSeq_set (its : List Value) (n j : Nat) (u : Value) : Obj.mapSeq (·.setIfInBounds j u) { cls := .type "list", data := .seq its.toArray n } = { cls := .type "list", data := .seq (its.set j u).toArray n } := by
  simp [Obj.mapSeq]
theorem Inv.lst {pins : List (Addr × Obj)} {σ : St} {H : Hp} {s : Shared} {p : Addr} {xs : List V} (I : Inv X pins σ H s) (h : H p = some (.lst xs)) :
    ∃ (its : List Value) (n : Nat), Vals xs its ∧ s.heap.get? p = some { cls := .type "list", data := .seq its.toArray n } ∧ xs.length ≤ sizeLine := by
  obtain ⟨z, its, n, r, e⟩ := I.hok p _ h
  exact ⟨its, n, r, e, z⟩
theorem Inv.lstUpd {pins : List (Addr × Obj)} {σ : St} {H : Hp} {s : Shared} {p : Addr} {xs ys : List V} {its its' : List Value} {n n' : Nat} {f : Obj → Obj} (I : Inv X pins σ H s) (h : H p = some (.lst xs))
    (ho : s.heap.get? p = some { cls := .type "list", data := .seq its.toArray n }) (hf : f { cls := .type "list", data := .seq its.toArray n } = { cls := .type "list", data := .seq its'.toArray n' }) (r : Vals ys its') (hz : ys.length ≤ sizeLine) (t : Nat) :
    Inv X pins σ (upd H p (.lst ys)) { s with heap := s.heap.update p f, toks := t } := by
  have e : (s.heap.update p f).get? p = some { cls := .type "list", data := .seq its'.toArray n' } := by
    rw [Heap.get?_update_self f ho (by rw [hf] <;> rfl), hf]
  refine I.write (x := p) (e := p) (by rw [h]; trivial) (.inl rfl) (fun b u hb q => (Heap.get?_update_other _ _ (Ne.symm hb)).trans q) ⟨_, e⟩ ?_
  exact ⟨hz, its', n', r, e⟩
def rSetL : V → V → V → Hp → (Hp → Prop) → Prop := fun o i v H Q => ∃ p xs k j, o = .ref p ∧ i = .int k ∧ H p = some (.lst xs) ∧ ixN xs.length k = some j ∧ Q (upd H p (.lst (xs.set j v)))
theorem set_list : PSet X rSetL := by
  intro pins s σ H o i v ov iv u Q I ro ri rv h
  obtain ⟨p, xs, k, j, rfl, rfl, hp, hj, q⟩ := h
  cases ro
  obtain ⟨t, rfl⟩ := ri
  obtain ⟨its, n, r, ho, hz⟩ := I.lst hp
  obtain ⟨h1, h2, h3, h4⟩ := ixN_seq hj
  have hl := r.length
  have hn := line63
  have I' : Inv X pins σ (upd H p (.lst (xs.set j v))) { s with heap := s.heap.update p (Obj.mapSeq (·.setIfInBounds j u)) } :=
    I.lstUpd hp ho (mapSeq_set its n j u) (r.set rv j) (by rw [List.length_set]; exact hz) s.toks
  by_cases h0 : 0 ≤ k
  · have hk : k.toNat = j := by
      rw [seqIndex_of h0 h4] at h1
      exact Option.some.inj h1
    exact PySem.W.ki_setAt ho h0 (by omega) (by rw [List.size_toArray, ← hl]; exact h4) (by rw [hk]; exact ⟨_, I', q⟩)
  · have hk : (k + (its.toArray.size : Int)).toNat = j := by
      rw [seqIndex_neg (by omega) h3] at h1
      rw [List.size_toArray, ← hl]
      exact Option.some.inj h1
    exact PySem.W.ki_setBack ho (by omega) (by rw [List.size_toArray, ← hl]; exact h3) (by omega) (by rw [hk]; exact ⟨_, I', q⟩)
theorem slice_bounds (lo hi : Option Int) (n : Nat) : (sliceBounds lo hi none n).1 = ((HT.sIx n 0 lo : Nat) : Int) ∧ (sliceBounds lo hi none n).2.1 = ((HT.sIx n n hi : Nat) : Int) ∧ (sliceBounds lo hi none n).2.2 = 1 := by
  refine ⟨?_, ?_, rfl⟩
  · cases lo with
    | none => simp [sliceBounds, HT.sIx]
    | some i =>
      simp only [sliceBounds, HT.sIx, Option.getD_none, show (1 : Int) > 0 by decide, if_true]
      by_cases h : i < 0
      · simp only [h, if_true] <;> omega
      · simp only [h, if_false] <;> omega
  · cases hi with
    | none => simp [sliceBounds, HT.sIx]
    | some i =>
      simp only [sliceBounds, HT.sIx, Option.getD_none, show (1 : Int) > 0 by decide, if_true]
      by_cases h : i < 0
      · simp only [h, if_true] <;> omega
      · simp only [h, if_false] <;> omega
theorem slicePick_cut (its : List Value) (lo hi : Option Int) : slicePick its.toArray lo hi none = ((its.drop (HT.sIx its.length 0 lo)).take (HT.sIx its.length its.length hi - HT.sIx its.length 0 lo)).toArray := by
  obtain ⟨h1, h2, h3⟩ := slice_bounds lo hi its.toArray.size
  unfold slicePick
  rw [h1, h2, h3]
  simp only [sliceRange_one, pick_run, List.size_toArray] <;> rfl
def rSlL (K : PySem.W.Frag) : V → Option Int → Option Int → Hp → VK → Prop := fun x lo hi H Q => ∃ a xs, x = .ref a ∧ SqL K H a xs ∧ ∀ p, H p = none → Q (.ref p) (upd H p (.lst (cutV xs lo hi)))
theorem sl_list : SlR X (rSlL X.K) := by
  intro pins s σ H x v vl vu lo hi sl Q I rx hs pl pu h
  obtain ⟨a, xs, rfl, hx, q⟩ := h
  cases rx
  obtain ⟨its, r, ht, hz⟩ := I.list hx
  have hlen := r.length
  refine ⟨"list", _, slot_list_getitem.lookup, ht.isList.typeIs, ?_⟩
  refine wpAny_getItem_list_slice ht.isList hs pl pu .none (by simp) ?_ (by rw [List.size_toArray] <;> omega)
  rw [slicePick_cut, ← hlen]
  refine ⟨.ref s.heap.objs.size, _, I.laid (t' := s.toks) (o := .lst (cutV xs lo hi)) (fun b ob q => Heap.get?_push_of_some _ q) (Nat.le_refl _) ?_, rfl, q _ (I.hok.fresh (Nat.le_refl _))⟩
  exact ⟨Nat.le_trans (cutV_length xs lo hi) hz, _, 0, (r.drop (HT.sIx xs.length 0 lo)).take (HT.sIx xs.length xs.length hi - HT.sIx xs.length 0 lo), Heap.get?_push_size _ rfl⟩
def flatV : V → Bool
  | .non => true
  | .bl _ => true
  | .int _ => true
  | .str _ => true
  | _ => false
def eqV : V → V → Bool
  | .non, .non => true
  | .bl a, .bl b => a == b
  | .bl a, .int b => (if a then 1 else 0) == b
  | .int a, .bl b => a == (if b then 1 else 0)
  | .int a, .int b => a == b
  | .str a, .str b => a == b
  | _, _ => false
theorem eqAt_V {A : Around} {s : Shared} {y x : V} {u v : Value} (ry : RelV y u) (rx : RelV x v) (fy : flatV y = true) (fx : flatV x = true) : SeqAt.EqAt A s u v (eqV y x) := by
  cases y with
  | non =>
    cases ry
    cases x with
    | non => cases rx; exact SeqAt.EqAt.same _
    | bl b => cases rx; exact SeqAt.EqAt.none_bool b
    | int b => obtain ⟨t, rfl⟩ := rx; exact SeqAt.EqAt.none_int b t
    | str b => obtain ⟨t, rfl⟩ := rx; exact SeqAt.EqAt.none_str b t
    | _ => exact absurd (show false = true from fx) Bool.false_ne_true
  | bl a =>
    cases ry
    cases x with
    | non => cases rx; exact SeqAt.EqAt.bool_none a
    | bl b => cases rx; exact SeqAt.EqAt.bool_bool a b
    | int b => obtain ⟨t, rfl⟩ := rx; exact SeqAt.EqAt.bool_int a b t
    | str b => obtain ⟨t, rfl⟩ := rx; exact SeqAt.EqAt.bool_str a b t
    | _ => exact absurd (show false = true from fx) Bool.false_ne_true
  | int a =>
    obtain ⟨t', rfl⟩ := ry
    cases x with
    | non => cases rx; exact SeqAt.EqAt.int_none a t'
    | bl b => cases rx; exact SeqAt.EqAt.int_bool a t' b
    | int b => obtain ⟨t, rfl⟩ := rx; exact SeqAt.EqAt.int_int a t' b t
    | str b => obtain ⟨t, rfl⟩ := rx; exact SeqAt.EqAt.int_str a t' b t
    | _ => exact absurd (show false = true from fx) Bool.false_ne_true
  | str a =>
    obtain ⟨t', rfl⟩ := ry
    cases x with
    | non => cases rx; exact SeqAt.EqAt.str_none a t'
    | bl b => cases rx; exact SeqAt.EqAt.str_bool a t' b
    | int b => obtain ⟨t, rfl⟩ := rx; exact SeqAt.EqAt.str_int a t' b t
    | str b => obtain ⟨t, rfl⟩ := rx; exact SeqAt.EqAt.str_str a t' b t
    | _ => exact absurd (show false = true from fx) Bool.false_ne_true
  | _ => exact absurd (show false = true from fy) Bool.false_ne_true
def eqU (x : V) (u : Value) : Bool := match u with
  | .none => eqV .non x
  | .bool b => eqV (.bl b) x
  | .int i _ => eqV (.int i) x
  | .str z _ => eqV (.str z) x
  | _ => false
theorem eqU_of {x y : V} {u : Value} (r : RelV y u) (f : flatV y = true) : eqU x u = eqV y x := by
  cases y with
  | non => cases r; rfl
  | bl b => cases r; rfl
  | int i => obtain ⟨t, rfl⟩ := r; rfl
  | str z => obtain ⟨t, rfl⟩ := r; rfl
  | _ => exact absurd (show false = true from f) Bool.false_ne_true
theorem any_eqU {x : V} : ∀ {xs : List V} {us : List Value}, Vals xs us → xs.all flatV = true → us.any (eqU x) = xs.any fun y => eqV y x
  | _, _, .nil, _ => rfl
  | y :: xs, u :: us, .cons r t, f => by
    rw [List.all_cons, Bool.and_eq_true] at f
    rw [List.any_cons, List.any_cons, eqU_of r f.1, any_eqU t f.2]
theorem mem_eqAt {A : Around} {s : Shared} {x : V} {v : Value} (rx : RelV x v) (fx : flatV x = true) : ∀ {xs : List V} {us : List Value}, Vals xs us → xs.all flatV = true → ∀ u ∈ us, SeqAt.EqAt A s u v (eqU x u)
  | _, _, .nil, _ => fun u hu => by cases hu
  | y :: xs, u :: us, .cons r t, f => fun u' hu => by
    rw [List.all_cons, Bool.and_eq_true] at f
    rcases List.mem_cons.mp hu with rfl | hu
    · rw [eqU_of r f.1]; exact eqAt_V r rx f.1 fx
    · exact mem_eqAt rx fx t f.2 u' hu
def inV (x : V) (xs : List V) : Bool := xs.any fun y => eqV y x
def rIn (K : PySem.W.Frag) (neg : Bool) : R2 := fun x y H Q => ∃ p xs, y = .ref p ∧ (SqL K H p xs ∨ SqT K H p xs) ∧ flatV x = true ∧ xs.all flatV = true ∧ Q (.bl (if neg then !inV x xs else inV x xs)) H
theorem op_in_seq : OpR X (compareOp .In) (rIn X.K false) := by
  intro pins s σ H x y v u Q I rx ry h
  obtain ⟨p, xs, rfl, hq, fx, fs, q⟩ := h
  cases ry
  rcases hq with hq | hq
  · obtain ⟨its, r, pl, hz⟩ := I.list hq
    refine SeqAt.in_listAt (eqU x) pl.isList (fun w hw => mem_eqAt rx fx r fs w (by simpa using hw)) ⟨.bl _, H, I, rfl, ?_⟩
    rw [show its.toArray.any (eqU x) = its.any (eqU x) by simp, any_eqU r fs]
    exact q
  · obtain ⟨its, r, pl, hz⟩ := I.tuple hq
    refine SeqAt.in_tupleAt (eqU x) pl (fun w hw => mem_eqAt rx fx r fs w (by simpa using hw)) ⟨.bl _, H, I, rfl, ?_⟩
    rw [show its.toArray.any (eqU x) = its.any (eqU x) by simp, any_eqU r fs]
    exact q
theorem op_notIn_seq : OpR X (compareOp .NotIn) (rIn X.K true) := by
  intro pins s σ H x y v u Q I rx ry h
  obtain ⟨p, xs, rfl, hq, fx, fs, q⟩ := h
  cases ry
  rcases hq with hq | hq
  · obtain ⟨its, r, pl, hz⟩ := I.list hq
    refine SeqAt.notIn_listAt (eqU x) pl.isList (fun w hw => mem_eqAt rx fx r fs w (by simpa using hw)) ⟨.bl _, H, I, rfl, ?_⟩
    rw [show its.toArray.any (eqU x) = its.any (eqU x) by simp, any_eqU r fs]
    exact q
  · obtain ⟨its, r, pl, hz⟩ := I.tuple hq
    refine SeqAt.notIn_tupleAt (eqU x) pl (fun w hw => mem_eqAt rx fx r fs w (by simpa using hw)) ⟨.bl _, H, I, rfl, ?_⟩
    rw [show its.toArray.any (eqU x) = its.any (eqU x) by simp, any_eqU r fs]
    exact q
theorem call_len_seq : CallR X (.builtin "len") (fun xs H Q => ∃ p ys, xs = [.ref p] ∧ (SqL X.K H p ys ∨ SqT X.K H p ys) ∧ Q (.int ys.length) H) := by
  intro pins s σ H xs us Q I r h
  obtain ⟨p, ys, rfl, hq, q⟩ := h
  obtain ⟨u, rfl, rx⟩ := vals1 r
  cases rx
  have hn := line63
  rcases hq with hq | hq
  · obtain ⟨its, r', pl, hz⟩ := I.list hq
    have hlen := r'.length
    exact Calls.call_len_list pl.isList (by simp only [List.size_toArray] <;> omega) ⟨.int ys.length, H, I.tok _, ⟨s.toks + 1, by rw [List.size_toArray, hlen]⟩, q⟩
  · obtain ⟨its, r', pl, hz⟩ := I.tuple hq
    have hlen := r'.length
    exact len_tuple pl (by simp only [List.size_toArray] <;> omega) ⟨.int ys.length, H, I.tok _, ⟨s.toks + 1, by rw [List.size_toArray, hlen]⟩, q⟩
theorem CallR.or {f : Value} {r r' : List V → Hp → VK → Prop} (h : CallR X f r) (h' : CallR X f r') : CallR X f (fun xs H Q => r xs H Q ∨ r' xs H Q) := by
  intro pins s σ H xs us Q I rs q
  rcases q with q | q
  · exact h pins s σ H xs us Q I rs q
  · exact h' pins s σ H xs us Q I rs q
theorem call_list_of : CallR X (.type "list") (fun xs H Q => ∃ p ys, xs = [.ref p] ∧ (SqL X.K H p ys ∨ SqT X.K H p ys) ∧ ∀ l, H l = none → Q (.ref l) (upd H l (.lst ys))) := by
  intro pins s σ H xs us Q I r h
  obtain ⟨p, ys, rfl, hq, q⟩ := h
  obtain ⟨u, rfl, rx⟩ := vals1 r
  cases rx
  have fin : ∀ (its : List Value), Vals ys its → ys.length ≤ sizeLine → ∀ (h' : Heap) (c' : Nat), (∀ b o', s.heap.get? b = some o' → h'.get? b = some o') →
      h'.get? s.heap.objs.size = some { cls := .type "list", dict := none, data := .seq its.toArray c', slots := #[] } → EP X pins σ Q (.ref s.heap.objs.size) { s with heap := h' } := fun its r' hz h' c' kp e =>
    ⟨.ref s.heap.objs.size, _, I.laid (t' := s.toks) kp (Nat.le_refl _) (show ObjOk X.prog X.w _ h' _ (.lst ys) from ⟨hz, its, c', r', e⟩), rfl, q _ (I.hok.fresh (Nat.le_refl _))⟩
  rcases hq with hq | hq
  · obtain ⟨its, r', pl, hz⟩ := I.list hq
    have hlen := r'.length
    obtain ⟨o, ho, hc, n, hd⟩ := pl.isList
    exact call_list_seq p (.inl rfl) ho hc hd (fun h' c' kp e => fin its r' hz h' c' kp e) (by simp only [List.size_toArray] <;> omega)
  · obtain ⟨its, r', pl, hz⟩ := I.tuple hq
    have hlen := r'.length
    obtain ⟨o, ho, hc, n, hd⟩ := pl
    exact call_list_seq p (.inr rfl) ho hc hd (fun h' c' kp e => fin its r' hz h' c' kp e) (by simp only [List.size_toArray] <;> omega)
def tyV (K : PySem.W.Frag) (T : String) (x : V) (H : Hp) : Prop := match x with
  | .str _ => T = "str"
  | .int _ => T = "int"
  | .ref p => (T = "list" ∧ ∃ xs, SqL K H p xs) ∨ (T = "tuple" ∧ ∃ o, K.lookup p = some o ∧ o.cls = .type "tuple" ∧ o.dict = none) ∨
      (T = "dict" ∧ ((∃ kvs, H p = some (.dK kvs)) ∨ ∃ kvs, H p = some (.dT kvs))) ∨ (T = "set" ∧ ∃ S n, H p = some (.set S n))
  | _ => False
theorem tyV_is {pins : List (Addr × Obj)} {σ : St} {H : Hp} {s : Shared} {T : String} {x : V} {v : Value} (I : Inv X pins σ H s) (r : RelV x v) (ty : tyV X.K T x H) :
    s.TypeIs v T ∧ ∀ a, v = .ref a → ∃ ob, s.heap.get? a = some ob ∧ ob.dict = none := by
  cases x with
  | str z =>
    obtain ⟨t, rfl⟩ := r
    cases (show T = "str" from ty)
    exact ⟨typeIs_str s z t, fun _ e => nomatch e⟩
  | int i =>
    obtain ⟨t, rfl⟩ := r
    cases (show T = "int" from ty)
    exact ⟨typeIs_int s i t, fun _ e => nomatch e⟩
  | ref p =>
    cases r
    rcases ty with ⟨rfl, xs, hq⟩ | ⟨rfl, o, hk, hc, hd⟩ | ⟨rfl, hk⟩ | ⟨rfl, S, n, hk⟩
    · obtain ⟨its, _, pl, _⟩ := I.list hq
      refine ⟨pl.isList.typeIs, fun a e => ?_⟩
      cases e
      obtain ⟨o, n, e, c, hd, _⟩ := pl
      exact ⟨o, e, hd⟩
    · refine ⟨⟨o, I.kIn p o hk, hc⟩, fun a e => ?_⟩
      cases e
      exact ⟨o, I.kIn _ o hk, hd⟩
    · have z : ∃ o, s.heap.get? p = some o ∧ o.ExactDict := by
        rcases hk with ⟨kvs, hk⟩ | ⟨kvs, hk⟩
        · obtain ⟨_, _, _, _, o, _, _, e, ex, _⟩ := I.hok p _ hk
          exact ⟨o, e, ex⟩
        · obtain ⟨_, _, _, _, o, _, _, e, ex, _⟩ := I.hok p _ hk
          exact ⟨o, e, ex⟩
      obtain ⟨o, e, ex⟩ := z
      refine ⟨⟨o, e, ex.1⟩, fun a e2 => ?_⟩
      cases e2
      exact ⟨o, e, ex.2.1⟩
    · obtain ⟨o, _, _, _, e, ex, _⟩ := I.hok p _ hk
      refine ⟨⟨o, e, ex.1⟩, fun a e2 => ?_⟩
      cases e2
      exact ⟨o, e, ex.2.1⟩
  | _ => exact False.elim ty
def tBM0 (K : PySem.W.Frag) (T : String) (r : V → List V → Hp → VK → Prop) (to : TE) : TE := fun σ H Q => to σ H fun x H1 => tyV K T x H1 ∧ r x [] H1 Q
def tBM (K : PySem.W.Frag) (T : String) (r : V → List V → Hp → VK → Prop) (to : TE) (t : TA) : TE := fun σ H Q => to σ H fun x H1 => tyV K T x H1 ∧ t σ H1 fun xs H2 => r x xs H2 Q
variable {o e : Expr} {es : List Expr} {to : TE} {t : TA} {name : Str} {apos cpos : Pos} {T id : String} {r : V → List V → Hp → VK → Prop}
theorem pe_bm0 (pa : PlainAttrs T) (slot : Slot T name id) (hty : typeOf (.builtin id) = pure (.type "method_descriptor")) (hm : MtR X id r) (ho : PE X o to)
    (hbase : attributeBase o name X.env (eval o X.env) = eval o X.env := by rfl) (hline : (apos.endLine == cpos.line) = true := by rfl) : PE X (.Call (.Attribute o name apos) [] [] cpos) (tBM0 X.K T r to) := by
  intro pins s σ H Q I h
  refine wpAny_Call_method0_late hbase hline (thn (ho pins s σ H _ I h) fun v s1 ⟨x, H1, I1, r1, ty, q1⟩ => ?_)
  obtain ⟨h1, h2⟩ := tyV_is I1 r1 ty
  exact ⟨T, id, pa, slot, hty, h1, h2, Calls.callWith_builtin rfl (PySem.evalArgs_none (hm pins s1 σ H1 x [] v [] Q I1 r1 .nil q1))⟩
theorem pe_bm (pa : PlainAttrs T) (slot : Slot T name id) (hty : typeOf (.builtin id) = pure (.type "method_descriptor")) (hm : MtR X id r) (ho : PE X o to) (ha : PA X (e :: es) t)
    (hbase : attributeBase o name X.env (eval o X.env) = eval o X.env := by rfl)
    (hfew : ((backTo cpos (starEach (e :: es) X.env)).all (fun x => !x.1) && (backToKw cpos (keywordEach [] X.env)).all (fun x => x.1.isSome)
      && decide ((e :: es).length + ([] : List Keyword).length + (if ([] : List Keyword).isEmpty then 0 else 1) < 30)) = true := by rfl)
    (hline : (apos.endLine == cpos.line) = true := by rfl) (hs : starEach (e :: es) X.env = (false, eval e X.env) :: starEach es X.env := by rfl) (hplain : (backTo cpos (starEach es X.env)).any (·.1) = false := by rfl) :
    PE X (.Call (.Attribute o name apos) (e :: es) [] cpos) (tBM X.K T r to t) := by
  intro pins s σ H Q I h
  refine wpAny_Call_method_late hbase hfew hline rfl (thn (ho pins s σ H _ I h) fun v s1 ⟨x, H1, I1, r1, ty, q1⟩ => ?_)
  obtain ⟨h1, h2⟩ := tyV_is I1 r1 ty
  refine ⟨T, id, pa, slot, hty, h1, h2, ?_⟩
  have hA := ha cpos pins s1 σ H1 _ I1 q1
  rw [hs] at hA ⊢
  refine Calls.callWith_builtin (by show (false || (backTo cpos (starEach es X.env)).any (·.1)) = false; rw [hplain] <;> rfl) (Calls.evalArgs_plain ?_)
  exact thn hA fun us s2 ⟨vs, H2, I2, r2, q2⟩ => hm pins s2 σ H2 x vs v us Q I2 r1 r2 q2
end
end L2
namespace L2
open PySem PySem.Spec PyProof.Rows
def MtM (X : Cx) (id : String) (r : V → List V → Hp → VK → Prop) : Prop :=
  ∀ (pins : List (Addr × Obj)) (s : Shared) (σ : St) (H : Hp) (x : V) (xs : List V) (v : Value) (us : List Value) (Q : VK), Inv X pins σ H s → RelV x v → Vals xs us → r x xs H Q →
    wpAny (model X.prog X.w) X.A (call (.builtin id) (v :: us)) (EP X pins σ Q) X.xe s
theorem Vals.one : ∀ {x : V} {us : List Value}, Vals [x] us → ∃ u, us = [u] ∧ RelV x u
  | _, _, .cons r .nil => ⟨_, rfl, r⟩
theorem Vals.zero : ∀ {us : List Value}, Vals [] us → us = []
  | _, .nil => rfl
theorem Vals.dropLast {xs : List V} {us : List Value} (h : Vals xs us) : Vals xs.dropLast us.dropLast := by
  induction h with
  | nil => exact .nil
  | cons r t ih =>
    cases t with
    | nil => exact .nil
    | cons q t' => exact .cons r ih
theorem Vals.eraseIdx : ∀ {xs : List V} {us : List Value} (i : Nat), Vals xs us → Vals (xs.eraseIdx i) (us.eraseIdx i)
  | _, _, _, .nil => .nil
  | _, _, 0, .cons _ t => t
  | _, _, i + 1, .cons r t => .cons r (Vals.eraseIdx i t)
theorem Vals.reverse {xs : List V} {us : List Value} (h : Vals xs us) : Vals xs.reverse us.reverse := by
  induction h with
  | nil => exact .nil
  | cons r t ih => rw [List.reverse_cons, List.reverse_cons]; exact Vals.append ih (.cons r .nil)
theorem Vals.rep {xs : List V} {us : List Value} (h : Vals xs us) : ∀ k : Nat, Vals (List.replicate k xs).flatten (List.replicate k us).flatten
  | 0 => .nil
  | k + 1 => by
    rw [List.replicate_succ, List.replicate_succ, List.flatten_cons, List.flatten_cons]
    exact Vals.append h (Vals.rep h k)
theorem erase_last {α : Type} (l : List α) : l.eraseIdx (l.length - 1) = l.dropLast := by
  induction l with
  | nil => rfl
  | cons a r ih =>
    cases r with
    | nil => rfl
    | cons b r =>
      have e : (a :: b :: r).length - 1 = ((b :: r).length - 1) + 1 := by
        have h1 : (a :: b :: r).length = r.length + 2 := rfl
        have h2 : (b :: r).length = r.length + 1 := rfl
        omega
      rw [e, List.eraseIdx_cons_succ, ih]
      all_goals rfl
theorem foldl_rep (its : List Value) : ∀ (k : Nat) (acc : List Value),
    List.foldl (fun x1 x2 => x1 ++ x2) acc.toArray (List.replicate k its.toArray) = (acc ++ (List.replicate k its).flatten).toArray
  | 0, acc => by simp
  | k + 1, acc => by
    have e : acc.toArray ++ its.toArray = (acc ++ its).toArray := by simp
    have e2 : (acc ++ its) ++ (List.replicate k its).flatten = acc ++ (List.replicate (k + 1) its).flatten := by
      rw [List.replicate_succ, List.flatten_cons, List.append_assoc]
    rw [← e2, ← foldl_rep its k (acc ++ its), ← e, List.replicate_succ, List.foldl_cons]
section
variable {X : Cx} {pins : List (Addr × Obj)} {σ : St} {H : Hp} {s : Shared} {l b : Addr} {xs ys zs : List V}
theorem Inv.lset {its its' : List Value} {n : Nat} {f : Array Value → Array Value} {t' : Nat} (I : Inv X pins σ H s) (hH : H l = some (.lst xs))
    (e : s.heap.get? l = some { cls := .type "list", data := .seq its.toArray n }) (hf : f its.toArray = its'.toArray) (hv : Vals ys its') (hz : ys.length ≤ sizeLine) :
    Inv X pins σ (upd H l (.lst ys)) { s with heap := s.heap.update l (Obj.mapSeq f), toks := t' } := by
  have q := PySem.IsL.update e f
  rw [hf] at q
  refine I.write (x := l) (e := l) (by rw [hH]; exact trivial) (.inl rfl) (fun b' u hb hu => (Heap.get?_update_other s.heap (Obj.mapSeq f) (Ne.symm hb)).trans hu) ⟨_, q⟩ ?_
  exact ⟨hz, its', _, hv, q⟩
theorem Inv.lnew {its : List Value} {t' : Nat} (I : Inv X pins σ H s) (hv : Vals ys its) (hz : ys.length ≤ sizeLine) :
    Inv X pins σ (upd H s.heap.objs.size (.lst ys)) { s with heap := s.heap.push { cls := .type "list", data := .seq its.toArray }, toks := t' } :=
  I.laid (fun _ _ q => Heap.get?_push_of_some _ q) (Nat.le_refl _) ⟨hz, its, 0, hv, Heap.get?_push_size _ rfl⟩
theorem Inv.fresh (I : Inv X pins σ H s) : H s.heap.objs.size = none := I.hok.fresh (Nat.le_refl _)
theorem Inv.lstM (I : Inv X pins σ H s) (hH : H l = some (.lst xs)) : xs.length ≤ sizeLine ∧ ∃ (its : List Value) (n : Nat), Vals xs its ∧ xs.length = its.length ∧ s.heap.get? l = some { cls := .type "list", data := .seq its.toArray n } := by
  obtain ⟨z, its, n, r, e⟩ := I.hok l _ hH
  exact ⟨z, its, n, r, r.length, e⟩
theorem notLongL {n : Nat} (h : n ≤ sizeLine) : Builtin.List.listTooLong n = false := by
  unfold Builtin.List.listTooLong
  exact decide_eq_false (by omega)
end
section
variable {X : Cx}
def rAppend : V → List V → Hp → VK → Prop := fun x vs H Q => ∃ l xs y, x = .ref l ∧ vs = [y] ∧ H l = some (.lst xs) ∧ xs.length < sizeLine ∧ Q .non (upd H l (.lst (xs ++ [y])))
theorem mt_append : MtM X "list.append" rAppend := by
  intro pins s σ H x vs v us Q I rx rv h
  obtain ⟨l, xs, y, rfl, rfl, hH, hz, q⟩ := h
  cases rx
  obtain ⟨u, rfl, ru⟩ := rv.one
  obtain ⟨z, its, n, r, hl, e⟩ := I.lstM hH
  refine call_meets F.slot_list_append ⟨_, e, rfl⟩ F.entry_list_append (F.args_list_append_2 _ _) (PySem.list_append l its.toArray n u (by rw [List.size_toArray]; omega)) ⟨e, ?_⟩
  refine ⟨.non, _, I.lset (its' := its ++ [u]) hH e (by simp) (r.append (.cons ru .nil)) ?_, rfl, q⟩
  rw [List.length_append, List.length_singleton]
  omega
def rExtend : V → List V → Hp → VK → Prop := fun x vs H Q => ∃ l b xs zs, x = .ref l ∧ vs = [.ref b] ∧ H l = some (.lst xs) ∧ H b = some (.lst zs) ∧ xs.length + zs.length ≤ sizeLine ∧ Q .non (upd H l (.lst (xs ++ zs)))
theorem mt_extend : MtM X "list.extend" rExtend := by
  intro pins s σ H x vs v us Q I rx rv h
  obtain ⟨l, b, xs, zs, rfl, rfl, hH, hB, hz, q⟩ := h
  cases rx
  obtain ⟨u, rfl, ru⟩ := rv.one
  cases ru
  obtain ⟨z, its, n, r, hl, e⟩ := I.lstM hH
  obtain ⟨z2, its2, n2, r2, hl2, e2⟩ := I.lstM hB
  have hsz : its.toArray.size + its2.toArray.size ≤ sizeLine := by rw [List.size_toArray, List.size_toArray]; omega
  have hlong : ¬ (!its.toArray.isEmpty && Builtin.List.listTooLong (its.toArray.size + its2.toArray.size)) = true := by
    rw [notLongL hsz, Bool.and_false]
    exact Bool.false_ne_true
  refine call_meets F.slot_list_extend ⟨_, e, rfl⟩ F.entry_list_extend (F.args_list_extend_2 _ _)
    (AutoSeq1.list_extend_list_list_0 l its.toArray n b its2.toArray n2 hlong (by rw [List.size_toArray]; omega) (by omega)) ⟨e, e2, ?_⟩
  refine ⟨.non, _, I.lset (its' := its ++ its2) hH e (by simp) (r.append r2) ?_, rfl, q⟩
  rw [List.length_append]
  omega
def rPop : V → List V → Hp → VK → Prop := fun x vs H Q => ∃ l xs y, x = .ref l ∧ vs = [] ∧ H l = some (.lst xs) ∧ xs[xs.length - 1]? = some y ∧ Q y (upd H l (.lst xs.dropLast))
theorem mt_pop : MtM X "list.pop" rPop := by
  intro pins s σ H x vs v us Q I rx rv h
  obtain ⟨l, xs, y, rfl, rfl, hH, hy, q⟩ := h
  cases rx
  have hus := rv.zero
  subst hus
  obtain ⟨z, its, n, r, hl, e⟩ := I.lstM hH
  obtain ⟨u, hu, ru⟩ := r.get hy
  have hy' : its.toArray[its.toArray.size - 1]? = some u := by
    show its.toArray[its.length - 1]? = some u
    rw [← Array.getElem?_toList, ← hl]
    exact hu
  refine call_meets F.slot_list_pop ⟨_, e, rfl⟩ F.entry_list_pop (F.args_list_pop_1 _) (MeetsSeq.list_pop_last l its.toArray n u hy' (by rw [List.size_toArray]; omega)) ⟨e, ?_⟩
  refine ⟨y, _, I.lset (its' := its.dropLast) hH e ?_ r.dropLast ?_, ru, q⟩
  · show its.toArray.eraseIdxIfInBounds (its.toArray.size - 1) = its.dropLast.toArray
    rw [List.size_toArray, List.eraseIdxIfInBounds_toArray, erase_last]
  · rw [List.length_dropLast]
    omega
def rCat : R2 := fun x y H Q => ∃ l b xs zs, x = .ref l ∧ y = .ref b ∧ H l = some (.lst xs) ∧ H b = some (.lst zs) ∧ xs.length + zs.length ≤ sizeLine ∧ ∀ p, H p = none → Q (.ref p) (upd H p (.lst (xs ++ zs)))
theorem op_cat : OpR X (binaryOp .Add) rCat := by
  intro pins s σ H x y v u Q I rx ry h
  obtain ⟨l, b, xs, zs, rfl, rfl, hH, hB, hz, q⟩ := h
  cases rx
  cases ry
  obtain ⟨z, its, n, r, hl, e⟩ := I.lstM hH
  obtain ⟨z2, its2, n2, r2, hl2, e2⟩ := I.lstM hB
  refine PySem.P.add_list e e2 ?_ (by rw [List.size_toArray, List.size_toArray]; omega)
  have ea : its.toArray ++ its2.toArray = (its ++ its2).toArray := by simp
  rw [ea]
  exact ⟨.ref _, _, I.lnew (t' := s.toks) (r.append r2) (by rw [List.length_append]; omega), rfl, q _ I.fresh⟩
def rRep : R2 := fun x y H Q => ∃ l k xs, x = .ref l ∧ y = .int k ∧ H l = some (.lst xs) ∧ -(2 ^ 63) ≤ k ∧ k < 2 ^ 63 ∧ xs.length * k.toNat ≤ sizeLine ∧
  ∀ p, H p = none → Q (.ref p) (upd H p (.lst (List.replicate k.toNat xs).flatten))
theorem len_rep {α : Type} (xs : List α) (k : Nat) : (List.replicate k xs).flatten.length = k * xs.length := by
  induction k with
  | zero => simp
  | succ k ih => rw [List.replicate_succ, List.flatten_cons, List.length_append, ih, Nat.succ_mul, Nat.add_comm]
theorem op_rep : OpR X (binaryOp .Mult) rRep := by
  intro pins s σ H x y v u Q I rx ry h
  obtain ⟨l, k, xs, rfl, rfl, hH, h1, h2, hz, q⟩ := h
  cases rx
  obtain ⟨t, rfl⟩ := ry
  obtain ⟨z, its, n, r, hl, e⟩ := I.lstM hH
  have hlen : its.toArray.size * k.toNat ≤ sizeLine := by rw [List.size_toArray, ← hl]; exact hz
  have hcap : ¬ its.toArray.size * k.toNat > (2 ^ 63 - 1) / 8 := by
    have : (sizeLine : Nat) ≤ (2 ^ 63 - 1) / 8 := by decide
    omega
  have hfit : ¬ (!Builtin.List.listFitsIndex k) = true := by
    rw [fitsIndex_both h1 h2]
    exact Bool.false_ne_true
  have hlong : ¬ Builtin.List.listTooLong (its.toArray.size * k.toNat) = true := by
    rw [notLongL hlen]
    exact Bool.false_ne_true
  have hnew : List.foldl (fun x1 x2 => x1 ++ x2) #[] (List.replicate (if its.toArray.isEmpty = true then 0 else k.toNat) its.toArray) = (List.replicate k.toNat its).flatten.toArray := by
    have f0 : ∀ m : Nat, List.foldl (fun x1 x2 => x1 ++ x2) #[] (List.replicate m its.toArray) = (List.replicate m its).flatten.toArray := fun m => by
      have := foldl_rep its m []
      rw [List.nil_append] at this
      exact this
    rw [f0]
    cases its with
    | nil => simp
    | cons a r' => rw [if_neg (by simp)]
  refine wpAny_binaryOp_repeat_ref (T := "list") (U := "int") (by decide) ⟨_, e, rfl⟩ (fun s' => typeIs_int s' k t) noFill_list_mul F.fills_int_mul F.slot_int_rmul repeat_list F.slot_int_index.lookup
    (call_meets F.slot_int_rmul (typeIs_int s k t) F.entry_int_rmul (F.args_int_rmul_2 _ _) (int___rmul___int_list k t l its.toArray n)
      ⟨e, rfl, ⟨_, e, rfl⟩, call_meets F.slot_list_mul ⟨_, e, rfl⟩ F.entry_list_mul (F.args_list_mul_2 _ _) (AutoListH.list___mul___list_int_3 l its.toArray n k t hfit hcap hlong) ⟨e, ?_⟩⟩)
  rw [hnew]
  exact ⟨.ref _, _, I.lnew (t' := s.toks) (r.rep k.toNat) (by rw [len_rep, Nat.mul_comm]; exact hz), rfl, q _ I.fresh⟩
end
section
variable {prog : Program} {w : World} {A : Around} {E : Value → Shared → Prop} {s : Shared}
end
section
variable {X : Cx}
end
end L2
namespace Att
open PySem PySem.W PySem.Calls PyProof.Rows
theorem ints_of_wellAll {P : Params} {h : Heap} : ∀ (ns : List Int) (vs : List Value), WellAll P h vs (ns.map WData.int) → IntsAre vs ns := by
  intro ns
  induction ns with
  | nil =>
    intro vs w
    rw [List.map_nil] at w
    cases w
    exact .nil
  | cons n ns ih =>
    intro vs w
    rw [List.map_cons] at w
    cases w with
    | cons a b =>
      cases a
      exact .cons _ _ (ih _ b)
theorem script_of {l : OpenLaw} {n : Nat} (hn : l.most = some n) {P : Params} {h : Heap} {args : List WData} {vals : List Value}
    (hpre : l.row.toRowW.claim.pre args = true) (hwl : WellAll P h vals args) :
    ∃ a vs ns, vals = [Value.ref a] ∧ args = [WData.list (ns.map WData.int)] ∧ h.get? a = some { cls := .type "list", data := .seq vs.toArray } ∧ IntsAre vs ns ∧ ns.length ≤ n := by
  have hsh : WShape.hasAll [] args [.list .int] = true := (pre_splitW hpre).1
  have hc : l.pre.holds [] { args := args } = true := (pre_splitW hpre).2
  obtain ⟨d, r, rfl, h1, h2⟩ := hasAllW_cons hsh
  obtain rfl := hasAllW_nil h2
  obtain ⟨xs, rfl, h3⟩ := hasW_list h1
  obtain ⟨ns, rfl⟩ := items_int h3
  have hlen : ns.length ≤ n := by
    unfold OpenLaw.pre at hc
    have h4 : (WTm.not (.lt (.lit (.int (n : Int))) (.len (.arg 0)))).holds [] { args := [.list (ns.map .int)] } = true := by
      have h4 := (holds_andW hc).1
      rw [hn] at h4
      exact h4
    have h5 := condW_of h4 (w_not (w_lt w_lit (w_len_list (w_arg rfl))))
    rw [List.length_map] at h5
    refine Nat.le_of_not_lt fun q => ?_
    have q' : (n : Int) < ((ns.length : Nat) : Int) := by omega
    first
      | (rw [decide_eq_true q'] at h5; exact absurd h5 (by decide))
      | (simp at h5; omega)
  cases hwl with
  | cons w1 w2 =>
    cases w2
    cases w1 with
    | list ho hall => exact ⟨_, _, ns, rfl, rfl, ho, ints_of_wellAll ns _ hall, hlen⟩
theorem post_true (l : OpenLaw) (args : List WData) : l.row.toRowW.claim.post args (.bool true) args = true :=
  postW_of (r := l.row.toRowW) (X := (true == true))
    (show WShape.has [] (.bool true) .bool = true by first | rfl | decide | simp [WShape.has, WShape.arms, WShape.armsAll])
    (show (WTm.eq .res (.lit (.bool true))).value [] { args := args, res := some (.bool true), after := args } = some (.bool (true == true)) from w_eq_bool (w_res rfl) w_lit) rfl
theorem attach_call {l : OpenLaw} {n : Nat} {q : Program} {loose : List Str} {XP : (Str → Option Value) → Heap → Prop} {YP : World → Heap → Prop} {d : DefRec}
    (hn : l.most = some n) (hdf : d.params.defaults = [])
    (call : ∀ (w : World) (s₀ s₁ : Shared) (mg mb : Str → Option Value) (fa : Addr) (o : Obj) (pm cd doc : Value) (a : Addr) (vs : List Value) (ns : List Int),
      Ground q loose [] XP w s₀ mg mb s₁.heap → YP w s₁.heap →
      s₁.heap.get? fa = some o → o.data = .func (docDef d.name d.params d.body d.scope pm cd doc) → s₁.heap.CodeRec cd d.name → mg d.name = some (.ref fa) →
      s₁.heap.get? a = some { cls := .type "list", data := .seq vs.toArray } → IntsAre vs ns → ns.length ≤ n → s₁.gens = #[] →
      codeAny (model l.prog w) callerA (.call (.ref fa) ⟨[.ref a], []⟩) (fun r s' => r = .ok (.ret (.bool true)) ∧ OldK s₁.heap s'.heap ∧ s'.os = s₁.os ∧ AllBare s'.gens) s₁) :
    WalkO q loose XP YP l.row.toRowW d [] (fun f vs => PySem.call f vs) := by
  intro w s₀ s₁ mg mb G Y fa o pm cd doc dV kV ho hd hcd hD hmg hg args vals as hpre hlay hrd hwl hlo
  obtain rfl : dV = .none := Dflts.none hD hdf
  obtain rfl : kV = .none := Dflts.noKw hD
  obtain ⟨a, vs, ns, rfl, rfl, hobj, hints, hlen⟩ := script_of hn hpre hwl
  refine enter_call (codeAny_mono (call w s₀ s₁ mg mb fa o pm cd doc a vs ns G Y ho (fd_plain hd) hcd hmg hobj hints hlen hg) fun r s' hq => ?_)
  obtain ⟨rfl, h2, h3, h4⟩ := hq
  exact ⟨.inl ⟨.bool true, .bool true, [], rfl, fun _ => rfl, .bool true, post_true l _, fun _ => ⟨List.Pairwise.nil, fun _ hm => (nomatch hm)⟩⟩, h2, h3, h4⟩
section
variable {prog : Program} {w : World} {A : Around} {E : Value → Shared → Prop} {s : Shared} {K : Frag}
end
end Att
namespace L2
open PySem PySem.Spec PyProof.Rows
theorem vals_ints : ∀ {vs : List Value} {ns : List Int}, IntsAre vs ns → Vals (ns.map V.int) vs
  | _, _, .nil => .nil
  | _, _, .cons n t h => .cons ⟨t, rfl⟩ (vals_ints h)
end L2
namespace L2
open PySem PySem.Spec PyProof.Rows
end L2
namespace L2
open PySem PySem.Spec PyProof.Rows
def defArgs (s : Stmt) : Arguments := match s with
  | .FunctionDef _ a _ _ _ _ _ _ _ _ => a
  | _ => { posonlyargs := [], args := [], vararg := none, kwonlyargs := [], kw_defaults := [], kwarg := none, defaults := [] }
def defBody (s : Stmt) : List Stmt := match s with
  | .FunctionDef _ _ b _ _ _ _ _ _ _ => b
  | _ => []
def defScope (s : Stmt) : Scope := match s with
  | .FunctionDef _ _ _ _ _ _ sc _ _ _ => sc
  | _ => { kind := .function, names := [], isGenerator := false, isCoroutine := false }
abbrev CX0 : CXT := fun _ _ _ _ _ _ => False
abbrev E0 : XK := fun _ _ _ => False
theorem pass0 {X : Cx} : Passes CX0 X E0 := fun _ _ _ _ _ _ _ h => h.elim
structure Fun (K : PySem.W.Frag) (x qual : Str) (st : Stmt) (f : Addr) (fd : FuncData) : Prop where
  ex : ∃ (oc : Value) (od : Option Addr) (kV doc pm : Value) (an : Option Addr) (cdv ct : Value) (osl : Array (Option Value)),
    fd = PySem.W.fnOf x qual (defArgs st) (defBody st) (defScope st) .none kV doc pm an cdv ct ∧ K.lookup f = some ⟨oc, od, .func fd, osl⟩ ∧ PySem.W.codeIn K cdv qual = true
  kp : PySem.W.keepIn K (.ref f) = true
section
variable {P : Program} {w : World} {K : PySem.W.Frag} {mg : Str → Option Value} {base : Heap}
theorem Fun.ok {x qual : Str} {st : Stmt} {f : Addr} {fd : FuncData} {N ps : List Str} {k : Nat} {sp : Sp} (F : Fun K x qual st f fd) (S : FnScope N ps (defScope st)) (len : ∀ vs H Q E, sp vs H Q E → vs.length = ps.length)
    (hbody : ∀ (cdv : Value) (A : Around) (outer : List Env) (s : Shared) (H : Hp) (vs : List V) (Q : VK) (E : XK), Room k (A.deeper (envOfC qual (defScope st) s.heap.objs.size f cdv)) → sp vs H Q E →
      ∃ t, PSs (cxOf CX0 P w K mg base N qual (defScope st) f cdv A outer s H E).nox (defBody st) t ∧ t { nx := fun _ H' => Q .non H', rt := Q } (start N vs) H) : FnOk P w K mg base CX0 (k + 1) f fd ps sp := by
  obtain ⟨oc, od, kV, doc, pm, an, cdv, ct, osl, rfl, lk, hcd⟩ := F.ex
  refine fn_of lk hcd S len fun A outer s H vs Q E hr hsp => ?_
  obtain ⟨t, h, q⟩ := hbody cdv A outer s H vs Q E hr hsp
  exact ⟨t, h.nox, q⟩
theorem Fun.binds {x qual : Str} {st : Stmt} {f : Addr} {fd : FuncData} {ps : List Str} (F : Fun K x qual st f fd)
    (h : ∀ (kV doc pm : Value) (an : Option Addr) (cdv ct : Value) (us : List Value), us.length = ps.length → bindArgs (PySem.W.fnOf x qual (defArgs st) (defBody st) (defScope st) .none kV doc pm an cdv ct) ⟨us, []⟩ = pure (ps.zip us)) : Binds K fd ps [] := by
  obtain ⟨oc, od, kV, doc, pm, an, cdv, ct, osl, rfl, lk, hcd⟩ := F.ex
  exact .all (h kV doc pm an cdv ct)
theorem fun_mk {x qual : Str} {st : Stmt} {f : Addr} {oc : Value} {od an : Option Addr} {osl : Array (Option Value)} {kV doc pm cdv ct : Value} (l : K.lookup f = some ⟨oc, od, .func (PySem.W.fnOf x qual (defArgs st) (defBody st) (defScope st) .none kV doc pm an cdv ct), osl⟩)
    (c : PySem.W.codeIn K cdv qual = true) (k : PySem.W.keepIn K (.ref f) = true) : Fun K x qual st f (PySem.W.fnOf x qual (defArgs st) (defBody st) (defScope st) .none kV doc pm an cdv ct) := ⟨⟨oc, od, kV, doc, pm, an, cdv, ct, osl, rfl, l, c⟩, k⟩
end
theorem hu_of {A : Around} {k : Nat} (hr : Room k A) : A.units + 1 < cLine := Nat.lt_of_le_of_lt (Nat.add_le_add_left (by decide : 1 ≤ 64) _) hr.units
theorem small1000 {n : Nat} (h : n ≤ 1000) : n < sizeLine := Nat.lt_of_le_of_lt h (by decide)
section
variable {X : Cx}
theorem pv (i : Nat) {x : Str} {pos : Pos} (hN : X.N[i]? = some x := by rfl) (hv : Vis X.env.scope x := by first | exact Or.inl rfl | exact Or.inr (Or.inl rfl) | exact Or.inr (Or.inr rfl)) (hd : (x == ("__debug__" : Str)) = false := by decide)
    (hcd : (x == ("__classdict__" : Str)) = false := by decide) : PE X (.Name x pos) (tVar i) := pe_var hN hv hd hcd
end
theorem ite2 {c A B : Prop} [Decidable c] (h1 : c → A) (h2 : ¬ c → B) : if c then A else B := by
  by_cases h : c
  · rw [if_pos h]
    exact h1 h
  · rw [if_neg h]
    exact h2 h
def Same (H H' : Hp) : Prop := ∀ b o, H b = some o → H' b = some o
theorem Same.refl (H : Hp) : Same H H := fun _ _ h => h
theorem Same.trans {H H1 H2 : Hp} (a : Same H H1) (b : Same H1 H2) : Same H H2 := fun c o h => b c o (a c o h)
theorem Same.free {H H' : Hp} (e : Same H H') {l : Addr} (h : H' l = Option.none) : H l = Option.none := by
  cases q : H l with
  | none => rfl
  | some o =>
    rw [e l o q] at h
    cases h
theorem Same.seq {K : PySem.W.Frag} {H H' : Hp} {a : Addr} {xs : List V} (e : Same H H') (h : SqL K H a xs) : SqL K H' a xs := by
  rcases h with (h | ⟨o, h⟩) | h
  · exact .inl (.inl (e _ _ h))
  · exact .inl (.inr ⟨o, e _ _ h⟩)
  · exact .inr h
end L2
set_option Elab.async false
set_option linter.all false
set_option maxRecDepth 100000
namespace L2
open PySem PySem.Spec PyProof.Rows
section
variable {κ : Type} [DecidableEq κ]
def valV (kvs : List (κ × V)) (k : κ) : Option V := (kvs.find? fun kv => decide (kv.1 = k)).map (·.2)
def putK (kvs : List (κ × V)) (k : κ) (v : V) : List (κ × V) :=
  if (kvs.any fun kv => decide (kv.1 = k)) = true then kvs.map (fun kv => if kv.1 = k then (kv.1, v) else kv) else kvs ++ [(k, v)]
def dropK (kvs : List (κ × V)) (k : κ) : List (κ × V) := kvs.filter fun kv => decide (kv.1 ≠ k)
theorem valV_pos {p : κ × V} {r : List (κ × V)} {k : κ} (e : p.1 = k) : valV (p :: r) k = some p.2 := by simp [valV, List.find?_cons, e]
theorem valV_neg {p : κ × V} {r : List (κ × V)} {k : κ} (e : ¬ p.1 = k) : valV (p :: r) k = valV r k := by simp [valV, List.find?_cons, e]
theorem valV_any (k : κ) : ∀ kvs : List (κ × V), (kvs.any fun kv => decide (kv.1 = k)) = (valV kvs k).isSome
  | [] => rfl
  | p :: r => by
    rw [List.any_cons]
    by_cases e : p.1 = k
    · simp only [valV_pos e, decide_eq_true e, Bool.true_or, Option.isSome_some]
    · rw [valV_neg e, decide_eq_false e, Bool.false_or]; exact valV_any k r
theorem valV_map (k j : κ) (y : V) : ∀ kvs : List (κ × V), valV (kvs.map fun kv => if kv.1 = k then (kv.1, y) else kv) j = (valV kvs j).map fun x => if j = k then y else x
  | [] => rfl
  | p :: r => by
    have ih := valV_map k j y r
    rw [List.map_cons]
    by_cases h : p.1 = k
    · rw [if_pos h]
      by_cases e : p.1 = j
      · rw [valV_pos (p := (p.1, y)) e, valV_pos e, Option.map_some, if_pos (e.symm.trans h)]
      · rw [valV_neg (p := (p.1, y)) e, valV_neg e, ih]
    · rw [if_neg h]
      by_cases e : p.1 = j
      · rw [valV_pos (p := p) e, valV_pos e, Option.map_some, if_neg (fun z => h (e.trans z))]
      · rw [valV_neg (p := p) e, valV_neg e, ih]
theorem valV_snoc (k j : κ) (y : V) : ∀ kvs : List (κ × V), valV kvs k = none → valV (kvs ++ [(k, y)]) j = if j = k then some y else valV kvs j
  | [], _ => by
    by_cases e : k = j
    · rw [if_pos e.symm]; exact valV_pos (p := (k, y)) e
    · rw [if_neg (fun z => e z.symm)]; exact valV_neg (p := (k, y)) e
  | p :: r, hn => by
    rw [List.cons_append]
    have hk : ¬ p.1 = k := fun z => by rw [valV_pos z] at hn; cases hn
    rw [valV_neg hk] at hn
    have ih := valV_snoc k j y r hn
    by_cases e : p.1 = j
    · rw [valV_pos e, valV_pos e, if_neg (fun z => hk (e.trans z))]
    · rw [valV_neg e, valV_neg e, ih]
theorem valV_put (kvs : List (κ × V)) (k j : κ) (y : V) : valV (putK kvs k y) j = if j = k then some y else valV kvs j := by
  unfold putK
  by_cases a : (kvs.any fun kv => decide (kv.1 = k)) = true
  · rw [if_pos a, valV_map]
    rw [valV_any] at a
    by_cases e : j = k
    · obtain ⟨x, hx⟩ := Option.isSome_iff_exists.mp a
      rw [if_pos e, e, hx, Option.map_some, if_pos rfl]
    · rw [if_neg e]
      cases valV kvs j with
      | none => rfl
      | some x => rw [Option.map_some, if_neg e]
  · rw [if_neg a]
    refine valV_snoc k j y kvs ?_
    rw [valV_any] at a
    cases q : valV kvs k with
    | none => rfl
    | some x => rw [q] at a; exact (a rfl).elim
theorem length_putK (kvs : List (κ × V)) (k : κ) (v : V) : (putK kvs k v).length ≤ kvs.length + 1 := by
  unfold putK
  split
  · rw [List.length_map]; omega
  · rw [List.length_append, List.length_cons, List.length_nil]; omega
theorem putK_new {kvs : List (κ × V)} {k : κ} (v : V) (h : valV kvs k = none) : putK kvs k v = kvs ++ [(k, v)] := by
  unfold putK
  rw [valV_any, h]
  exact if_neg (by decide)
theorem RelO.isSome_eq {o : Option V} {u : Option Value} (r : RelO o u) : o.isSome = u.isSome := by
  cases o with
  | none => cases u with
    | none => rfl
    | some _ => exact (show False from r).elim
  | some _ => cases u with
    | none => exact (show False from r).elim
    | some _ => rfl
theorem RelO.getD {o : Option V} {u : Option Value} {d : V} {d' : Value} (r : RelO o u) (rd : RelV d d') : RelV (o.getD d) (u.getD d') := by
  cases o with
  | none => cases u with
    | none => exact rd
    | some _ => exact (show False from r).elim
  | some _ => cases u with
    | none => exact (show False from r).elim
    | some _ => exact r
theorem KV.val {kvs : List (κ × V)} {vs : List (κ × Value)} (r : KV kvs vs) (k : κ) : RelO (valV kvs k) (valueAt vs k) := by
  unfold KV at r
  induction r with
  | nil => exact True.intro
  | @cons p q ps qs h t ih =>
    obtain ⟨h1, h2⟩ := h
    by_cases e : p.1 = k
    · have e' : q.1 = k := h1.symm.trans e
      have b : valueAt (q :: qs) k = some q.2 := by simp [valueAt, List.find?_cons, e']
      rw [valV_pos e, b]; exact h2
    · have e' : ¬ q.1 = k := fun z => e (h1.trans z)
      have b : valueAt (q :: qs) k = valueAt qs k := by simp [valueAt, List.find?_cons, e']
      rw [valV_neg e, b]; exact ih
theorem KV.any {kvs : List (κ × V)} {vs : List (κ × Value)} (r : KV kvs vs) (k : κ) : (kvs.any fun kv => decide (kv.1 = k)) = vs.any fun kv => decide (kv.1 = k) := by
  unfold KV at r
  induction r with
  | nil => rfl
  | cons h t ih => rw [List.any_cons, List.any_cons, ih, h.1]
theorem KV.repl {kvs : List (κ × V)} {vs : List (κ × Value)} (r : KV kvs vs) (k : κ) {y : V} {u : Value} (ry : RelV y u) :
    KV (kvs.map fun kv => if kv.1 = k then (kv.1, y) else kv) (vs.map fun kv => if kv.1 = k then (kv.1, u) else kv) := by
  unfold KV at r ⊢
  induction r with
  | nil => exact .nil
  | @cons p q ps qs h t ih =>
    rw [List.map_cons, List.map_cons]
    refine .cons ?_ ih
    obtain ⟨h1, h2⟩ := h
    by_cases e : p.1 = k
    · rw [if_pos e, if_pos (h1.symm.trans e)]; exact ⟨h1, ry⟩
    · rw [if_neg e, if_neg (fun z => e (h1.trans z))]; exact ⟨h1, h2⟩
theorem KV.put {kvs : List (κ × V)} {vs : List (κ × Value)} (r : KV kvs vs) (k : κ) {y : V} {u : Value} (ry : RelV y u) : KV (putK kvs k y) (stored vs k u) := by
  unfold putK stored
  rw [r.any k]
  by_cases e : (vs.any fun kv => decide (kv.1 = k)) = true
  · rw [if_pos e, if_pos e]; exact r.repl k ry
  · rw [if_neg e, if_neg e]; exact Paired.snoc r ⟨rfl, ry⟩
theorem KV.drop {kvs : List (κ × V)} {vs : List (κ × Value)} (r : KV kvs vs) (k : κ) : KV (dropK kvs k) (without vs k) := by
  unfold KV at r ⊢
  unfold dropK without
  induction r with
  | nil => exact .nil
  | @cons p q ps qs h t ih =>
    obtain ⟨h1, h2⟩ := h
    rw [List.filter_cons, List.filter_cons]
    by_cases e : p.1 = k
    · have a : ¬ decide (p.1 ≠ k) = true := by simp [e]
      have b : ¬ decide (q.1 ≠ k) = true := by simp [h1.symm.trans e]
      rw [if_neg a, if_neg b]; exact ih
    · have e' : ¬ q.1 = k := fun z => e (h1.trans z)
      have a : decide (p.1 ≠ k) = true := by simp [e]
      have b : decide (q.1 ≠ k) = true := by simp [e']
      rw [if_pos a, if_pos b]; exact .cons ⟨h1, h2⟩ ih
theorem KV.keys {kvs : List (κ × V)} {vs : List (κ × Value)} (r : KV kvs vs) : kvs.map (·.1) = vs.map (·.1) := by
  unfold KV at r
  induction r with
  | nil => rfl
  | cons h t ih => rw [List.map_cons, List.map_cons, ih, h.1]
theorem KV.length {kvs : List (κ × V)} {vs : List (κ × Value)} (r : KV kvs vs) : kvs.length = vs.length := Paired.length r
end
theorem kV_is {P : Program} {w : World} {k : Key} {u : Value} (r : RelV (kV k) u) : (mixKind P w).is k u = true := by
  cases k with
  | inl i => obtain ⟨t, e⟩ := (show ∃ t, u = Value.int i t from r); subst e; exact mixKind_int P w i t
  | inr x => obtain ⟨t, e⟩ := (show ∃ t, u = Value.str x t from r); subst e; exact mixKind_str P w x t
theorem items_are {P : Program} {w : World} : ∀ {ks : List Key} {us : List Value}, Vals (ks.map kV) us → ItemsAre (mixKind P w) ks us
  | [], _, r => by rw [List.map_nil] at r; cases r; exact .nil
  | k :: ks, _, r => by
    rw [List.map_cons] at r
    cases r with
    | cons h t => exact .cons (kV_is h) (items_are t)
abbrev KT (H : Hp) : List (List Key × V) → List (List Key × Addr × Value) → Prop := Paired fun p q => p.1 = q.1 ∧ H q.2.1 = some (.tup (p.1.map kV)) ∧ RelV p.2 q.2.2
theorem KT.val {H : Hp} {kvs : List (List Key × V)} {xs : List (List Key × Addr × Value)} (r : KT H kvs xs) (k : List Key) : RelO (valV kvs k) ((atKey xs k).map (·.2)) := by
  induction r with
  | nil => exact True.intro
  | @cons p q ps qs h t ih =>
    obtain ⟨h1, _, h2⟩ := h
    by_cases e : p.1 = k
    · have e' : q.1 = k := h1.symm.trans e
      have b : atKey (q :: qs) k = some q.2 := by simp [atKey, List.find?_cons, e']
      rw [valV_pos e, b]; exact h2
    · have e' : ¬ q.1 = k := fun z => e (h1.trans z)
      have b : atKey (q :: qs) k = atKey qs k := by simp [atKey, List.find?_cons, e']
      rw [valV_neg e, b]; exact ih
theorem KT.repl {H : Hp} {kvs : List (List Key × V)} {xs : List (List Key × Addr × Value)} (r : KT H kvs xs) (k : List Key) {y : V} {u : Value} (ry : RelV y u) :
    KT H (kvs.map fun kv => if kv.1 = k then (kv.1, y) else kv) (xs.map (putAt k u)) := by
  induction r with
  | nil => exact .nil
  | @cons p q ps qs h t ih =>
    rw [List.map_cons, List.map_cons]
    refine .cons ?_ ih
    obtain ⟨h1, h2, h3⟩ := h
    unfold putAt
    by_cases e : p.1 = k
    · rw [if_pos e, if_pos (h1.symm.trans e)]; exact ⟨h1, h2, ry⟩
    · rw [if_neg e, if_neg (fun z => e (h1.trans z))]; exact ⟨h1, h2, h3⟩
theorem KT.put {H : Hp} {kvs : List (List Key × V)} {xs : List (List Key × Addr × Value)} (r : KT H kvs xs) (k : List Key) {b : Addr} {y : V} {u : Value} (hb : H b = some (.tup (k.map kV))) (ry : RelV y u) :
    KT H (putK kvs k y) (storedH xs k b u) := by
  have e : (kvs.any fun kv => decide (kv.1 = k)) = (atKey xs k).isSome := by
    rw [valV_any, (r.val k).isSome_eq, Option.isSome_map]
  unfold putK storedH
  rw [e]
  by_cases q : (atKey xs k).isSome = true
  · rw [if_pos q, if_pos q]; exact r.repl k ry
  · rw [if_neg q, if_neg q]; exact Paired.snoc r ⟨rfl, hb, ry⟩
theorem KT.keeps {H H' : Hp} {kvs : List (List Key × V)} {xs : List (List Key × Addr × Value)} (r : KT H kvs xs) (ht : ∀ b ys, H b = some (.tup ys) → H' b = some (.tup ys)) : KT H' kvs xs :=
  Paired.mapP r fun _ _ z => ⟨z.1, ht _ _ z.2.1, z.2.2⟩
section
variable {P : Program} {w : World} {H : Hp} {h : Heap} {a : Addr}
theorem rd_of {u : HO} (ok : HOk P w H h) (e : Rd H a u) : ObjOk P w H h a u := e.ok ok
theorem dk_rd {kvs : List (Key × V)} (ok : HOk P w H h) (e : Rd H a (.dK kvs)) : kvs.length ≤ sizeLine ∧ (a == sysModules) = false ∧ ∃ vs, KV kvs vs ∧ h.DictOf (mixKind P w) a vs :=
  show ObjOk P w H h a (.dK kvs) from rd_of ok e
theorem dk_of {kvs : List (Key × V)} (ok : HOk P w H h) (e : H a = some (.dK kvs)) : kvs.length ≤ sizeLine ∧ (a == sysModules) = false ∧ ∃ vs, KV kvs vs ∧ h.DictOf (mixKind P w) a vs := dk_rd ok (.inl e)
theorem key_of {ks : List Key} (ok : HOk P w H h) (e : H a = some (.tup (ks.map kV))) : (tupleKind (mixKind P w)).is h ks a := by
  obtain ⟨_, its, r, o, h1, h2, n, h3⟩ := (show ObjOk P w H h a (.tup (ks.map kV)) from ok a _ e)
  exact ⟨o, its.toArray, n, h1, h2, h3, by simpa using items_are r⟩
theorem dt_rd {kvs : List (List Key × V)} (ok : HOk P w H h) (e : Rd H a (.dT kvs)) : kvs.length ≤ sizeLine ∧ (a == sysModules) = false ∧
    ∃ xs, KT H kvs xs ∧ h.DictOfH (tupleKind (mixKind P w)) a xs := by
  obtain ⟨z, y, xs, r, o, es, ep, h1, h2, h3, h4, h5⟩ := (show ObjOk P w H h a (.dT kvs) from rd_of ok e)
  refine ⟨z, y, xs, r, o, es, ep, h1, h2, h3, h4, fun x hx => ?_, h5⟩
  have all : ∀ {l : List (List Key × V)} {m : List (List Key × Addr × Value)}, KT H l m → ∀ x ∈ m, (tupleKind (mixKind P w)).is h x.1 x.2.1 := by
    intro l m q
    induction q with
    | nil => intro x hx; exact nomatch hx
    | @cons p q ps qs hq t ih =>
      intro x hx
      rcases List.mem_cons.mp hx with e | hx
      · subst e
        exact key_of ok (by rw [← hq.1]; exact hq.2.1)
      · exact ih x hx
  exact all r x hx
theorem dt_of {kvs : List (List Key × V)} (ok : HOk P w H h) (e : H a = some (.dT kvs)) : kvs.length ≤ sizeLine ∧ (a == sysModules) = false ∧
    ∃ xs, KT H kvs xs ∧ h.DictOfH (tupleKind (mixKind P w)) a xs := dt_rd ok (.inl e)
end
def DGet (H : Hp) (a : Addr) (y : V) (r : Option V) : Prop :=
  (∃ kvs k, Rd H a (.dK kvs) ∧ y = kV k ∧ r = valV kvs k) ∨ ∃ kvs k b, Rd H a (.dT kvs) ∧ y = .ref b ∧ H b = some (.tup (k.map kV)) ∧ r = valV kvs k
def DPut (H : Hp) (a : Addr) (y v : V) (H' : Hp) : Prop :=
  (∃ kvs k, H a = some (.dK kvs) ∧ y = kV k ∧ kvs.length < sizeLine ∧ H' = upd H a (.dK (putK kvs k v))) ∨
  ∃ kvs k b, H a = some (.dT kvs) ∧ y = .ref b ∧ H b = some (.tup (k.map kV)) ∧ kvs.length < sizeLine ∧ H' = upd H a (.dT (putK kvs k v))
theorem DGet.k {H : Hp} {a : Addr} {kvs : List (Key × V)} {k : Key} (e : H a = some (.dK kvs)) : DGet H a (kV k) (valV kvs k) := .inl ⟨kvs, k, .inl e, rfl, rfl⟩
theorem DGet.t {H : Hp} {a b : Addr} {kvs : List (List Key × V)} {k : List Key} (e : H a = some (.dT kvs)) (eb : H b = some (.tup (k.map kV))) : DGet H a (.ref b) (valV kvs k) := .inr ⟨kvs, k, b, .inl e, rfl, eb, rfl⟩
theorem DPut.k {H : Hp} {a : Addr} {kvs : List (Key × V)} {k : Key} {v : V} (e : H a = some (.dK kvs)) (hl : kvs.length < sizeLine) : DPut H a (kV k) v (upd H a (.dK (putK kvs k v))) := .inl ⟨kvs, k, e, rfl, hl, rfl⟩
theorem DPut.t {H : Hp} {a b : Addr} {kvs : List (List Key × V)} {k : List Key} {v : V} (e : H a = some (.dT kvs)) (eb : H b = some (.tup (k.map kV))) (hl : kvs.length < sizeLine) :
    DPut H a (.ref b) v (upd H a (.dT (putK kvs k v))) := .inr ⟨kvs, k, b, e, rfl, eb, hl, rfl⟩
section
variable {X : Cx} {pins : List (Addr × Obj)} {σ : St} {H : Hp} {s : Shared} {a : Addr} {y v : V} {u r : Value} {o : Option V} {A : Around} {E : Value → Shared → Prop}
theorem Inv.big (I : Inv X pins σ H s) : sysModules < s.heap.objs.size := by
  have h : mainGlobals < s.heap.objs.size := (I.mod.glob.keeps I.bk).lt
  exact Nat.lt_trans (by decide) h
theorem d_getItem {Q : Value → Shared → Prop} (hu : A.units + 1 < cLine) (I : Inv X pins σ H s) (g : DGet H a y (some v)) (ry : RelV y u) (h : ∀ w' s', Inv X pins σ H s' → RelV v w' → Q w' s') :
    wpAny (model X.prog X.w) A (getItem (.ref a) u) Q E s := by
  rcases g with ⟨kvs, k, e, ey, l⟩ | ⟨kvs, k, b, e, ey, eb, l⟩
  · subst ey
    obtain ⟨z, hd, vs, rel, dd⟩ := dk_rd I.hok e
    obtain ⟨w', hw, rw'⟩ := RelO.some_of (v := v) (o := valueAt vs k) (by rw [l]; exact rel.val k)
    exact wpAny_getItem_of (kV_is ry) dd.mapOf hw (h w' _ (I.tok _) rw')
  · subst ey
    cases (show u = Value.ref b from ry)
    obtain ⟨z, hd, xs, rel, dd⟩ := dt_rd I.hok e
    obtain ⟨w', hw, rw'⟩ := RelO.some_of (v := v) (o := (atKey xs k).map (·.2)) (by rw [l]; exact rel.val k)
    obtain ⟨p, hp, hp2⟩ := Option.map_eq_some_iff.mp hw
    refine wpAny_getItem_heap (tupleKind_room_in1 hu) (key_of I.hok eb) dd hp ?_
    rw [hp2]
    exact h w' _ (I.tok _) rw'
theorem d_in {Q : Value → Shared → Prop} (hu : A.units + 1 < cLine) (I : Inv X pins σ H s) (g : DGet H a y o) (ry : RelV y u) (h : ∀ s', Inv X pins σ H s' → Q (.bool o.isSome) s') :
    wpAny (model X.prog X.w) A (compareOp .In u (.ref a)) Q E s := by
  rcases g with ⟨kvs, k, e, ey, l⟩ | ⟨kvs, k, b, e, ey, eb, l⟩
  · subst ey
    obtain ⟨z, hd, vs, rel, dd⟩ := dk_rd I.hok e
    refine wpAny_in_of (kV_is ry) hd dd.mapOf ?_
    rw [← (rel.val k).isSome_eq, ← l]
    exact h _ (I.tok _)
  · subst ey
    cases (show u = Value.ref b from ry)
    obtain ⟨z, hd, xs, rel, dd⟩ := dt_rd I.hok e
    refine wpAny_in_heap (tupleKind_room_in1 hu) (key_of I.hok eb) hd dd ?_
    have q := (rel.val k).isSome_eq
    rw [Option.isSome_map] at q
    rw [← q, ← l]
    exact h _ (I.tok _)
theorem d_write {h' : Heap} {t' : Nat} {ob : HO} (I : Inv X pins σ H s) (mu : Mut (H a)) (hs : Heap.SameBut a s.heap h') (he : ∃ q, h'.get? a = some q) (new : ObjOk X.prog X.w (upd H a ob) h' a ob) :
    Inv X pins σ (upd H a ob) { s with heap := h', toks := t' } :=
  I.write (x := a) (e := a) mu (.inl rfl) (fun b q hb z => (hs.2 b hb).trans z) he new
theorem dk_new {P : Program} {w : World} {H' : Hp} {h' : Heap} {kvs : List (Key × V)} {vs : List (Key × Value)} (z : kvs.length ≤ sizeLine) (hd : (a == sysModules) = false) (rel : KV kvs vs) (dd : h'.DictOf (mixKind P w) a vs) :
    ObjOk P w H' h' a (.dK kvs) := ⟨z, hd, vs, rel, dd⟩
theorem d_setItem {H' : Hp} {Q : Unit → Shared → Prop} (hu : A.units + 1 < cLine) (I : Inv X pins σ H s) (g : DPut H a y v H') (ry : RelV y u) (rv : RelV v r) (h : ∀ s', Inv X pins σ H' s' → Q () s') :
    wpAny (model X.prog X.w) A (setItem (.ref a) u r) Q E s := by
  rcases g with ⟨kvs, k, e, ey, l, eH⟩ | ⟨kvs, k, b, e, ey, eb, l, eH⟩
  · subst ey eH
    obtain ⟨z, hd, vs, rel, dd⟩ := dk_of I.hok e
    have hz : vs.length ≤ sizeLine := by rw [← rel.length]; exact z
    have hl : (putK kvs k v).length ≤ sizeLine := by have := length_putK kvs k v; omega
    refine wpAny_setItem_pairs (hsz := hz) (kV_is ry) dd fun h' dd' hs => h _ ?_
    have he : ∃ q, h'.get? a = some q := let ⟨q, _, _, hq, _⟩ := dd'; ⟨q, hq⟩
    exact d_write I (by rw [e]; exact True.intro) hs he (dk_new hl hd (rel.put k rv) dd')
  · subst ey eH
    cases (show u = Value.ref b from ry)
    obtain ⟨z, hd, xs, rel, dd⟩ := dt_of I.hok e
    have hz : xs.length ≤ sizeLine := by rw [← Paired.length rel]; exact z
    have hl : (putK kvs k v).length ≤ sizeLine := by have := length_putK kvs k v; omega
    refine wpAny_setItem_heap (hsz := hz) (tupleKind_room_in1 hu) (key_of I.hok eb) dd fun h' dd' hs => h _ ?_
    obtain ⟨q, es, ep, hq, h2, h3, h4, _, h5⟩ := dd'
    refine d_write I (by rw [e]; exact True.intro) hs ⟨q, hq⟩ ⟨hl, hd, _, (rel.put k eb rv).keeps fun c ys ec => ?_, q, es, ep, hq, h2, h3, h4, h5⟩
    rw [upd_ne (ne_of ec e (fun z => nomatch z))]
    exact ec
end
section
variable {X : Cx} {pins : List (Addr × Obj)} {σ : St} {H : Hp} {s : Shared} {a : Addr} {kvs : List (Key × V)} {k : Key} {u : Value} {A : Around} {E : Value → Shared → Prop}
end
def NoSl (i : Expr) : Prop := ∀ ov iv, subscripted i false ov iv = operate [ov, iv] (getItem ov iv)
theorem subD_of {prog : Program} {w : World} {A : Around} {E : Value → Shared → Prop} {s : Shared} {env : Env} {value slice : Expr} {pos : Pos} {T id : String} {Q : Value → Shared → Prop}
    (hl : typeLookup (.type T) "__getitem__" = pure (some (.builtin id))) (hs : NoSl slice)
    (h : wpAny (model prog w) A (eval value env) (fun o s₁ => wpAny (model prog w) A (eval slice env) (fun i s₂ => s₂.TypeIs o T ∧ wpAny (model prog w) A (getItem o i) Q E s₂) E s₁) E s) :
    wpAny (model prog w) A (eval (.Subscript value slice pos) env) Q E s := by
  refine Subscript_ (wpAny_mono h (fun o s₁ h₁ => wpAny_mono h₁ (fun i s₂ h₂ => ?_) fun _ _ x => x) fun _ _ x => x)
  obtain ⟨hT, h₂⟩ := h₂
  unfold subscriptTail
  refine wpAny_bind ?_
  rw [getitemInPython_of_ne hT.not_modules]
  refine wpAny_bind (wpAny_specialOf hT hl ?_)
  have fin : wpAny (model prog w) A (subscripted slice false o i) (fun r s₃ => wpAny (model prog w) A (letTemporaryGo value o r >>= fun _ => pure r) Q E s₃) E s₂ := by
    rw [hs o i]
    exact wpAny_operating (wpAny_mono h₂ (fun r s₃ h₃ => wpAny_bind (wpAny_letTemporaryGo (wpAny_pure h₃))) fun _ _ x => x)
  first
    | exact wpAny_pure (wpAny_bind fin)
    | exact wpAny_bind (wpAny_pure (wpAny_bind fin))
    | exact wpAny_bind fin
theorem dict_typeIs {X : Cx} {pins : List (Addr × Obj)} {σ : St} {H : Hp} {s : Shared} {a : Addr} {y : V} {o : Option V} (I : Inv X pins σ H s) (g : DGet H a y o) : s.TypeIs (.ref a) "dict" := by
  rcases g with ⟨kvs, k, e, _, _⟩ | ⟨kvs, k, b, e, _, _, _⟩
  · obtain ⟨_, _, vs, _, dd⟩ := dk_rd I.hok e
    exact dd.typeIs
  · obtain ⟨_, _, xs, _, dd⟩ := dt_rd I.hok e
    exact dd.typeIs
def tDGet (td ty : TE) : TE := fun σ H Q => td σ H fun x H1 => ty σ H1 fun y H2 => ∃ a v, x = .ref a ∧ DGet H2 a y (some v) ∧ Q v H2
def tDIn (ty td : TE) : TE := fun σ H Q => ty σ H fun y H1 => td σ H1 fun x H2 => ∃ a o, x = .ref a ∧ DGet H2 a y o ∧ Q (.bl o.isSome) H2
def tDNotIn (ty td : TE) : TE := fun σ H Q => ty σ H fun y H1 => td σ H1 fun x H2 => ∃ a o, x = .ref a ∧ DGet H2 a y o ∧ Q (.bl (!o.isSome)) H2
def sDPut (td ty tv : TE) : TS := fun D σ H => tv σ H fun v H1 => td σ H1 fun x H2 => ty σ H2 fun y H3 => ∃ a H4, x = .ref a ∧ DPut H3 a y v H4 ∧ D.nx σ H4
section
variable {X : Cx} {o i e value : Expr} {pos pos' tpos : Pos} {td ty tv : TE}
theorem pe_dget (hu : X.A.units + 1 < cLine) (ho : PE X o td) (hi : PE X i ty) (hs : NoSl i) : PE X (.Subscript o i pos) (tDGet td ty) := by
  intro pins s σ H Q I h
  refine subD_of PySem.F.slot_dict_getitem.lookup hs (thn (ho pins s σ H _ I h) fun u s1 ⟨x, H1, I1, rx, q1⟩ => thn (hi pins s1 σ H1 _ I1 q1) fun iv s2 ⟨y, H2, I2, ry, a, v, ex, g, q2⟩ => ?_)
  subst ex
  obtain rfl : u = Value.ref a := rx
  exact ⟨dict_typeIs I2 g, d_getItem hu I2 g ry fun w' s3 I3 rw' => ⟨v, H2, I3, rw', q2⟩⟩
theorem pc_din (hu : X.A.units + 1 < cLine) (hi : PE X i ty) (ho : PE X o td) : PC X .In i o (tDIn ty td) := by
  intro pins s σ H Q I h
  refine thn (hi pins s σ H _ I h) fun iv s1 ⟨y, H1, I1, ry, q1⟩ => thn (ho pins s1 σ H1 _ I1 q1) fun u s2 ⟨x, H2, I2, rx, a, ov, ex, g, q2⟩ => ?_
  subst ex
  obtain rfl : u = Value.ref a := rx
  exact d_in hu I2 g ry fun s3 I3 => ⟨.bl ov.isSome, H2, I3, rfl, q2⟩
theorem ps_dput (hu : X.A.units + 1 < cLine) (ho : PE X o td) (hi : PE X i ty) (hv : PE X value tv) (hs : swapsWith value (some (.Subscript o i pos')) pos.line X.env = pure false) :
    PS X (.Assign [.Subscript o i pos'] value pos) (sDPut td ty tv) := by
  intro pins s σ H D I h
  refine wpAny_Assign_Subscript (thn (hv pins s σ H _ I h) fun r s1 ⟨v, H1, I1, rv, q1⟩ => thn (ho pins s1 σ H1 _ I1 q1) fun u s2 ⟨x, H2, I2, rx, q2⟩ => thn (hi pins s2 σ H2 _ I2 q2) fun iv s3 ⟨y, H3, I3, ry, a, H4, ex, g, q3⟩ => ?_) hs
  subst ex
  obtain rfl : u = Value.ref a := rx
  exact d_setItem hu I3 g ry rv fun s4 I4 => ⟨σ, H4, I4, q3⟩
end
theorem dk_empty {P : Program} {w : World} {H : Hp} (h : Heap) (hb : sysModules < h.objs.size) : ObjOk P w H (h.push { cls := .type "dict", data := .dict #[] }) h.objs.size (.dK []) :=
  ⟨Nat.zero_le _, beq_eq_false_iff_ne.mpr (Ne.symm (Nat.ne_of_lt hb)), [], .nil, Heap.DictOf.new h⟩
section
variable {X : Cx} {pos : Pos}
end
def tPairs : List (TE × TE) → St → Hp → (List (V × V) → Hp → Prop) → Prop
  | [], _, H, Q => Q [] H
  | (tk, tv) :: r, σ, H, Q => tk σ H fun x H1 => tv σ H1 fun y H2 => tPairs r σ H2 fun ps H3 => Q ((x, y) :: ps) H3
abbrev VV : List (V × V) → List (Value × Value) → Prop := Paired fun p q => RelV p.1 q.1 ∧ RelV p.2 q.2
def PPs (X : Cx) (pos : Pos) (keys : List (Option Expr)) (values : List Expr) (trs : List (TE × TE)) : Prop :=
  ∀ (pins : List (Addr × Obj)) (s : Shared) (σ : St) (H : Hp) (Q : List (V × V) → Hp → Prop), Inv X pins σ H s → tPairs trs σ H Q →
    wpAny (model X.prog X.w) X.A (evalPairs (pairTrees keys values X.env pos)) (fun vs s' => ∃ ps H', Inv X pins σ H' s' ∧ VV ps vs ∧ Q ps H') X.xe s
theorem pps_nil {X : Cx} {pos : Pos} : PPs X pos [] [] [] := fun pins s σ H Q I h => pairTrees_nil_walk ⟨[], H, I, .nil, h⟩
theorem pps_cons {X : Cx} {pos : Pos} {k v : Expr} {ks : List (Option Expr)} {vs : List Expr} {tk tv : TE} {trs : List (TE × TE)} (hk : PE X k tk) (hv : PE X v tv) (hr : PPs X pos ks vs trs) :
    PPs X pos (some k :: ks) (v :: vs) ((tk, tv) :: trs) := fun pins s σ H Q I h =>
  pairTrees_cons_walk (thn (hk pins s σ H _ I h) fun u s1 ⟨x, H1, I1, rx, q1⟩ => thn (hv pins s1 σ H1 _ I1 q1) fun w2 s2 ⟨y, H2, I2, ry, q2⟩ =>
    thn (hr pins s2 σ H2 _ I2 q2) fun ws s3 ⟨ps, H3, I3, rel, q3⟩ => ⟨(x, y) :: ps, H3, I3, .cons ⟨rx, ry⟩ rel, q3⟩)
def mergeK (kvs more : List (Key × V)) : List (Key × V) := more.foldl (fun acc kv => putK acc kv.1 kv.2) kvs
theorem KV.merge : ∀ {more : List (Key × V)} {rs : List (Key × Value)} {kvs : List (Key × V)} {vs : List (Key × Value)}, KV more rs → KV kvs vs → KV (mergeK kvs more) (merged vs rs) := by
  intro more rs kvs vs r
  unfold KV at r
  induction r generalizing kvs vs with
  | nil => intro q; exact q
  | @cons p q ps qs h t ih =>
    intro r0
    have e : KV (putK kvs p.1 p.2) (stored vs q.1 q.2) := by
      have := r0.put p.1 h.2
      rw [← h.1]; exact this
    exact ih e
theorem length_mergeK : ∀ (more kvs : List (Key × V)), (mergeK kvs more).length ≤ kvs.length + more.length
  | [], kvs => by show kvs.length ≤ kvs.length + 0; omega
  | p :: r, kvs => by
    have h1 := length_mergeK r (putK kvs p.1 p.2)
    have h2 := length_putK kvs p.1 p.2
    show (mergeK (putK kvs p.1 p.2) r).length ≤ _
    rw [List.length_cons]; omega
theorem carries_of {P : Program} {w : World} : ∀ {kvs : List (Key × V)} {ws : List (Value × Value)}, VV (kvs.map fun kv => (kV kv.1, kv.2)) ws → ∃ rs, Carries (mixKind P w) ws rs ∧ KV kvs rs
  | [], _, r => by rw [List.map_nil] at r; cases r; exact ⟨[], True.intro, .nil⟩
  | p :: kvs, _, r => by
    rw [List.map_cons] at r
    cases r with
    | @cons a b as bs h t =>
      obtain ⟨rs, c, q⟩ := carries_of (P := P) (w := w) t
      obtain ⟨b1, b2⟩ := b
      exact ⟨(p.1, b2) :: rs, ⟨kV_is h.1, rfl, c⟩, .cons ⟨rfl, h.2⟩ q⟩
def tDisp (trs : List (TE × TE)) : TE := fun σ H Q => ∀ p, H p = none → tPairs trs σ (upd H p (.dK [])) fun ps H2 => H2 p = some (.dK []) ∧ ∃ kvs : List (Key × V), ps = kvs.map (fun kv => (kV kv.1, kv.2)) ∧ kvs.length ≤ 15 ∧ Q (.ref p) (upd H2 p (.dK (mergeK [] kvs)))
theorem pe_disp {X : Cx} {pos : Pos} {keys : List (Option Expr)} {values : List Expr} {trs : List (TE × TE)} (h : PPs X pos keys values trs) (hall : keys.all (·.isSome) = true) (hl : keys.length = values.length) (h0 : keys ≠ [])
    (h15 : keys.length ≤ 15) : PE X (.Dict keys values pos) (tDisp trs) := by
  intro pins s σ H Q I q
  have hn := I.hok.fresh (Nat.le_refl s.heap.objs.size)
  have I1 := I.laid (a := s.heap.objs.size) (o := .dK []) (h' := s.heap.push { cls := .type "dict", data := .dict #[] }) (t' := s.toks) (fun _ _ q => Heap.get?_push_of_some _ q) (Nat.le_refl _) (dk_empty s.heap I.big)
  refine wpAny_Dict_walk (knd := mixKind X.prog X.w) hall hl h0 h15 (thn (h pins _ σ _ _ I1 (q _ hn)) fun ws s2 ⟨ps, H2, I2, rel, e, kvs, ep, lk, q2⟩ => ?_)
  subst ep
  obtain ⟨rs, c, rk⟩ := carries_of (P := X.prog) (w := X.w) rel
  obtain ⟨z, hd, vs0, r0, dd⟩ := dk_of I2.hok e
  cases r0
  refine ⟨rs, c, dd, fun h' dd' hs => ⟨.ref s.heap.objs.size, _, ?_, rfl, q2⟩⟩
  have hz : (mergeK [] kvs).length ≤ sizeLine := by
    have h1 := length_mergeK kvs []
    rw [List.length_nil] at h1
    rw [sizeLine_eq]; omega
  have he : ∃ q, h'.get? s.heap.objs.size = some q := let ⟨q, _, _, hq, _⟩ := dd'; ⟨q, hq⟩
  exact d_write I2 (by rw [e]; exact True.intro) hs he (dk_new hz hd (rk.merge .nil) dd')
section
variable {X : Cx} {pins : List (Addr × Obj)} {σ : St} {H : Hp} {s : Shared} {a : Addr} {y d : V} {u r : Value} {o : Option V} {A : Around} {E : Value → Shared → Prop}
end
section
variable {X : Cx} {o e f : Expr} {apos cpos : Pos} {td ty tx : TE}
end
section
variable {X : Cx} {pins : List (Addr × Obj)} {σ : St} {H : Hp} {s : Shared} {a : Addr} {kvs : List (Key × V)} {A : Around} {E : Value → Shared → Prop}
end
section
variable {X : Cx} {pins : List (Addr × Obj)} {σ : St} {H : Hp} {s : Shared} {a : Addr} {y : V} {u : Value} {A : Around} {E : Value → Shared → Prop}
end
end L2
namespace L2
open PySem PySem.Spec PyProof.Rows
section
variable {X : Cx}
end
end L2
namespace L2
open PySem PySem.Spec PyProof.Rows
section
variable {κ : Type} [DecidableEq κ]
theorem nd_snoc : ∀ {l : List κ} {k : κ}, l.Nodup → ¬ k ∈ l → (l ++ [k]).Nodup
  | [], k, _, _ => by simp
  | a :: r, k, h, hk => by
    obtain ⟨h1, h2⟩ := List.nodup_cons.mp h
    show (a :: (r ++ [k])).Nodup
    refine List.nodup_cons.mpr ⟨fun m => ?_, nd_snoc h2 fun m => hk (List.mem_cons.mpr (Or.inr m))⟩
    rcases List.mem_append.mp m with q | q
    · exact h1 q
    · exact hk (List.mem_cons.mpr (Or.inl (List.mem_singleton.mp q).symm))
end
end L2
set_option Elab.async false
set_option linter.all false
set_option maxRecDepth 100000
set_option maxHeartbeats 1000000
namespace L2
open PySem PySem.Spec PyProof.Rows
section
variable {X : Cx}
inductive TyX (K : PySem.W.Frag) (H : Hp) : V → Value → Prop where
  | of {x : V} {t : Value} (h : TyOf K H x t) : TyX K H x t
  | tupK {a : Addr} {xs : List V} (h : SqT K H a xs) : TyX K H (.ref a) (.type "tuple")
  | lstK {a : Addr} {xs : List V} (h : SqL K H a xs) : TyX K H (.ref a) (.type "list")
def rIsi (K : PySem.W.Frag) : List V → Hp → VK → Prop := fun xs H Q => ∃ x T t b, xs = [x, .ty T] ∧ TyX K H x t ∧ PySem.W.kitOne K t (.type T) = some b ∧ Q (.bl b) H
theorem call_isi : CallR X (.builtin "isinstance") (rIsi X.K) := by
  intro pins s σ H xs us Q I r h
  obtain ⟨x, T, t, b, rfl, ty, e, q⟩ := h
  obtain ⟨u, c, rfl, rx, rc⟩ := vals2 r
  cases (show c = Value.type T from rc)
  cases ty with
  | of h => exact isinst_ok I rx h e fun tk => ⟨.bl b, H, I.tok tk, rfl, q⟩
  | @tupK a xs h =>
    cases (show u = Value.ref a from rx)
    obtain ⟨its, _, ⟨o, h1, h2, _⟩, _⟩ := I.tuple h
    exact PySem.W.kia_one PySem.W.kitx_tuple I.kIn ⟨o, h1, h2⟩ e (fun z => nomatch z) fun tk => ⟨.bl b, H, I.tok tk, rfl, q⟩
  | @lstK a xs h =>
    cases (show u = Value.ref a from rx)
    obtain ⟨its, _, ⟨o, n, h1, h2, _⟩, _⟩ := I.list h
    exact PySem.W.kia_one PySem.W.kitx_list I.kIn ⟨o, h1, h2⟩ e (fun z => nomatch z) fun tk => ⟨.bl b, H, I.tok tk, rfl, q⟩
theorem kit_same (K : PySem.W.Frag) (T : String) : PySem.W.kitOne K (.type T) (.type T) = some true := by
  unfold PySem.W.kitOne
  rw [if_pos (beq_self_eq_true _)]
def rMulS : R2 := fun x y H Q => ∃ z n, x = .str z ∧ y = .int n ∧ z.length ≤ 1000 ∧ -1000 ≤ n ∧ n ≤ 1000 ∧ Q (.str (Txt.mul z n)) H
theorem mulOk_small {z : Str} {n : Int} (h1 : z.length ≤ 1000) (h2 : -1000 ≤ n) (h3 : n ≤ 1000) : MulOk z n := by
  refine ⟨?_, fun h4 h5 => ?_, fun h4 h5 => ?_⟩
  · have a : ¬ n < -(2 ^ 63 : Int) := by omega
    have b : ¬ n ≥ 2 ^ 63 := by omega
    rw [decide_eq_false a, decide_eq_false b]; rfl
  · have : (1000 : Int) ≤ (2 ^ 63 - 1) / n := by
      rw [Int.le_ediv_iff_mul_le (by omega)]
      omega
    omega
  · have : z.length * n.toNat ≤ 1000 * 1000 := Nat.mul_le_mul h1 (by omega)
    unfold Builtin.Str.tooLong
    rw [decide_eq_false]
    have e := sizeLine_eq
    first | omega | (simp at *; omega)
theorem op_mulS : OpR X (binaryOp .Mult) rMulS := by
  intro pins s σ H x y v u Q I rx ry h
  obtain ⟨z, n, rfl, rfl, h1, h2, h3, q⟩ := h
  obtain ⟨t, rfl⟩ := rx
  obtain ⟨t', rfl⟩ := ry
  exact SB.mul (mulOk_small h1 h2 h3) fun t' k => ⟨.str _, H, I.tok k, ⟨_, rfl⟩, q⟩
def rSlS : V → Option Int → Option Int → Hp → VK → Prop := fun x lo hi H Q => ∃ z, x = .str z ∧ z.length ≤ sizeLine ∧ Q (.str (Txt.slice z lo hi)) H
theorem pick_rev (its : List Value) : slicePick its.toArray none none (some (-1)) = its.reverse.toArray := by
  unfold slicePick
  have e : sliceBounds none none (some (-1)) its.toArray.size = ((its.length : Int) - 1, -1, -1) := by
    simp [sliceBounds]
  rw [e]
  have e2 : sliceRange ((its.length : Int) - 1) (-1) (-1) = (List.range its.length).map fun k => its.length - 1 - k := by
    unfold sliceRange
    have c : (if (-1 : Int) > 0 then (if ((its.length : Int) - 1) < -1 then (-1 - ((its.length : Int) - 1) + -1 - 1) / -1 else 0) else (if ((its.length : Int) - 1) > -1 then (((its.length : Int) - 1) - -1 - -1 - 1) / (- -1) else 0)).toNat = its.length := by
      rw [if_neg (by decide)]
      by_cases h : ((its.length : Int) - 1) > -1
      · rw [if_pos h]
        have : (((its.length : Int) - 1) - -1 - -1 - 1) / (- -1) = its.length := by
          have : (- (-1 : Int)) = 1 := rfl
          rw [this, Int.ediv_one]; omega
        rw [this]; simp
      · rw [if_neg h]; simp; omega
    show (List.range (if (-1 : Int) > 0 then (if ((its.length : Int) - 1) < -1 then (-1 - ((its.length : Int) - 1) + -1 - 1) / -1 else 0) else (if ((its.length : Int) - 1) > -1 then (((its.length : Int) - 1) - -1 - -1 - 1) / (- -1) else 0)).toNat).map _ = _
    rw [c]
    apply List.map_congr_left
    intro k hk
    omega
  show ((sliceRange ((its.length : Int) - 1) (-1) (-1)).filterMap (its.toArray[·]?)).toArray = _
  rw [e2, List.filterMap_map]
  congr 1
  apply List.ext_getElem?
  intro i
  have all : (List.range its.length).filterMap ((its.toArray[·]?) ∘ fun k => its.length - 1 - k) = its.reverse := by
    have gen : ∀ (n : Nat) (f : Nat → Option Value) (g : Nat → Value), (∀ k, k < n → f k = some (g k)) → (List.range n).filterMap f = (List.range n).map g := by
      intro n f g hf
      have aux : ∀ l : List Nat, (∀ k ∈ l, f k = some (g k)) → l.filterMap f = l.map g := by
        intro l
        induction l with
        | nil => intro _; rfl
        | cons k l ih =>
          intro h
          rw [List.filterMap_cons, h k (List.mem_cons_self), List.map_cons, ih fun j hj => h j (List.mem_cons_of_mem _ hj)]
      exact aux _ fun k hk => hf k (List.mem_range.mp hk)
    rw [gen its.length _ (fun k => its.reverse.getD k .none) (fun k hk => by
      have h2 : its.length - 1 - k < its.length := by omega
      simp [h2, List.getElem?_reverse, hk])]
    apply List.ext_getElem
    · simp
    · intro k h1 h2
      simp at h1
      simp [List.getElem?_reverse, h1]
  rw [all]
def tRev (K : PySem.W.Frag) (te ts : TE) : TE := fun σ H Q => te σ H fun x H1 => ts σ H1 fun y H2 => ∃ a xs, x = .ref a ∧ y = .int (-1) ∧ SqL K H2 a xs ∧ ∀ p, H2 p = none → Q (.ref p) (upd H2 p (.lst xs.reverse))
theorem pe_rev {e st : Expr} {te ts : TE} {p2 pos : Pos} (he : PE X e te) (hst : PE X st ts) : PE X (.Subscript e (.Slice none none (some st) p2) pos) (tRev X.K te ts) := by
  intro pins s σ H Q I h
  refine Subscript_ (thn (he pins s σ H _ I h) fun v s1 ⟨x, H1, I1, r1, q1⟩ => ?_)
  refine wpAny_Slice ?_
  rw [evalPart_none, evalPart_some]
  refine wpAny_pure (wpAny_pure (thn (hst pins s1 σ H1 _ I1 q1) fun vs s2 ⟨y, H2, I2, r2, q2⟩ => ?_))
  obtain ⟨a, xs, rfl, rfl, hx, q⟩ := q2
  cases r1
  obtain ⟨t, rfl⟩ := r2
  have I4 : Inv X pins σ H2 { s2 with heap := s2.heap.push { cls := .type "slice", data := .fields #[.none, .none, .int (-1) t] } } := I2.kept (t' := s2.toks) fun b ob q => Heap.get?_push_of_some _ q
  obtain ⟨its, r, ht, hz⟩ := I4.list hx
  have hlen := r.length
  show wpAny (model X.prog X.w) X.A (subscriptTail e (.Slice none none (some st) p2) (.ref a) (.ref s2.heap.objs.size)) (EP X pins σ Q) X.xe { s2 with heap := s2.heap.push { cls := .type "slice", data := .fields #[.none, .none, .int (-1) t] } }
  refine tail_any (ops := [.ref a, .ref s2.heap.objs.size]) ht.isList.typeIs slot_list_getitem.lookup ?_ (by with_unfolding_all rfl)
  refine wpAny_getItem_list_slice ht.isList (Heap.IsSliceOf.new ..) .none .none (.int _ _) (by simp) ?_ (by rw [List.size_toArray] <;> omega)
  rw [pick_rev]
  refine ⟨.ref _, _, I4.laid (t' := s2.toks) (o := .lst xs.reverse) (fun b ob q => Heap.get?_push_of_some _ q) (Nat.le_refl _) ?_, rfl, q _ (I4.hok.fresh (Nat.le_refl _))⟩
  exact ⟨by rw [List.length_reverse]; exact hz, _, 0, r.reverse, Heap.get?_push_size _ rfl⟩
theorem strsAre_of : ∀ {ys : List Str} {us : List Value}, Vals (ys.map V.str) us → StrsAre us ys
  | [], _, r => by cases r; exact .nil
  | y :: ys, _, r => by
    cases r with
    | cons h t =>
      obtain ⟨tk, rfl⟩ := h
      exact .cons _ _ (strsAre_of t)
def rJoin (K : PySem.W.Frag) : V → List V → Hp → VK → Prop := fun x vs H Q => ∃ sep l ys, x = .str sep ∧ vs = [.ref l] ∧ SqL K H l (ys.map V.str) ∧ (ys.map (·.length)).sum + ys.length * sep.length ≤ 16777216 ∧ Q (.str (Txt.join sep ys)) H
abbrev TF := Str → St → Hp → VK → Prop
def tF0 : TF := fun out _ H Q => out.length ≤ sizeLine ∧ Q (.str out) H
def tFc (x : Str) (t : TF) : TF := fun out σ H Q => (out ++ x).length ≤ sizeLine ∧ t (out ++ x) σ H Q
def tFv (te : TE) (t : TF) : TF := fun out σ H Q => te σ H fun v H1 => ∃ y, v = .str y ∧ y.length ≤ sizeLine ∧ (out ++ y).length ≤ sizeLine ∧ t (out ++ y) σ H1 Q
def tFs (t : TF) : TE := fun σ H Q => t Str.empty σ H Q
end
end L2
set_option Elab.async false
set_option linter.all false
set_option maxRecDepth 100000
set_option maxHeartbeats 1000000
namespace L2
open PySem PySem.Spec PyProof.Rows
mutual
def Dn (K : PySem.W.Frag) (H : Hp) : V → PyData → Prop
  | v, .none => v = .non
  | v, .bool b => v = .bl b
  | v, .int i => v = .int i
  | v, .str x => v = .str x
  | v, .list ds => ∃ a xs, v = .ref a ∧ SqL K H a xs ∧ DnAll K H xs ds
  | v, .tuple ds => ∃ a xs, v = .ref a ∧ SqT K H a xs ∧ DnAll K H xs ds
  | _, .dict _ => False
def DnAll (K : PySem.W.Frag) (H : Hp) : List V → List PyData → Prop
  | xs, [] => xs = []
  | xs, d :: ds => ∃ x r, xs = x :: r ∧ Dn K H x d ∧ DnAll K H r ds
end
theorem DnAll.length {K : PySem.W.Frag} {H : Hp} : ∀ {xs : List V} {ds : List PyData}, DnAll K H xs ds → xs.length = ds.length
  | xs, [], h => by rw [DnAll] at h; rw [h]; rfl
  | xs, d :: ds, h => by
    rw [DnAll] at h
    obtain ⟨x, r, rfl, _, h⟩ := h
    simp [DnAll.length h]
def KeepT (K : PySem.W.Frag) (H H' : Hp) : Prop := ∀ a xs, SqT K H a xs → SqT K H' a xs
mutual
def noList : PyData → Bool
  | .list _ => false
  | .tuple ds => noLists ds
  | .dict _ => false
  | _ => true
def noLists : List PyData → Bool
  | [] => true
  | d :: ds => noList d && noLists ds
end
mutual
theorem Dn.keepT {K : PySem.W.Frag} {H H' : Hp} (k : KeepT K H H') : ∀ {d : PyData} {v : V}, noList d = true → Dn K H v d → Dn K H' v d
  | .none, v, _, h => by rw [Dn] at h ⊢; exact h
  | .bool _, v, _, h => by rw [Dn] at h ⊢; exact h
  | .int _, v, _, h => by rw [Dn] at h ⊢; exact h
  | .str _, v, _, h => by rw [Dn] at h ⊢; exact h
  | .list _, v, n, h => by rw [noList] at n; cases n
  | .dict _, v, n, h => by rw [noList] at n; cases n
  | .tuple ds, v, n, h => by
    rw [Dn] at h ⊢
    rw [noList] at n
    obtain ⟨a, xs, e, hs, hd⟩ := h
    exact ⟨a, xs, e, k a xs hs, DnAll.keepT k n hd⟩
theorem DnAll.keepT {K : PySem.W.Frag} {H H' : Hp} (k : KeepT K H H') : ∀ {ds : List PyData} {xs : List V}, noLists ds = true → DnAll K H xs ds → DnAll K H' xs ds
  | [], xs, _, h => by rw [DnAll] at h ⊢; exact h
  | d :: ds, xs, n, h => by
    rw [DnAll] at h ⊢
    rw [noLists, Bool.and_eq_true] at n
    obtain ⟨x, r, e, h1, h2⟩ := h
    exact ⟨x, r, e, Dn.keepT k n.1 h1, DnAll.keepT k n.2 h2⟩
end
mutual
theorem Dn.keep {K : PySem.W.Frag} {H H' : Hp} (k : KeepT K H H') (kl : ∀ a xs, SqL K H a xs → SqL K H' a xs) : ∀ {d : PyData} {v : V}, Dn K H v d → Dn K H' v d
  | .none, v, h => by rw [Dn] at h ⊢; exact h
  | .bool _, v, h => by rw [Dn] at h ⊢; exact h
  | .int _, v, h => by rw [Dn] at h ⊢; exact h
  | .str _, v, h => by rw [Dn] at h ⊢; exact h
  | .list ds, v, h => by
    rw [Dn] at h ⊢
    obtain ⟨a, xs, e, hs, hd⟩ := h
    exact ⟨a, xs, e, kl a xs hs, DnAll.keep k kl hd⟩
  | .dict _, v, h => by rw [Dn] at h; exact h.elim
  | .tuple ds, v, h => by
    rw [Dn] at h ⊢
    obtain ⟨a, xs, e, hs, hd⟩ := h
    exact ⟨a, xs, e, k a xs hs, DnAll.keep k kl hd⟩
theorem DnAll.keep {K : PySem.W.Frag} {H H' : Hp} (k : KeepT K H H') (kl : ∀ a xs, SqL K H a xs → SqL K H' a xs) : ∀ {ds : List PyData} {xs : List V}, DnAll K H xs ds → DnAll K H' xs ds
  | [], xs, h => by rw [DnAll] at h ⊢; exact h
  | d :: ds, xs, h => by
    rw [DnAll] at h ⊢
    obtain ⟨x, r, e, h1, h2⟩ := h
    exact ⟨x, r, e, Dn.keep k kl h1, DnAll.keep k kl h2⟩
end
section
variable {X : Cx} {pins : List (Addr × Obj)} {σ : St} {H : Hp} {s : Shared}
mutual
theorem Dn.reads (I : Inv X pins σ H s) : ∀ {d : PyData} {v : V} {u : Value}, Dn X.K H v d → RelV v u → ∃ as, Reads s.heap u d as
  | .none, v, u, h, r => by rw [Dn] at h; subst h; cases (show u = Value.none from r); exact ⟨_, .none⟩
  | .bool b, v, u, h, r => by rw [Dn] at h; subst h; cases (show u = Value.bool b from r); exact ⟨_, .bool b⟩
  | .int i, v, u, h, r => by rw [Dn] at h; subst h; obtain ⟨t, rfl⟩ := r; exact ⟨_, .int i t⟩
  | .str x, v, u, h, r => by rw [Dn] at h; subst h; obtain ⟨t, rfl⟩ := r; exact ⟨_, .str x t⟩
  | .dict _, v, u, h, r => by rw [Dn] at h; exact h.elim
  | .list ds, v, u, h, r => by
    rw [Dn] at h
    obtain ⟨a, xs, rfl, hs, hd⟩ := h
    cases (show u = Value.ref a from r)
    obtain ⟨its, rv, ⟨o, n, h1, h2, _, h3⟩, _⟩ := I.list hs
    obtain ⟨as, q⟩ := DnAll.reads I hd rv
    exact ⟨_, .list h1 h2 h3 (by simpa using q)⟩
  | .tuple ds, v, u, h, r => by
    rw [Dn] at h
    obtain ⟨a, xs, rfl, hs, hd⟩ := h
    cases (show u = Value.ref a from r)
    obtain ⟨its, rv, ⟨o, h1, h2, n, h3⟩, _⟩ := I.tuple hs
    obtain ⟨as, q⟩ := DnAll.reads I hd rv
    exact ⟨_, .tuple h1 h2 h3 (by simpa using q)⟩
theorem DnAll.reads (I : Inv X pins σ H s) : ∀ {ds : List PyData} {xs : List V} {us : List Value}, DnAll X.K H xs ds → Vals xs us → ∃ as, ReadsAll s.heap us ds as
  | [], xs, us, h, r => by rw [DnAll] at h; subst h; cases r; exact ⟨_, .nil⟩
  | d :: ds, xs, us, h, r => by
    rw [DnAll] at h
    obtain ⟨x, r', rfl, h1, h2⟩ := h
    cases r with
    | cons r1 r2 =>
      obtain ⟨as, q1⟩ := Dn.reads I h1 r1
      obtain ⟨bs, q2⟩ := DnAll.reads I h2 r2
      exact ⟨_, .cons q1 q2⟩
end
end
section
variable {X : Cx}
def rEqD (K : PySem.W.Frag) (neg : Bool) : R2 := fun x y H Q => ∃ d e, Dn K H x d ∧ Dn K H y e ∧ d.canLay0 = true ∧ e.canLay0 = true ∧ min d.depth e.depth ≤ 150 ∧ Q (.bl (if neg then !PyData.eqv d e else PyData.eqv d e)) H
theorem op_eqD (hu : X.A.units + 150 < cLine) : OpR X (compareOp .Eq) (rEqD X.K false) := by
  intro pins s σ H x y v u Q I rx ry h
  obtain ⟨d, e, h1, h2, l1, l2, hz, q⟩ := h
  obtain ⟨as, r1⟩ := h1.reads I rx
  obtain ⟨bs, r2⟩ := h2.reads I ry
  exact PySem.W.cmp_ofEq (SeqAt.rcAt_reads r1 r2 l1 l2 (by omega) _ _ _ _ ⟨.bl _, H, I, rfl, q⟩)
theorem op_neD (hu : X.A.units + 150 < cLine) : OpR X (compareOp .NotEq) (rEqD X.K true) := by
  intro pins s σ H x y v u Q I rx ry h
  obtain ⟨d, e, h1, h2, l1, l2, hz, q⟩ := h
  obtain ⟨as, r1⟩ := h1.reads I rx
  obtain ⟨bs, r2⟩ := h2.reads I ry
  exact PySem.W.cmp_ofNotEq (SeqAt.rcNeAt_reads r1 r2 l1 l2 (by omega) _ _ _ _ ⟨.bl _, H, I, rfl, q⟩)
end
theorem hu_150 {A : Around} {k : Nat} (hr : Room k A) : A.units + 150 < cLine := by have := hr.un; omega
end L2
set_option Elab.async false
set_option linter.all false
set_option maxRecDepth 100000
set_option maxHeartbeats 2000000
namespace L2
open PySem PySem.Spec PyProof.Rows
def blk (X : Cx) (N' : List Str) (scope : Scope) (cl : List (Str × Addr)) (s : Shared) (H : Hp) (C : Addr) (ex : List Addr) : Cx where
  prog := X.prog
  w := X.w
  K := X.K
  mg := X.mg
  base := X.base
  A := X.A
  N := N'
  s₀ := s
  H₀ := H
  env := compEnvC scope cl C X.env
  outer := X.stack
  stack := X.stack
  ex := ex
  fn := fun _ => false
  calm := X.calm
  pn := []
  xe := fun _ _ => False
structure BlkOk (X : Cx) (scope : Scope) (cl : List (Str × Addr)) (N' : List Str) (nt : Nat) (ci : List Nat) : Prop where
  clos : closureFor scope X.env = pure cl
  cell : ∀ y ∈ scope.names, y.2 ≠ .cell
  kind : scope.kind = .function
  names : ∀ y ∈ scope.names, y.2 = .local → scope.names.lookup y.1 = some .local
  sub : ∀ x c, cl.lookup x = some c → X.env.cells.lookup x = some c
  has : ∀ x, ((relabel scope X.env).names.lookup x = some .cell ∨ (relabel scope X.env).names.lookup x = some .free) → ∃ c, cl.lookup x = some c
  len : N'.length = nt + ci.length
  cap : ∀ (j i : Nat), ci[j]? = some i → ∃ x, N'[nt + j]? = some x ∧ X.N[i]? = some x ∧ X.env.scope.names.lookup x = some .cell ∧ ((relabel scope X.env).names.lookup x = some .cell ∨ (relabel scope X.env).names.lookup x = some .free)
def capt (nt : Nat) (ci : List Nat) (σ : St) : St := List.replicate nt none ++ ci.map fun i => (σ[i]?).join
section
variable {X : Cx} {scope : Scope} {cl : List (Str × Addr)} {N' : List Str} {nt : Nat} {ci : List Nat} {pins : List (Addr × Obj)} {σ : St} {H : Hp} {s : Shared}
theorem blk_start (B : BlkOk X scope cl N' nt ci) (I : Inv X pins σ H s) {fp : List Addr} (hf : ∀ b ∈ fp, FpOk X pins H b) (ho : ∀ b ∈ fp, ∃ o, s.heap.get? b = some o) {C acc : Addr} {h1 : Heap} {tk : Nat}
    (hacc : acc = s.heap.objs.size) (hC : C = s.heap.objs.size + 1) (k : ∀ b u, s.heap.get? b = some u → h1.get? b = some u) (ns : h1.Ns C fun _ => none) (ha : h1.get? acc = some { cls := .type "list", data := .seq #[] }) :
    Inv (blk X N' scope cl s H C fp) [] (capt nt ci σ) (upd H acc (.lst [])) { s with heap := h1, toks := tk } := by
  have hn : H acc = none := I.hok.fresh (by rw [hacc]; exact Nat.le_refl _)
  have hnC : H C = none := I.hok.fresh (by rw [hC]; exact Nat.le_succ _)
  have cellLt : ∀ x c, cl.lookup x = some c → c < s.heap.objs.size := fun x c e => by
    obtain ⟨v, q⟩ := I.cell x c (B.sub x c e)
    exact q.lt
  refine ⟨⟨I.ok.mod, B.kind, I.ok.glob, I.ok.blt, ?_, fun x y c e1 e2 => I.ok.inj x y c (B.sub _ _ e1) (B.sub _ _ e2), fun x hx => B.has x hx, fun x c (z : false = true) => Bool.noConfusion z, fun hc => I.ok.hd hc, I.ok.frames, .inl rfl, fun b hb => ?_, I.bs, ?_, fun b o e hb => ?_, fun b hb => ?_, I.stack, fun b hb => I.stkFree b hb⟩,
    rfl, I.bare, Un.laid (a := acc) (o := .lst []) k (by rw [hacc]; exact Nat.le_refl _) hn, ⟨_, ns, fun i x v e1 e2 e3 => ?_⟩, fun x c e => ?_, ?_, fun x c e => ?_, fun p hp => absurd (show p ∈ ([] : List (Addr × Obj)) from hp) (by simp), I.hok.laid k (by rw [hacc]; exact Nat.le_refl _) ⟨Nat.zero_le _, [], 0, .nil, ha⟩, ?_⟩
  · show s.heap.objs.size ≤ C
    rw [hC]; exact Nat.le_succ _
  · obtain ⟨f0, f1, f2, f3, f4, f5⟩ := hf b hb
    obtain ⟨o, e⟩ := ho b hb
    refine ⟨?_, fun x c e' => f4 x c (B.sub x c e')⟩
    show b ≠ C
    rw [hC]
    exact Nat.ne_of_lt (Nat.lt_succ_of_lt (Heap.lt_size e))
  · exact Nat.le_trans I.ok.bsz I.sz
  · obtain ⟨f0, f1, f2, f3, f4, f5⟩ := hf b hb
    rcases f3 with z | z
    · exact I.ok.noex b o e z
    · exact absurd (Nat.lt_of_lt_of_le (Heap.lt_size e) (Nat.le_trans I.ok.bsz z)) (Nat.lt_irrefl _)
  · intro z
    obtain ⟨f0, f1, f2, f3, f4, f5⟩ := hf b hb
    rcases List.mem_cons.mp (I.stkSub b z) with y | y
    · exact f1 y
    · exact f2 y
  · -- the names
    obtain ⟨m, hm, hl⟩ := I.loc
    unfold capt at e2
    by_cases hi : i < nt
    · rw [List.getElem?_append_left (by simpa using hi), List.getElem?_replicate] at e2
      split at e2 <;> cases e2
    · rw [List.getElem?_append_right (by simpa using hi), List.length_replicate, List.getElem?_map] at e2
      cases q : ci[i - nt]? with
      | none => rw [q] at e2; cases e2
      | some j =>
        rw [q] at e2
        have e2' : (σ[j]?).join = some v := Option.some.inj e2
        obtain ⟨y, a1, a2, a3, a4⟩ := B.cap _ j q
        have ei : nt + (i - nt) = i := by omega
        rw [ei, show N'[i]? = some x from e1] at a1
        cases a1
        have e2'' : σ[j]? = some (some v) := by
          cases z : σ[j]? with
          | none => rw [z] at e2'; cases e2'
          | some w => rw [z] at e2'; exact congrArg some e2'
        obtain ⟨u, r, l⟩ := hl j x v a2 e2'' (.inr (.inl a3))
        refine ⟨u, r, .inr ⟨a4, ?_⟩⟩
        rcases l with ⟨kk, _⟩ | ⟨_, c, c1, c2⟩
        · have kk' : X.env.scope.names.lookup x = some .local := kk
          rw [a3] at kk'; cases kk'
        · obtain ⟨c', ec⟩ := B.has x a4
          have := B.sub x c' ec
          rw [c1] at this; cases this
          exact ⟨c, ec, let ⟨o, e, d⟩ := c2; ⟨o, k _ _ e, d⟩⟩
  · obtain ⟨v, q⟩ := I.cell x c (B.sub x c e)
    exact ⟨v, let ⟨o, e, d⟩ := q; ⟨o, k _ _ e, d⟩⟩
  · show upd H acc (.lst []) C = none
    rw [upd_ne (by rw [hacc, hC]; exact Nat.succ_ne_self _)]; exact hnC
  · have lt := cellLt x c e
    rw [upd_ne (by rw [hacc]; exact Nat.ne_of_lt lt)]
    exact I.freeC x c (B.sub x c e)
  · show (capt nt ci σ).length = N'.length
    unfold capt
    rw [List.length_append, List.length_replicate, List.length_map, B.len]
def Wk (σ σ' : St) : Prop := σ'.length = σ.length ∧ ∀ (i : Nat) v, σ[i]? = some (some v) → σ'[i]? = some (some v)
theorem wk_set {σ : St} {i : Nat} {x : V} (h : σ[i]? = some none) : Wk σ (σ.set i (some x)) := by
  refine ⟨by simp, fun j v e => ?_⟩
  by_cases hj : j = i
  · subst hj; rw [h] at e; cases e
  · rw [List.getElem?_set_ne (Ne.symm hj)]; exact e
theorem wk_head {x : V} {r : St} : Wk (none :: r) (some x :: r) := wk_set (σ := none :: r) (i := 0) rfl
theorem Wk.trans {σ1 σ2 σ3 : St} (a : Wk σ1 σ2) (b : Wk σ2 σ3) : Wk σ1 σ3 := ⟨b.1.trans a.1, fun i v e => b.2 i v (a.2 i v e)⟩
theorem Wk.refl (σ : St) : Wk σ σ := ⟨rfl, fun _ _ e => e⟩
def lcW (K : PySem.W.Frag) (σ0 : St) (J : It) (acc : Addr) (g : TG) (te : TE) (Q : VK) (W : Nat → Nat → List V → Hp → Prop) : Prop :=
  ∀ i m ys H2, W i m ys H2 → H2 acc = some (.lst ys) ∧ ys.length < sizeLine ∧ ((J.stop i H2 ∧ Q (.ref acc) H2) ∨
    (J.go i H2 ∧ ∀ x H3, J.yld i H2 x H3 → g x σ0 H3 fun σ4 H4 => Wk σ0 σ4 ∧ te σ4 H4 fun y H5 => H5 acc = some (.lst ys) ∧ ∃ m', m' < m ∧ W (i + 1) m' (ys ++ [y]) (upd H5 acc (.lst (ys ++ [y])))))
def tLC (K : PySem.W.Frag) (nt : Nat) (ci : List Nat) (wi : TI) (g : TG) (te : TE) : TE := fun σ H Q => wi σ H fun J H1 => ∀ acc, H1 acc = none → ∃ W : Nat → Nat → List V → Hp → Prop, (∃ m, W 0 m [] (upd H1 acc (.lst []))) ∧ lcW K (capt nt ci σ) J acc g te Q W
theorem compTurn_one (elt target iter : Expr) (scope : Scope) (pos : Pos) (it acc : Value) (env : Env) :
    compTurn (.ListComp elt [⟨target, iter, [], 0⟩] scope pos) 0 it acc env = (standAt iter.pos >>= fun _ => pyNext it >>= fun r => match r with
      | none => pure (.done .next)
      | some v => letOwnedTupleGo target it v >>= fun _ => assign target env v >>= fun _ =>
        (eval elt env >>= fun x => call (.builtin "list.append") [acc, x] >>= fun _ => pure ()) >>= fun _ =>
          again (.compLoop (.ListComp elt [⟨target, iter, [], 0⟩] scope pos) 0 it acc env)) := by rfl
theorem noE {M : Model} {A : Around} {env : Env} {E : Value → Shared → Prop} : ∀ e s, (fun (_ : Value) (_ : Shared) => False) e s → notedBy M A env E e s := fun _ _ z => z.elim
theorem lc_loop {tg elt iter : Expr} {pos : Pos} {g : TG} {te : TE} {it acc C : Addr} {fp : List Addr} {tn : Nat → Heap → Prop} {J : It} {Q : VK} {s0 : Shared} {H0 : Hp} {σ0 : St} {R : Result → Shared → Prop} {s : Shared} {i0 m0 : Nat} {ys0 : List V} {H1 : Hp} {W : Nat → Nat → List V → Hp → Prop}
    (hc : X.calm = true) (hg : PG (blk X N' scope cl s0 H0 C fp) tg g) (he : PE (blk X N' scope cl s0 H0 C fp) elt te) (T : Turn X.prog X.w X.K tg J fp it tn)
    (hfp : ∀ (H' : Hp), (∀ b ∈ fp, H' b = none) → ∀ b ∈ fp, FpOk (blk X N' scope cl s0 H0 C fp) [] H' b) (hW : lcW X.K σ0 J acc g te Q W)
    (hR : ∀ s' H', Inv (blk X N' scope cl s0 H0 C fp) [] σ0 H' s' → Q (.ref acc) H' → R (.ok .next) s')
    (I : Inv (blk X N' scope cl s0 H0 C fp) [] σ0 H1 s) (hst : tn i0 s.heap) (hfr : ∀ b ∈ fp, H1 b = none) (w : W i0 m0 ys0 H1) :
    codeAny (model X.prog X.w) X.A (.compLoop (.ListComp elt [⟨tg, iter, [], 0⟩] scope pos) 0 (.ref it) (.ref acc) (compEnvC scope cl C X.env)) R s := by
  refine codeAny_loop rfl (fun n s => ∃ i ys H2, Inv (blk X N' scope cl s0 H0 C fp) [] σ0 H2 s ∧ tn i s.heap ∧ (∀ b ∈ fp, H2 b = none) ∧ W i n ys H2) (fun n s hI => ?_) m0 ⟨i0, ys0, H1, I, hst, hfr, w⟩
  obtain ⟨i, ys, H2, I2, st2, fr2, w2⟩ := hI
  show wpAny _ _ ((compTurn (.ListComp elt [⟨tg, iter, [], 0⟩] scope pos) 0 (.ref it) (.ref acc) (compEnvC scope cl C X.env)).onRaise (fun x => do noteFrame x (compEnvC scope cl C X.env); theTreesLotGoes x)) _ _ s
  refine wpAny_noted ?_
  rw [compTurn_one]
  refine wpAny_bind (wpAny_standAt (wpAny_bind ?_))
  obtain ⟨hacc, hlen, hcase⟩ := hW i n ys H2 w2
  rcases hcase with ⟨stop, q⟩ | ⟨go, step⟩
  · refine thn (T.done (blk X N' scope cl s0 H0 C fp) rfl rfl rfl hc i [] s σ0 H2 _ I2 (hfp H2 fr2) st2 stop) fun r s1 ⟨hr, I3⟩ => ?_
    subst hr
    exact wpAny_pure (hR s1 H2 I3 q)
  · refine thn (T.item (blk X N' scope cl s0 H0 C fp) rfl rfl rfl hc i [] s σ0 H2 _ I2 (hfp H2 fr2) st2 go) fun r s1 ⟨u, hr, h4⟩ => ?_
    subst hr
    refine wpAny_bind (thn h4 fun _ s5 ⟨x, H5, I5, r5, y5, st5, fr5⟩ => ?_)
    have I5' := I5.pinned (hfp H5 fr5) (T.obj _ _ st5)
    refine wpAny_bind (wpAny_mono (hg _ s5 σ0 H5 x u _ I5' r5 (step x H5 y5)) (fun _ s6 ⟨σ6, H6, I6, hw6, q6⟩ => ?_) noE)
    refine wpAny_bind (wpAny_bind (wpAny_mono (he _ s6 σ6 H6 _ I6 q6) (fun v s7 ⟨y, H7, I7, r7, ha7, m', hm', w7⟩ => ?_) noE))
    refine wpAny_bind (wpAny_mono (mt_append (X := blk X N' scope cl s0 H0 C fp) _ s7 σ6 H7 (.ref acc) [y] (.ref acc) [v] (fun _ H8 => H8 = upd H7 acc (.lst (ys ++ [y]))) I7 rfl (.cons r7 .nil) ⟨acc, ys, y, rfl, rfl, ha7, hlen, rfl⟩) (fun _ s8 ⟨_, H8, I8, _, e8⟩ => ?_) noE)
    subst e8
    refine wpAny_pure (wpAny_pure ⟨rfl, m', hm', i + 1, ys ++ [y], _, ?_, ?_, fun b hb => ?_, w7⟩)
    · exact I8.unpinned.weak hw6.1.symm hw6.2
    · exact T.keep _ _ _ st5 fun b hb o e => (I8.pin (b, o) (List.mem_append_right _ (List.mem_append_right _ (mem_pinsAt hb e)))).1
    · obtain ⟨o, e, d⟩ := T.obj _ _ st5 b hb
      exact (I8.pin (b, o) (List.mem_append_right _ (List.mem_append_right _ (mem_pinsAt hb e)))).2.1
theorem lc_core {tg elt iter : Expr} {pos pos' : Pos} {wi : TI} {g : TG} {te : TE} {use : Option (Value → Sem Unit)} {Q : VK} {Qf : Value → Shared → Prop} (B : BlkOk X scope cl N' nt ci) (hc : X.calm = true) (hi : PI X tg iter wi)
    (hg : ∀ s H C ex, PG (blk X N' scope cl s H C ex) tg g) (he : ∀ s H C ex, PE (blk X N' scope cl s H C ex) elt te) (hs : ∀ x, foldedSetIterable iter X.env x = pure x) (I : Inv X pins σ H s) (h : tLC X.K nt ci wi g te σ H Q)
    (fin : ∀ (acc C : Addr) (s' : Shared) (H' : Hp), Inv X pins σ H' s' → Q (.ref acc) H' → (∃ m, s'.heap.Ns C m) → FpOk X pins H' C → (∃ o, s'.heap.get? C = some o ∧ ∀ v, o.data ≠ .cell v) → compPost (model X.prog X.w) X.A X.xe use Qf (.ref acc) C (.ok .next) s') :
    wpAny (model X.prog X.w) X.A (comprehension (.ListComp elt [⟨tg, iter, [], 0⟩] scope pos) scope X.env pos' (newList []) false (eval iter X.env) use) Qf X.xe s := by
  refine wpAny_comprehension_free (use := use) rfl hs B.clos B.kind B.names (thn (hi pins s σ H _ I h) fun v s1 h1 => thn h1 fun itv s2 h2 => ?_)
  obtain ⟨it, fp, tn, J, H2, e, I2, T, st2, f2, q2⟩ := h2
  subst e
  have hacc : H2 s2.heap.objs.size = none := I2.hok.fresh (Nat.le_refl _)
  obtain ⟨W, ⟨m0, w0⟩, hW⟩ := q2 s2.heap.objs.size hacc
  refine wpAny_newObj_type (wpAny_newFunctionEnv B.cell (by intro y hy; simp at hy) (fun h₁ hns₁ hsb₁ => ?_) B.kind)
  dsimp only at hns₁ hsb₁ ⊢
  have hCs : (s2.heap.push { cls := .type "list", dict := none, data := .seq ([] : List Value).toArray }).objs.size = s2.heap.objs.size + 1 := Heap.size_push ..
  have k1 : ∀ b u, s2.heap.get? b = some u → h₁.get? b = some u := fun b u e => hsb₁.extBut b u (by rw [hCs]; exact Nat.ne_of_lt (Nat.lt_succ_of_lt (Heap.lt_size e))) (Heap.get?_push_of_some _ (Heap.get?_push_of_some _ e))
  have a1 : h₁.get? s2.heap.objs.size = some { cls := .type "list", data := .seq #[] } := hsb₁.extBut _ _ (by rw [hCs]; exact Nat.ne_of_lt (Nat.lt_succ_self _)) (Heap.get?_push_of_some _ (Heap.get?_push_size _ rfl))
  rw [hCs] at hns₁ ⊢
  have I3 := blk_start (tk := s2.toks + ([] : List (Str × Value)).length) B I2 f2 (fun b hb => let ⟨o, e, _⟩ := T.obj _ _ st2 b hb; ⟨o, e⟩) rfl rfl k1 (by simpa using hns₁) a1
  have hfpB : ∀ (H' : Hp), (∀ b ∈ fp, H' b = none) → ∀ b ∈ fp, FpOk (blk X N' scope cl s2 H2 (s2.heap.objs.size + 1) fp) [] H' b := fun H' hn b hb => by
    obtain ⟨f0, f1, f3, f4, f5, f6⟩ := f2 b hb
    obtain ⟨o, e, _⟩ := T.obj _ _ st2 b hb
    refine ⟨hn b hb, ?_, fun z => ?_, .inl hb, fun x c e' => f5 x c (B.sub x c e'), fun p hp => absurd (show p ∈ ([] : List (Addr × Obj)) from hp) (by simp)⟩
    · exact Nat.ne_of_lt (Nat.lt_succ_of_lt (Heap.lt_size e))
    · rcases List.mem_cons.mp (I2.stkSub b z) with y | y
      · exact f1 y
      · exact f3 y
  have hfr3 : ∀ b ∈ fp, upd H2 s2.heap.objs.size (.lst []) b = none := fun b hb => by
    obtain ⟨o, e, _⟩ := T.obj _ _ st2 b hb
    rw [upd_ne (Nat.ne_of_lt (Heap.lt_size e))]; exact (f2 b hb).1
  have st3 : tn 0 h₁ := T.keep _ _ _ st2 fun b _ o e => k1 b o e
  have loop : codeAny (model X.prog X.w) X.A (.compLoop (.ListComp elt [⟨tg, iter, [], 0⟩] scope pos) 0 (.ref it) (.ref s2.heap.objs.size) (compEnvC scope cl (s2.heap.objs.size + 1) X.env))
      (compPost (model X.prog X.w) X.A X.xe use Qf (.ref s2.heap.objs.size) (s2.heap.objs.size + 1)) { s2 with heap := h₁, toks := s2.toks + ([] : List (Str × Value)).length } := by
    refine lc_loop (Q := Q) hc (hg _ _ _ _) (he _ _ _ _) T hfpB hW (fun s' H' I' q => ?_) I3 st3 hfr3 w0
    have un := I'.base
    have ns := I'.loc
    have fC : H' (s2.heap.objs.size + 1) = none := I'.free
    have I4 : Inv X pins σ H' s' := I2.call' I'.os un I'.hok I'.bare fun b hb => by
      obtain ⟨f0, f1, f3, f4, f5, f6⟩ := f2 b hb
      exact ⟨f4, f1, f5, f6⟩
    obtain ⟨m, hm, _⟩ := ns
    have hm' : s'.heap.Ns (s2.heap.objs.size + 1) m := hm
    refine fin _ _ s' H' I4 q ⟨m, hm'⟩ (I2.fpOk (Nat.le_succ _) fC) ?_
    obtain ⟨o, es, ep, e, d, _⟩ := hm'
    exact ⟨o, e, fun v z => by rw [d] at z; cases z⟩
  exact codeAny_compStart_list loop (T.self _ _ _ _ _ st3 loop)
theorem pe_lc {tg elt iter : Expr} {pos : Pos} {wi : TI} {g : TG} {te : TE} (B : X.Ok → BlkOk X scope cl N' nt ci) (hc : X.calm = true) (hi : PI X tg iter wi)
    (hg : ∀ s H C ex, PG (blk X N' scope cl s H C ex) tg g) (he : ∀ s H C ex, PE (blk X N' scope cl s H C ex) elt te) (hs : ∀ x, foldedSetIterable iter X.env x = pure x := by intro _; rfl) :
    PE X (.ListComp elt [⟨tg, iter, [], 0⟩] scope pos) (tLC X.K nt ci wi g te) := by
  intro pins s σ H Q I h
  rw [eval_ListComp]
  refine lc_core (B I.ok) hc hi hg he hs I h fun acc C s' H' I' q hm hf ho => ?_
  obtain ⟨m, hm⟩ := hm
  obtain ⟨f0, f1, f2, f3, f4, f5⟩ := hf
  exact ⟨m, hm, fun h' sb => ⟨.ref acc, H', I'.turned (t' := s'.toks) (fun b o hb e => (sb.2 b hb).trans e) f0 f1 f3 f4 f5, rfl, q⟩⟩
theorem ps_setLC {i : Nat} {x : Str} {tg elt iter : Expr} {pos spos pos' : Pos} {wi : TI} {g : TG} {te : TE} (hN : X.N.Nodup) (hi : X.N[i]? = some x) (hx : Loc X.env.scope x) (B : X.Ok → BlkOk X scope cl N' nt ci) (hc : X.calm = true) (hit : PI X tg iter wi)
    (hg : ∀ s H C ex, PG (blk X N' scope cl s H C ex) tg g) (he : ∀ s H C ex, PE (blk X N' scope cl s H C ex) elt te) (hsw : swapsWith (.ListComp elt [⟨tg, iter, [], 0⟩] scope pos) (some (.Name x pos')) spos.line X.env = pure true)
    (hs : ∀ x, foldedSetIterable iter X.env x = pure x := by intro _; rfl) (hf : X.fn x = true ∨ X.env.scope.names.lookup x = some .local := by first | exact .inl rfl | exact .inr rfl | assumption) :
    PS X (.Assign [.Name x pos'] (.ListComp elt [⟨tg, iter, [], 0⟩] scope pos) spos) (tAsg (tLC X.K nt ci wi g te) (gName i)) := by
  intro pins s σ H D I h
  rw [exec_Assign_Name_used _ _ _ _ hsw]
  refine wpAny_bind (wpAny_standAt (wpAny_bind ?_))
  rw [arm_evalThenUse_ListComp]
  refine wpAny_bind (lc_core (B I.ok) hc hit hg he hs I h fun acc C s' H' I' q hm hfC ho => ?_)
  obtain ⟨f0, f1, f2, f3, f4, f5⟩ := hfC
  obtain ⟨m, hm⟩ := hm
  obtain ⟨o, e, d⟩ := ho
  have Ip : Inv X (pins ++ [(C, o)]) σ H' s' := I'.pins_of fun p hp => (List.mem_append.mp hp).elim (fun z => I'.pin p (List.mem_append_right _ z)) fun z => by
    have e' : p = (C, o) := by simpa using z
    subst e'
    exact ⟨e, f0, f1, f2, d⟩
  refine wpAny_assign_Name (store_ok Ip hN hi hx (show RelV (.ref acc) (Value.ref acc) from rfl) (fun s2 I2 => ?_) hf)
  have e2 := (I2.pin (C, o) (List.mem_append_right _ (List.mem_append_right _ (by simp)))).1
  obtain ⟨o', es, ep, h1, h2, h3⟩ := hm
  rw [e] at h1; cases h1
  refine ⟨m, ⟨o, es, ep, e2, h2, h3⟩, fun h' sb => wpAny_pure (wpAny_pure ?_)⟩
  have I3 : Inv X pins (σ.set i (some (.ref acc))) H' s2 := I2.unpinned
  exact ⟨_, H', I3.turned (t' := s2.toks) (fun b o hb e => (sb.2 b hb).trans e) f0 f1 f3 f4 f5, q⟩
end
end L2
set_option Elab.async false
set_option linter.all false
set_option maxRecDepth 100000
set_option maxHeartbeats 2000000
namespace L2
open PySem PySem.Spec PyProof.Rows
def Itz (K : PySem.W.Frag) (a b : Addr) : It :=
  ⟨fun i H => ∃ xs ys x y, SqL K H a xs ∧ SqL K H b ys ∧ xs[i]? = some x ∧ ys[i]? = some y,
   fun i H v H' => ∃ T x y, v = .ref T ∧ H T = none ∧ H' = upd H T (.tup [x, y]) ∧ (∀ xs, SqL K H a xs → xs[i]? = some x) ∧ ∀ ys, SqL K H b ys → ys[i]? = some y,
   fun i H => ∃ xs ys, SqL K H a xs ∧ SqL K H b ys ∧ (xs.length ≤ i ∨ ys.length ≤ i)⟩
def zipSt (z TI TO i1 i2 l1 l2 : Addr) (i : Nat) (h : Heap) : Prop :=
  IsZip h z TI TO .none ∧ IsPair h TI (.ref i1) (.ref i2) ∧ (∃ a b, IsPair h TO a b) ∧ h.IsListIter i1 l1 i ∧ h.IsListIter i2 l2 i
theorem turn_zip {P : Program} {w : World} {K : PySem.W.Frag} {elts : List Expr} {k0 : Nat} {tpos : Pos} (z TI TO i1 i2 l1 l2 : Addr) (D : ZipApart z TI TO i1 i2 l1 l2) :
    Turn P w K (.Tuple elts k0 tpos) (Itz K l1 l2) [z, TI, TO, i1, i2] z (zipSt z TI TO i1 i2 l1 l2) where
  mem := by simp
  obj := fun i h st b hb => by
    obtain ⟨hz, hTI, ⟨a, c, hTO⟩, ⟨o1, e1, c1, d1⟩, ⟨o2, e2, c2, d2⟩⟩ := st
    simp only [List.mem_cons, List.not_mem_nil, or_false] at hb
    rcases hb with rfl | rfl | rfl | rfl | rfl
    · exact ⟨_, hz, fun v q => by cases q⟩
    · exact ⟨_, hTI, fun v q => by cases q⟩
    · exact ⟨_, hTO, fun v q => by cases q⟩
    · exact ⟨o1, e1, fun v q => by rw [d1] at q; cases q⟩
    · exact ⟨o2, e2, fun v q => by rw [d2] at q; cases q⟩
  keep := fun i h h' st k => by
    obtain ⟨hz, hTI, ⟨a, c, hTO⟩, h1, h2⟩ := st
    exact ⟨k z (by simp) _ hz, k TI (by simp) _ hTI, ⟨a, c, k TO (by simp) _ hTO⟩, h1.at fun o e => k i1 (by simp) o e, h2.at fun o e => k i2 (by simp) o e⟩
  item := by
    intro X hP hw hK hc i pins s σ H E I hf st hg
    subst hP hw hK
    obtain ⟨hz, hTI, ⟨a, c, hTO⟩, h1, h2⟩ := st
    obtain ⟨xs, ys, x, y, q1, q2, hx, hy⟩ := hg
    obtain ⟨its1, rv1, p1, _⟩ := I.list q1
    obtain ⟨its2, rv2, p2, _⟩ := I.list q2
    obtain ⟨u1, hu1, ru1⟩ := rv1.get hx
    obtain ⟨u2, hu2, ru2⟩ := rv2.get hy
    refine wpAny_pyNext_zip_item D hz hTI hTO h1 h2 p1.isList p2.isList (x := u1) (y := u2) (by simpa using hu1) (by simpa using hu2) fun h' a1 a2 a3 a4 a5 a6 kk => ?_
    have hT : H s.heap.objs.size = none := I.hok.fresh (Nat.le_refl _)
    have nch : ∀ b u, H b = some u → b ∉ [z, TO, i1, i2] := fun b u e hb => by
      have hb' : b ∈ [z, TI, TO, i1, i2] := by
        simp only [List.mem_cons, List.not_mem_nil, or_false] at hb ⊢
        rcases hb with q | q | q | q
        · exact .inl q
        · exact .inr (.inr (.inl q))
        · exact .inr (.inr (.inr (.inl q)))
        · exact .inr (.inr (.inr (.inr q)))
      rw [(hf b hb').1] at e; cases e
    have kk' : ∀ b o, b ∉ [z, TO, i1, i2] → s.heap.get? b = some o → h'.get? b = some o := fun b o hb e => by
      simp only [List.mem_cons, List.not_mem_nil, or_false, not_or] at hb
      exact kk b o hb.1 hb.2.1 hb.2.2.1 hb.2.2.2 e
    have ltT : ∀ b o, s.heap.get? b = some o → b ≠ s.heap.objs.size := fun b o e => Nat.ne_of_lt (Heap.lt_size e)
    have hokT : HOk X.prog X.w (upd H s.heap.objs.size (.tup [x, y])) h' := fun b ob e => by
      by_cases hb : b = s.heap.objs.size
      · subst hb
        rw [upd_same] at e
        cases e
        exact ⟨by show 2 ≤ sizeLine; decide, [u1, u2], .cons ru1 (.cons ru2 .nil), _, a5, rfl, _, rfl⟩
      · rw [upd_ne hb] at e
        refine (I.hok b ob e).stay (fun c v hcv q => kk' c v ?_ q) (fun c q => by rw [upd_ne (ne_of_none q hT)]; exact q) fun c xs q => by rw [upd_ne (ne_of_none q hT)]; exact q
        rcases hcv with rfl | hcv
        · exact nch _ _ e
        · exact nch _ _ hcv
    have I1 : Inv X pins σ (upd H s.heap.objs.size (.tup [x, y])) { s with heap := h' } := by
      refine I.step (g' := s.gens) (d' := s.drawn) (t' := s.toks) (ch := [z, TO, i1, i2]) (fun b hb => ?_) (fun b o _ _ hb e _ => kk' b o hb e) (fun b o _ _ hb e _ => ⟨o.slots, kk' b o hb e⟩) (fun b o _ e n => by rw [upd_ne (ltT b o e)]; exact n) (fun b o hb e => ⟨o, kk' b o hb e⟩)
        (fun b xs q => by rw [upd_ne (ne_of_none q hT)]; exact q) (fun b o u q => by rw [upd_ne (ne_of_none q hT)]; exact q) (fun b ps q => ⟨#[], by rw [upd_ne (ne_of_none q hT), q]; simp⟩) (fun m hm => ?_) hokT I.bare
      · have hb' : b ∈ [z, TI, TO, i1, i2] := by
          simp only [List.mem_cons, List.not_mem_nil, or_false] at hb ⊢
          rcases hb with q | q | q | q
          · exact .inl q
          · exact .inr (.inr (.inl q))
          · exact .inr (.inr (.inr (.inl q)))
          · exact .inr (.inr (.inr (.inr q)))
        obtain ⟨f0, f1, f2, f3, f4, f5⟩ := hf b hb'
        exact ⟨f3, f1, f4, f5⟩
      · obtain ⟨o, es, ep, ho, r⟩ := hm
        refine ⟨o, es, ep, kk' _ o ?_ ho, r⟩
        simp only [List.mem_cons, List.not_mem_nil, or_false, not_or]
        exact ⟨((hf z (by simp)).2.1).symm, ((hf TO (by simp)).2.1).symm, ((hf i1 (by simp)).2.1).symm, ((hf i2 (by simp)).2.1).symm⟩
    refine ⟨_, rfl, wpAny_letOwnedTupleGo_zip a1 fun h'' hz'' sb => ?_⟩
    obtain ⟨f0, f1, f2, f3, f4, f5⟩ := hf z (by simp)
    have ltz : ∀ b ∈ [z, TI, TO, i1, i2], b ≠ s.heap.objs.size := fun b hb => by
      simp only [List.mem_cons, List.not_mem_nil, or_false] at hb
      obtain ⟨o1, e1, _⟩ := h1
      obtain ⟨o2, e2, _⟩ := h2
      rcases hb with rfl | rfl | rfl | rfl | rfl
      · exact ltT _ _ hz
      · exact ltT _ _ hTI
      · exact ltT _ _ hTO
      · exact ltT _ _ e1
      · exact ltT _ _ e2
    have fn : ∀ b ∈ [z, TI, TO, i1, i2], upd H s.heap.objs.size (.tup [x, y]) b = none := fun b hb => by rw [upd_ne (ltz b hb)]; exact (hf b hb).1
    have I2 : Inv X pins σ (upd H s.heap.objs.size (.tup [x, y])) { s with heap := h'' } := I1.turned (t' := s.toks) (fun b o hb e => (sb.2 b hb).trans e) (fn z (by simp)) f1 f3 f4 f5
    refine ⟨.ref s.heap.objs.size, _, I2, rfl, ⟨_, x, y, rfl, hT, rfl, fun ys hy' => by rw [I.list_inj hy' q1]; exact hx, fun ys hy' => by rw [I.list_inj hy' q2]; exact hy⟩, ⟨hz'', ?_, ⟨u1, u2, ?_⟩, ?_, ?_⟩, fn⟩
    · exact (sb.2 TI D.TIz).trans (kk' TI _ (by simp only [List.mem_cons, List.not_mem_nil, or_false, not_or]; exact ⟨D.TIz, D.TITO, D.TIi1, D.TIi2⟩) hTI)
    · exact (sb.2 TO D.TOz).trans a2
    · exact a3.extBut sb.extBut D.i1z
    · exact a4.extBut sb.extBut D.i2z
  done := by
    intro X hP hw hK hc i pins s σ H E I hf st hg
    subst hP hw hK
    obtain ⟨hz, hTI, ⟨a, c, hTO⟩, h1, h2⟩ := st
    obtain ⟨xs, ys, q1, q2, hend⟩ := hg
    obtain ⟨its1, rv1, p1, _⟩ := I.list q1
    obtain ⟨its2, rv2, p2, _⟩ := I.list q2
    have e1 := rv1.length
    have e2 := rv2.length
    refine wpAny_pyNext_zip_end (I.ok.hd hc) D hz hTI hTO h1 h2 p1.isList p2.isList ?_ fun h' kk => ⟨rfl, ?_⟩
    · rcases hend with q | q
      · exact .inl (by simp; omega)
      · exact .inr (by simp; omega)
    · have nch : ∀ b u, H b = some u → b ∉ [z, TO, i1, i2] := fun b u e hb => by
        have hb' : b ∈ [z, TI, TO, i1, i2] := by
          simp only [List.mem_cons, List.not_mem_nil, or_false] at hb ⊢
          rcases hb with q | q | q | q
          · exact .inl q
          · exact .inr (.inr (.inl q))
          · exact .inr (.inr (.inr (.inl q)))
          · exact .inr (.inr (.inr (.inr q)))
        rw [(hf b hb').1] at e; cases e
      have kk' : ∀ b o, b ∉ [z, TO, i1, i2] → s.heap.get? b = some o → h'.get? b = some o := fun b o hb e => by
        simp only [List.mem_cons, List.not_mem_nil, or_false, not_or] at hb
        exact kk b o hb.1 hb.2.1 hb.2.2.1 hb.2.2.2 e
      have hok' : HOk X.prog X.w H h' := fun b ob e => by
        refine (I.hok b ob e).stay (fun c v hcv q => kk' c v ?_ q) (fun c q => q) fun c xs q => q
        rcases hcv with rfl | hcv
        · exact nch _ _ e
        · exact nch _ _ hcv
      refine I.step (g' := s.gens) (d' := s.drawn) (t' := s.toks) (ch := [z, TO, i1, i2]) (fun b hb => ?_) (fun b o _ _ hb e _ => kk' b o hb e) (fun b o _ _ hb e _ => ⟨o.slots, kk' b o hb e⟩) (fun b o _ e n => n) (fun b o _ e => ?_)
        (fun b xs q => q) (fun b o u q => q) (fun b ps q => ⟨#[], by rw [q]; simp⟩) (fun m hm => ?_) hok' I.bare
      · have hb' : b ∈ [z, TI, TO, i1, i2] := by
          simp only [List.mem_cons, List.not_mem_nil, or_false] at hb ⊢
          rcases hb with q | q | q | q
          · exact .inl q
          · exact .inr (.inr (.inl q))
          · exact .inr (.inr (.inr (.inl q)))
          · exact .inr (.inr (.inr (.inr q)))
        obtain ⟨f0, f1, f2, f3, f4, f5⟩ := hf b hb'
        exact ⟨f3, f1, f4, f5⟩
      · rename_i hb
        exact ⟨o, kk' b o hb e⟩
      · obtain ⟨o, es, ep, ho, r⟩ := hm
        refine ⟨o, es, ep, kk' _ o ?_ ho, r⟩
        simp only [List.mem_cons, List.not_mem_nil, or_false, not_or]
        exact ⟨((hf z (by simp)).2.1).symm, ((hf TO (by simp)).2.1).symm, ((hf i1 (by simp)).2.1).symm, ((hf i2 (by simp)).2.1).symm⟩
  self := fun _ _ _ _ _ st h => wpAny_pyIter_zip st.1 h
section
variable {X : Cx}
def iZip (K : PySem.W.Frag) (ta : TA) : TI := fun σ H R => ta σ H fun vs H1 => ∃ a b, vs = [.ref a, .ref b] ∧ (∃ xs, SqL K H1 a xs) ∧ (∃ ys, SqL K H1 b ys) ∧ R (Itz K a b) H1
theorem pi_zip {a b : Expr} {ta : TA} {p pos : Pos} {elts : List Expr} {k0 : Nat} {tpos : Pos} (hg : Gl X "zip") (hm : X.mg "zip" = none) (ha : PA X [a, b] ta) (hs : starEach [a, b] X.env = [(false, eval a X.env), (false, eval b X.env)] := by rfl) (hs2 : starEach [b] X.env = [(false, eval b X.env)] := by rfl) :
    PI X (.Tuple elts k0 tpos) (.Call (.Name "zip" p) [a, b] [] pos) (iZip X.K ta) := by
  intro pins s σ H R I h
  refine Call_ (ld_blt I hg hm (by first | exact PySem.boot_zip | rfl) (PyProof.Rows.callWith_type1 (thn (ha pos pins s σ H _ I h) fun us s1 ⟨vs, H1, I1, r1, q1⟩ => ?_) (by rw [hs, hs2]) (by rw [hs2]; rfl)))
  obtain ⟨l1, l2, e, ⟨xs, q1⟩, ⟨ys, q2⟩, q⟩ := q1
  subst e
  obtain ⟨u1, u2, rfl, ru1, ru2⟩ := vals2 r1
  cases ru1
  cases ru2
  obtain ⟨its1, rv1, p1, _⟩ := I1.list q1
  obtain ⟨its2, rv2, p2, _⟩ := I1.list q2
  have a1 : l1 < s1.heap.objs.size := by obtain ⟨_, e, _⟩ := p1.isList; exact Heap.lt_size e
  have a2 : l2 < s1.heap.objs.size := by obtain ⟨_, e, _⟩ := p2.isList; exact Heap.lt_size e
  refine call_zip_2 p1.isList p2.isList fun h' hz hTI hTO hi1 hi2 _ hk => wpAny_pyIter_zip hz ?_
  have I2 : Inv X pins σ H1 { s1 with heap := h' } := I1.kept (t' := s1.toks) hk
  refine ⟨_, _, _, _, H1, rfl, I2, turn_zip _ _ _ _ _ l1 l2 (zipApart_new a1 a2), ⟨hz, hTI, ⟨_, _, hTO⟩, hi1, hi2⟩, fun b hb => ?_, q⟩
  have hb' : s1.heap.objs.size ≤ b := by
    simp only [List.mem_cons, List.not_mem_nil, or_false] at hb
    rcases hb with rfl | rfl | rfl | rfl | rfl <;> omega
  exact I1.fpOk hb' (I1.hok.fresh hb')
end
end L2
set_option Elab.async false
set_option linter.all false
set_option maxRecDepth 100000
set_option maxHeartbeats 2000000
namespace PySem
open Sem (wp)
namespace F
end F
section
variable {prog : Program} {w : World} {A : Around} {E : Value → Shared → Prop} {s : Shared}
end
end PySem
namespace L2
open PySem PySem.Spec PyProof.Rows
section
variable {X : Cx}
def rRevd (K : PySem.W.Frag) : List V → Hp → VK → Prop := fun vs H Q => ∃ a xs, vs = [.ref a] ∧ SqL K H a xs ∧ xs.length ≤ 8000000 ∧ ∀ p, H p = none → Q (.ref p) (upd H p (.lst xs.reverse))
end
end L2
set_option Elab.async false
set_option linter.all false
set_option maxRecDepth 100000
set_option maxHeartbeats 2000000
namespace L2
open PySem PySem.Spec PyProof.Rows
structure KDict (K : PySem.W.Frag) (w : World) (a : Addr) (kvs : List (Str × V)) : Prop where
  ex : ∃ (o : Obj) (es : Array DictEntry) (ep : Nat), K.lookup a = some o ∧ o.ExactDict ∧ o.data = .dict es ep ∧ Paired (fun (p : Str × V) (e : DictEntry) => (∃ tk, e.key = .str p.1 tk) ∧ e.hash = PyData.keyHash w.params p.1 ∧ RelV p.2 e.val) kvs es.toList
  nd : (kvs.map (·.1)).Nodup
  ns : (a == sysModules) = false
def kvK (kvs : List (Str × V)) : List (Key × V) := kvs.map fun p => (Sum.inr p.1, p.2)
section
variable {X : Cx} {pins : List (Addr × Obj)} {σ : St} {H : Hp} {s : Shared} {a : Addr} {kvs : List (Str × V)}
theorem kd_pairs {P : Program} {w : World} : ∀ {kvs : List (Str × V)} {es : List DictEntry}, Paired (fun (p : Str × V) (e : DictEntry) => (∃ tk, e.key = .str p.1 tk) ∧ e.hash = PyData.keyHash w.params p.1 ∧ RelV p.2 e.val) kvs es →
    (∀ e ∈ es, ∃ k, (mixKind P w).is k e.key = true ∧ e.hash = (mixKind P w).hash k) ∧ Pairs (mixKind P w) es (List.zip (kvs.map fun p => (Sum.inr p.1 : Key)) (es.map (·.val))) ∧ KV (kvK kvs) (List.zip (kvs.map fun p => (Sum.inr p.1 : Key)) (es.map (·.val)))
  | [], _, r => by cases r; exact ⟨(fun _ h => (nomatch h)), .nil, .nil⟩
  | p :: kvs, _, r => by
    cases r with
    | @cons _ e _ es h t =>
      obtain ⟨⟨tk, h1⟩, h2, h3⟩ := h
      obtain ⟨q1, q2, q3⟩ := kd_pairs (P := P) t
      have hi : (mixKind P w).is (Sum.inr p.1) e.key = true := by rw [h1]; exact mixKind_str P w p.1 tk
      refine ⟨fun e' he => ?_, .cons hi rfl q2, .cons ⟨rfl, h3⟩ q3⟩
      rcases List.mem_cons.mp he with rfl | he
      · exact ⟨Sum.inr p.1, hi, h2⟩
      · exact q1 e' he
theorem KDict.of (D : KDict X.K X.w a kvs) (I : Inv X pins σ H s) : ∃ vs, KV (kvK kvs) vs ∧ s.heap.DictOf (mixKind X.prog X.w) a vs := by
  obtain ⟨o, es, ep, lk, ex, d, pr⟩ := D.ex
  obtain ⟨q1, q2, q3⟩ := kd_pairs (P := X.prog) pr
  refine ⟨_, q3, o, es, ep, I.kIn a o lk, ex, d, fun e he => q1 e (by simpa using he), q2, ?_⟩
  have e : (List.zip (kvs.map fun p => (Sum.inr p.1 : Key)) (es.toList.map (·.val))).map (·.1) = kvs.map fun p => (Sum.inr p.1 : Key) := by
    rw [List.map_fst_zip]
    have := Paired.length pr
    simp only [List.length_map]; omega
  rw [e]
  have inj : ∀ l : List (Str × V), (l.map (·.1)).Nodup → (l.map fun p => (Sum.inr p.1 : Key)).Nodup := by
    intro l
    induction l with
    | nil => intro _; exact List.nodup_nil
    | cons p r ih =>
      intro h
      rw [List.map_cons, List.nodup_cons] at h
      rw [List.map_cons, List.nodup_cons]
      refine ⟨fun m => h.1 ?_, ih h.2⟩
      obtain ⟨q, hq, eq⟩ := List.mem_map.mp m
      exact List.mem_map.mpr ⟨q, hq, Sum.inr.inj eq⟩
  exact inj kvs D.nd
def tKD (kvs : List (Str × V)) (ti : TE) : TE := fun σ H Q => ti σ H fun y H1 => ∃ x v, y = .str x ∧ kvs.lookup x = some v ∧ Q v H1
def tKNotIn (kvs : List (Str × V)) (ti : TE) : TE := fun σ H Q => ti σ H fun y H1 => ∃ x, y = .str x ∧ Q (.bl (!(kvs.lookup x).isSome)) H1
end
end L2
set_option Elab.async false
set_option linter.all false
set_option maxRecDepth 100000
set_option maxHeartbeats 2000000
namespace L2
open PySem PySem.Spec PyProof.Rows
section
variable {X : Cx} {scope : Scope} {N' : List Str}
theorem relabel_nofree {scope : Scope} {env : Env} (h : ∀ y ∈ scope.names, y.2 ≠ .free) : (relabel scope env).names = scope.names := by
  unfold relabel
  simp only
  have aux : ∀ l : List (Str × NameKind), (∀ y ∈ l, y.2 ≠ .free) → l.map (fun (n, k) => if (k == NameKind.free && env.scope.kind == .function && env.kindOf n == some .cell) then (n, NameKind.cell) else (n, k)) = l := by
    intro l
    induction l with
    | nil => intro _; rfl
    | cons y r ih =>
      intro h
      rw [List.map_cons, ih fun z hz => h z (List.mem_cons_of_mem _ hz)]
      obtain ⟨n, k⟩ := y
      have : (k == NameKind.free) = false := by simpa using h (n, k) List.mem_cons_self
      simp [this]
  exact aux _ h
theorem blk0 (hc : ∀ y ∈ scope.names, y.2 ≠ .cell) (hf : ∀ y ∈ scope.names, y.2 ≠ .free) (hk : scope.kind = .function) (hn : ∀ y ∈ scope.names, y.2 = .local → scope.names.lookup y.1 = some .local) (_ : X.Ok) : BlkOk X scope [] N' N'.length [] where
  clos := closureFor_none hf
  cell := hc
  kind := hk
  names := hn
  sub := fun _ _ h => by cases h
  has := fun x h => by
    rw [relabel_nofree hf] at h
    rcases h with h | h
    · exact absurd rfl (hc _ (PySem.mem_of_lookup h))
    · exact absurd rfl (hf _ (PySem.mem_of_lookup h))
  len := by simp
  cap := fun j i h => by simp at h
def closL (cells : List (Str × Addr)) : List (Str × NameKind) → List (Str × Addr) → List (Str × Addr)
  | [], acc => acc
  | (n, k) :: r, acc => if k == .free then closL cells r ((n, (cells.lookup n).getD 0) :: acc) else closL cells r acc
theorem closL_eq {env : Env} : ∀ (names : List (Str × NameKind)) (acc : List (Str × Addr)), (∀ y ∈ names, y.2 = .free → ∃ c, env.cells.lookup y.1 = some c) →
    (forIn names acc fun (x : Str × NameKind) cs => (match x with | (name, kind) => if (kind == .free) = true then do let c ← cellOf env name; pure (ForInStep.yield ((name, c) :: cs)) else pure (ForInStep.yield cs) : Sem (ForInStep (List (Str × Addr))))) = pure (closL env.cells names acc)
  | [], acc, _ => rfl
  | (n, k) :: r, acc, h => by
    rw [List.forIn_cons]
    unfold closL
    by_cases hk : (k == NameKind.free) = true
    · obtain ⟨c, hc⟩ := h (n, k) List.mem_cons_self (by simpa using hk)
      have e : cellOf env n = pure c := by unfold cellOf; rw [show env.cells.lookup n = some c from hc]
      have hc' : env.cells.lookup n = some c := hc
      simp only [hk, if_true, e, pure_bind, hc', Option.getD_some]
      exact closL_eq r _ fun y hy => h y (List.mem_cons_of_mem _ hy)
    · simp only [hk, if_false, pure_bind]
      exact closL_eq r acc fun y hy => h y (List.mem_cons_of_mem _ hy)
theorem closureFor_eq {scope : Scope} {env : Env} (h : ∀ y ∈ scope.names, y.2 = .free → ∃ c, env.cells.lookup y.1 = some c) : closureFor scope env = pure (closL env.cells scope.names []) := by
  unfold closureFor
  have e := closL_eq (env := env) scope.names [] h
  simp only [bind_pure_comp] at e ⊢
  first
    | exact e
    | (rw [e]; rfl)
    | (refine Eq.trans ?_ e; rfl)
theorem closL_mem {cells : List (Str × Addr)} : ∀ {names : List (Str × NameKind)} {acc : List (Str × Addr)} {x : Str} {c : Addr}, (x, c) ∈ closL cells names acc → (x, c) ∈ acc ∨ ((x, NameKind.free) ∈ names ∧ c = (cells.lookup x).getD 0)
  | [], acc, x, c, h => .inl h
  | (n, k) :: r, acc, x, c, h => by
    unfold closL at h
    by_cases hk : (k == NameKind.free) = true
    · rw [if_pos hk] at h
      have hk' : k = .free := by simpa using hk
      rcases closL_mem h with h | ⟨h1, h2⟩
      · rcases List.mem_cons.mp h with e | h
        · cases e
          subst hk'
          exact .inr ⟨List.mem_cons_self, rfl⟩
        · exact .inl h
      · exact .inr ⟨List.mem_cons_of_mem _ h1, h2⟩
    · rw [if_neg hk] at h
      rcases closL_mem h with h | ⟨h1, h2⟩
      · exact .inl h
      · exact .inr ⟨List.mem_cons_of_mem _ h1, h2⟩
theorem closL_has {cells : List (Str × Addr)} : ∀ {names : List (Str × NameKind)} {acc : List (Str × Addr)} {x : Str}, (x, NameKind.free) ∈ names ∨ (∃ c, (x, c) ∈ acc) → ∃ c, (x, c) ∈ closL cells names acc
  | [], acc, x, h => by
    rcases h with h | h
    · cases h
    · exact h
  | (n, k) :: r, acc, x, h => by
    unfold closL
    by_cases hk : (k == NameKind.free) = true
    · rw [if_pos hk]
      refine closL_has ?_
      rcases h with h | ⟨c, h⟩
      · rcases List.mem_cons.mp h with e | h
        · cases e
          exact .inr ⟨_, List.mem_cons_self⟩
        · exact .inl h
      · exact .inr ⟨c, List.mem_cons_of_mem _ h⟩
    · rw [if_neg hk]
      refine closL_has ?_
      rcases h with h | h
      · rcases List.mem_cons.mp h with e | h
        · cases e
          exact absurd (beq_self_eq_true NameKind.free) hk
        · exact .inl h
      · exact .inr h
theorem lookup_of_mem {l : List (Str × Addr)} {x : Str} {c : Addr} (h : (x, c) ∈ l) : ∃ c', l.lookup x = some c' := by
  induction l with
  | nil => cases h
  | cons p r ih =>
    obtain ⟨n, a⟩ := p
    by_cases e : (x == n) = true
    · exact ⟨a, by simp [List.lookup_cons, e]⟩
    · have e' : (x == n) = false := by simpa using e
      rcases List.mem_cons.mp h with h | h
      · cases h; simp at e
      · obtain ⟨c', q⟩ := ih h
        exact ⟨c', by simp only [List.lookup_cons, e']; exact q⟩
theorem relabel_free {env : Env} : ∀ {names : List (Str × NameKind)} {x : Str} {k : NameKind}, (names.map fun (n, k) => if (k == NameKind.free && env.scope.kind == .function && env.kindOf n == some .cell) then (n, NameKind.cell) else (n, k)).lookup x = some k → (k = .cell ∨ k = .free) → (∀ y ∈ names, y.2 ≠ .cell) → (x, NameKind.free) ∈ names
  | [], x, k, h, _, _ => by cases h
  | (n, j) :: r, x, k, h, hk, hc => by
    rw [List.map_cons] at h
    by_cases e : (x == n) = true
    · have e' : x = n := by simpa using e
      subst e'
      have hj : j ≠ .cell := hc (x, j) List.mem_cons_self
      by_cases q : (j == NameKind.free && env.scope.kind == .function && env.kindOf x == some .cell) = true
      · have : j = .free := by
          rw [Bool.and_eq_true, Bool.and_eq_true] at q
          simpa using q.1.1
        subst this
        exact List.mem_cons_self
      · simp only [q, if_false, List.lookup_cons, beq_self_eq_true] at h
        have h' : j = k := by simpa using h
        subst h'
        rcases hk with z | z
        · exact absurd z hj
        · subst z; exact List.mem_cons_self
    · have e' : (x == n) = false := by simpa using e
      refine List.mem_cons_of_mem _ (relabel_free (env := env) (k := k) ?_ hk fun y hy => hc y (List.mem_cons_of_mem _ hy))
      have h' : List.lookup x ((if (j == NameKind.free && env.scope.kind == .function && env.kindOf n == some .cell) = true then (n, NameKind.cell) else (n, j)) :: _) = some k := h
      by_cases q : (j == NameKind.free && env.scope.kind == .function && env.kindOf n == some .cell) = true
      · rw [if_pos q, List.lookup_cons, e'] at h'; exact h'
      · rw [if_neg q, List.lookup_cons, e'] at h'; exact h'
theorem relabel_cell {env : Env} {x : Str} (h1 : env.scope.kind = .function) (h2 : env.kindOf x = some .cell) : ∀ {names : List (Str × NameKind)}, names.lookup x = some .free → (names.map fun (n, k) => if (k == NameKind.free && env.scope.kind == .function && env.kindOf n == some .cell) then (n, NameKind.cell) else (n, k)).lookup x = some .cell
  | [], h => by cases h
  | (n, j) :: r, h => by
    rw [List.map_cons]
    by_cases e : (x == n) = true
    · have e' : x = n := by simpa using e
      subst e'
      simp only [List.lookup_cons, beq_self_eq_true] at h
      have hj : j = .free := by simpa using h
      subst hj
      have q : ((NameKind.free == NameKind.free) && env.scope.kind == .function && env.kindOf x == some .cell) = true := by rw [h1, h2]; rfl
      show List.lookup x ((if ((NameKind.free == NameKind.free) && env.scope.kind == .function && env.kindOf x == some .cell) = true then (x, NameKind.cell) else (x, NameKind.free)) :: _) = _
      rw [if_pos q, List.lookup_cons, beq_self_eq_true]
    · have e' : (x == n) = false := by simpa using e
      simp only [List.lookup_cons, e'] at h
      by_cases q : (j == NameKind.free && env.scope.kind == .function && env.kindOf n == some .cell) = true
      · show List.lookup x ((if (j == NameKind.free && env.scope.kind == .function && env.kindOf n == some .cell) = true then (n, NameKind.cell) else (n, j)) :: _) = _
        rw [if_pos q, List.lookup_cons, e']; exact relabel_cell h1 h2 h
      · show List.lookup x ((if (j == NameKind.free && env.scope.kind == .function && env.kindOf n == some .cell) = true then (n, NameKind.cell) else (n, j)) :: _) = _
        rw [if_neg q, List.lookup_cons, e']; exact relabel_cell h1 h2 h
def capOk (N' : List Str) (nt : Nat) (ci : List Nat) (Xn : List Str) (fsc scope : Scope) : Bool :=
  (List.range ci.length).all fun j => match ci[j]?, N'[nt + j]? with
    | some i, some x => Xn[i]? == some x && fsc.names.lookup x == some .cell && scope.names.lookup x == some .free
    | _, _ => false
theorem blkC {nt : Nat} {ci : List Nat} (Xn : List Str) (fsc : Scope) (hN : X.N = Xn) (hs : X.env.scope = fsc) (hc : ∀ y ∈ scope.names, y.2 ≠ .cell) (hk : scope.kind = .function) (hn : ∀ y ∈ scope.names, y.2 = .local → scope.names.lookup y.1 = some .local)
    (hfr : ∀ y ∈ scope.names, y.2 = .free → fsc.names.lookup y.1 = some .cell) (hl : N'.length = nt + ci.length) (cap : capOk N' nt ci Xn fsc scope = true) (ok : X.Ok) : BlkOk X scope (closL X.env.cells scope.names []) N' nt ci := by
  have fr : ∀ y ∈ scope.names, y.2 = .free → ∃ c, X.env.cells.lookup y.1 = some c := fun y hy e => ok.has y.1 (.inl (by show X.env.scope.names.lookup y.1 = _; rw [hs]; exact hfr y hy e))
  have sub : ∀ x c, (closL X.env.cells scope.names []).lookup x = some c → X.env.cells.lookup x = some c := fun x c h => by
    rcases closL_mem (PySem.mem_of_lookup h) with z | ⟨z1, z2⟩
    · cases z
    · obtain ⟨c', e⟩ := fr _ z1 rfl
      rw [show X.env.cells.lookup x = some c' from e] at z2 ⊢
      rw [z2]; rfl
  refine ⟨closureFor_eq fr, hc, hk, hn, sub, fun x h => ?_, hl, fun j i h => ?_⟩
  · have hm : (x, NameKind.free) ∈ scope.names := by
      rcases h with h | h
      · exact relabel_free h (.inl rfl) hc
      · exact relabel_free h (.inr rfl) hc
    obtain ⟨c, q⟩ := closL_has (cells := X.env.cells) (acc := []) (.inl hm)
    exact lookup_of_mem q
  · unfold capOk at cap
    rw [List.all_eq_true] at cap
    have hj : j < ci.length := (List.getElem?_eq_some_iff.mp h).1
    have q := cap j (List.mem_range.mpr hj)
    rw [h] at q
    cases e : N'[nt + j]? with
    | none => rw [e] at q; cases q
    | some x =>
      rw [e] at q
      simp only [Bool.and_eq_true, beq_iff_eq] at q
      refine ⟨x, rfl, by rw [hN]; exact q.1.1, by rw [hs]; exact q.1.2, .inl (relabel_cell ok.kind ?_ q.2)⟩
      show X.env.scope.names.lookup x = _
      rw [hs]; exact q.1.2
end
theorem Same.sqt {K : PySem.W.Frag} {H H' : Hp} {a : Addr} {xs : List V} (e : Same H H') (h : SqT K H a xs) : SqT K H' a xs := by
  rcases h with (h | ⟨o, h⟩) | h
  · exact .inl (.inl (e _ _ h))
  · exact .inl (.inr ⟨o, e _ _ h⟩)
  · exact .inr h
theorem Same.keepT {K : PySem.W.Frag} {H H' : Hp} (e : Same H H') : KeepT K H H' := fun _ _ h => e.sqt h
theorem same_new {H : Hp} {p : Addr} (h : H p = none) (o : HO) : Same H (upd H p o) := fun b u q => by rw [upd_ne (ne_of_none q h)]; exact q
theorem KeepT.trans {K : PySem.W.Frag} {H H1 H2 : Hp} (a : KeepT K H H1) (b : KeepT K H1 H2) : KeepT K H H2 := fun x xs h => b x xs (a x xs h)
theorem KeepT.refl {K : PySem.W.Frag} (H : Hp) : KeepT K H H := fun _ _ h => h
theorem keepT_lst {K : PySem.W.Frag} {H : Hp} {l : Addr} {xs : List V} {o : HO} (h : H l = some (.lst xs)) : KeepT K H (upd H l o) := fun a ys q => by
  rcases q with (q | ⟨ob, q⟩) | q
  · exact .inl (.inl (by rw [upd_ne (ne_of q h (by intro z; cases z))]; exact q))
  · exact .inl (.inr ⟨ob, by rw [upd_ne (ne_of q h (by intro z; cases z))]; exact q⟩)
  · exact .inr q
theorem keepT_new {K : PySem.W.Frag} {H : Hp} {l : Addr} {o : HO} (h : H l = none) : KeepT K H (upd H l o) := (same_new h o).keepT
theorem Same.write {H0 H : Hp} {l : Addr} {o : HO} (e : Same H0 H) (h : H0 l = none) : Same H0 (upd H l o) := fun b u q => by
  rw [upd_ne (ne_of_none q h)]; exact e b u q
theorem sqL_ne {K : PySem.W.Frag} {H : Hp} {l a : Addr} {xs : List V} {o : HO} (q : SqL K H a xs) (h : a ≠ l) : SqL K (upd H l o) a xs := by
  rcases q with (q | ⟨ob, q⟩) | q
  · exact .inl (.inl (by rw [upd_ne h]; exact q))
  · exact .inl (.inr ⟨ob, by rw [upd_ne h]; exact q⟩)
  · exact .inr q
theorem cxOf_K (CX : CXT) (P : Program) (w : World) (K : PySem.W.Frag) (mg : Str → Option Value) (base : Heap) (N : List Str) (qual : Str) (scope : Scope) (f : Addr) (cd : Value) (A : Around) (outer : List Env) (s : Shared) (H : Hp) (E : XK) : (cxOf CX P w K mg base N qual scope f cd A outer s H E).K = K := rfl
theorem blk_K (X : Cx) (N' : List Str) (scope : Scope) (cl : List (Str × Addr)) (s : Shared) (H : Hp) (C : Addr) (ex : List Addr) : (blk X N' scope cl s H C ex).K = X.K := rfl
theorem scal_int (a b : Int) : scal (.int a) (.int b) = true := rfl
theorem scal_str (a b : Str) : scal (.str a) (.str b) = true := rfl
theorem scal_bl (a b : Bool) : scal (.bl a) (.bl b) = true := rfl
theorem mul_left {i j : Int} (h1 : -(2 ^ 64) < i) (h2 : i < 2 ^ 64) : CMul i j := .inl ⟨h1, h2⟩
theorem mul_right {i j : Int} (h1 : -(2 ^ 64) < j) (h2 : j < 2 ^ 64) : CMul i j := .inr ⟨h1, h2⟩
theorem seq_then {t u : TS} {D : Ends} {σ : St} {H : Hp} (R : St → Hp → Prop) (rest : ∀ σ' H', R σ' H' → u D σ' H') (first : ∀ C : St → Hp → Prop, (∀ σ' H', R σ' H' → C σ' H') → t { D with nx := C } σ H) : tSeq t u D σ H := first (u D) rest
theorem lcW_range {K : PySem.W.Frag} {σ0 : St} {n : Nat} {lo : Int} {acc : Addr} {g : TG} {te : TE} {Q : VK} {H : Hp} (Pv : Nat → List V → Hp → Prop) (h0 : Pv 0 [] (upd H acc (.lst []))) (hl : ∀ i ys H2, i ≤ n → Pv i ys H2 → H2 acc = some (.lst ys) ∧ ys.length < sizeLine)
    (hs : ∀ i ys H2, i < n → Pv i ys H2 → ∀ C : VK, (∀ y H5, H5 acc = some (.lst ys) → Pv (i + 1) (ys ++ [y]) (upd H5 acc (.lst (ys ++ [y]))) → C y H5) → g (.int (lo + i)) σ0 H2 fun σ4 H4 => Wk σ0 σ4 ∧ te σ4 H4 C) (hd : ∀ ys H2, Pv n ys H2 → Q (.ref acc) H2) :
    ∃ W : Nat → Nat → List V → Hp → Prop, (∃ m, W 0 m [] (upd H acc (.lst []))) ∧ lcW K σ0 (Itr lo n) acc g te Q W := by
  refine ⟨fun i m ys H2 => m = n - i ∧ i ≤ n ∧ Pv i ys H2, ⟨n, by simp, Nat.zero_le _, h0⟩, ?_⟩
  rintro i m ys H2 ⟨rfl, hi, p⟩
  obtain ⟨a, b⟩ := hl i ys H2 hi p
  refine ⟨a, b, ?_⟩
  by_cases hlt : i < n
  · refine .inr ⟨hlt, fun x H3 y => ?_⟩
    obtain ⟨e, y⟩ := y
    subst e y
    exact hs i ys _ hlt p _ fun v H5 z1 z2 => ⟨z1, n - (i + 1), by omega, rfl, hlt, z2⟩
  · have e : i = n := by omega
    subst e
    exact .inl ⟨Nat.le_refl _, hd ys H2 p⟩
theorem lcW_list {K : PySem.W.Frag} {σ0 : St} {a : Addr} {xs : List V} {acc : Addr} {g : TG} {te : TE} {Q : VK} {H : Hp} (Pv : Nat → List V → Hp → Prop) (h0 : Pv 0 [] (upd H acc (.lst []))) (hl : ∀ i ys H2, i ≤ xs.length → Pv i ys H2 → H2 acc = some (.lst ys) ∧ ys.length < sizeLine ∧ SqL K H2 a xs)
    (hs : ∀ i x ys H2, xs[i]? = some x → Pv i ys H2 → ∀ C : VK, (∀ y H5, H5 acc = some (.lst ys) → Pv (i + 1) (ys ++ [y]) (upd H5 acc (.lst (ys ++ [y]))) → C y H5) → g x σ0 H2 fun σ4 H4 => Wk σ0 σ4 ∧ te σ4 H4 C) (hd : ∀ ys H2, Pv xs.length ys H2 → Q (.ref acc) H2) :
    ∃ W : Nat → Nat → List V → Hp → Prop, (∃ m, W 0 m [] (upd H acc (.lst []))) ∧ lcW K σ0 (Itl K a) acc g te Q W := by
  refine ⟨fun i m ys H2 => m = xs.length - i ∧ i ≤ xs.length ∧ Pv i ys H2, ⟨xs.length, by simp, Nat.zero_le _, h0⟩, ?_⟩
  rintro i m ys H2 ⟨rfl, hi, p⟩
  obtain ⟨e1, e2, q⟩ := hl i ys H2 hi p
  refine ⟨e1, e2, ?_⟩
  by_cases hlt : i < xs.length
  · refine .inr ⟨⟨xs, xs[i], q, by simp [hlt]⟩, fun x H3 y => ?_⟩
    obtain ⟨e, y⟩ := y
    subst e
    exact hs i x ys _ (y xs q) p _ fun v H5 z1 z2 => ⟨z1, xs.length - (i + 1), by omega, rfl, hlt, z2⟩
  · have e : i = xs.length := by omega
    subst e
    exact .inl ⟨⟨xs, q, Nat.le_refl _⟩, hd ys H2 p⟩
theorem cps_append (x y : Str) : (x ++ y).cps.toList = x.cps.toList ++ y.cps.toList := by
  show (x.cps ++ y.cps).toList = _
  simp
theorem len_cps (x : Str) : x.length = x.cps.toList.length := by simp [Str.length]
end L2
set_option Elab.async false
set_option linter.all false
set_option maxRecDepth 100000
set_option maxHeartbeats 2000000
namespace Ken
open PySem L2
theorem boot_len : bootBuiltins "len" = some (.builtin "len") := by decide +kernel
theorem boot_isinstance : bootBuiltins "isinstance" = some (.builtin "isinstance") := by decide +kernel
theorem boot_max : bootBuiltins "max" = some (.builtin "max") := by decide +kernel
theorem boot_sorted : bootBuiltins "sorted" = some (.builtin "sorted") := by decide +kernel
theorem boot_int : bootBuiltins "int" = some (.type "int") := by decide +kernel
theorem boot_bool : bootBuiltins "bool" = some (.type "bool") := by decide +kernel
theorem boot_list : bootBuiltins "list" = some (.type "list") := by decide +kernel
theorem boot_range : bootBuiltins "range" = some (.type "range") := by decide +kernel
theorem boot_zip : bootBuiltins "zip" = some (.type "zip") := by decide +kernel
theorem boot_enumerate : bootBuiltins "enumerate" = some (.type "enumerate") := by decide +kernel
theorem boot_reversed : bootBuiltins "reversed" = some (.type "reversed") := by decide +kernel
inductive Kd where
  | both | one | thn
  deriving DecidableEq
def Kd.str : Kd → Str
  | .both => "both"
  | .one => "one"
  | .thn => "then"
inductive Tm where
  | low
  | ltr (w : Str)
  | nd (k : Kd) (a b : Tm)
  deriving DecidableEq
def Tm.data : Tm → PyData
  | .low => .tuple [.str "low"]
  | .ltr w => .tuple [.str "letter", .str w]
  | .nd k a b => .tuple [.str k.str, a.data, b.data]
def Tm.parts : Tm → Nat
  | .low => 1
  | .ltr _ => 1
  | .nd _ a b => 1 + a.parts + b.parts
def Tm.deep : Tm → Nat
  | .low => 1
  | .ltr _ => 1
  | .nd _ a b => 1 + max a.deep b.deep
theorem Tm.parts_pos : ∀ t : Tm, 1 ≤ t.parts
  | .low => Nat.le_refl _
  | .ltr _ => Nat.le_refl _
  | .nd _ a b => by show 1 ≤ 1 + a.parts + b.parts; omega
def Word (x : Str) : Prop := 1 ≤ x.cps.toList.length ∧ x.cps.toList.length ≤ 8 ∧ ∀ c ∈ x.cps.toList, 97 ≤ c ∧ c ≤ 122
theorem Word.strOk {x : Str} (h : Word x) : PySem.PyData.strOk x = true := by
  unfold PySem.PyData.strOk
  rw [Array.all_eq_true_iff_forall_mem]
  intro c hc
  have := h.2.2 c (by simpa using hc)
  exact decide_eq_true (by omega)
def Tm.ok : Tm → Prop
  | .low => True
  | .ltr w => Word w
  | .nd _ a b => a.ok ∧ b.ok
abbrev IsT (K : PySem.W.Frag) (H : Hp) (v : V) (t : Tm) : Prop := Dn K H v t.data
theorem Tm.noList : ∀ t : Tm, L2.noList t.data = true
  | .low => rfl
  | .ltr _ => rfl
  | .nd k a b => by
    show (true && (L2.noList a.data && (L2.noList b.data && true))) = true
    rw [a.noList, b.noList]; rfl
theorem Tm.depth : ∀ t : Tm, t.data.depth = t.deep
  | .low => rfl
  | .ltr _ => rfl
  | .nd k a b => by
    show max 0 (max a.data.depth (max b.data.depth 0)) + 1 = 1 + max a.deep b.deep
    rw [a.depth, b.depth]; omega
section
variable {K : PySem.W.Frag} {H H' : Hp} {v : V}
theorem IsT.keep {t : Tm} (h : IsT K H v t) (k : KeepT K H H') : IsT K H' v t := Dn.keepT k t.noList h
theorem isT_low : IsT K H v .low ↔ ∃ a, v = .ref a ∧ SqT K H a [.str "low"] := by
  show Dn K H v (.tuple [.str "low"]) ↔ _
  rw [Dn]
  constructor
  · rintro ⟨a, xs, rfl, hs, hd⟩
    rw [DnAll] at hd
    obtain ⟨x, r, rfl, h1, h2⟩ := hd
    rw [Dn] at h1
    rw [DnAll] at h2
    subst h1; subst h2
    exact ⟨a, rfl, hs⟩
  · rintro ⟨a, rfl, hs⟩
    refine ⟨a, _, rfl, hs, ?_⟩
    rw [DnAll]
    exact ⟨_, _, rfl, by rw [Dn], by rw [DnAll]⟩
theorem isT_ltr {w : Str} : IsT K H v (.ltr w) ↔ ∃ a, v = .ref a ∧ SqT K H a [.str "letter", .str w] := by
  show Dn K H v (.tuple [.str "letter", .str w]) ↔ _
  rw [Dn]
  constructor
  · rintro ⟨a, xs, rfl, hs, hd⟩
    rw [DnAll] at hd
    obtain ⟨x, r, rfl, h1, h2⟩ := hd
    rw [DnAll] at h2
    obtain ⟨y, r, rfl, h3, h4⟩ := h2
    rw [Dn] at h1 h3
    rw [DnAll] at h4
    subst h1; subst h3; subst h4
    exact ⟨a, rfl, hs⟩
  · rintro ⟨a, rfl, hs⟩
    refine ⟨a, _, rfl, hs, ?_⟩
    rw [DnAll]
    refine ⟨_, _, rfl, by rw [Dn], ?_⟩
    rw [DnAll]
    exact ⟨_, _, rfl, by rw [Dn], by rw [DnAll]⟩
theorem isT_nd {k : Kd} {a b : Tm} : IsT K H v (.nd k a b) ↔ ∃ p x y, v = .ref p ∧ SqT K H p [.str k.str, x, y] ∧ IsT K H x a ∧ IsT K H y b := by
  show Dn K H v (.tuple [.str k.str, a.data, b.data]) ↔ _
  rw [Dn]
  constructor
  · rintro ⟨p, xs, rfl, hs, hd⟩
    rw [DnAll] at hd
    obtain ⟨x, r, rfl, h1, h2⟩ := hd
    rw [DnAll] at h2
    obtain ⟨y, r, rfl, h3, h4⟩ := h2
    rw [DnAll] at h4
    obtain ⟨z, r, rfl, h5, h6⟩ := h4
    rw [Dn] at h1
    rw [DnAll] at h6
    subst h1; subst h6
    exact ⟨p, y, z, rfl, hs, h3, h5⟩
  · rintro ⟨p, x, y, rfl, hs, h1, h2⟩
    refine ⟨p, _, rfl, hs, ?_⟩
    rw [DnAll]
    refine ⟨_, _, rfl, by rw [Dn], ?_⟩
    rw [DnAll]
    refine ⟨_, _, rfl, h1, ?_⟩
    rw [DnAll]
    exact ⟨_, _, rfl, h2, by rw [DnAll]⟩
end
theorem eqvAll3 (a b c d e f : PyData) : PyData.eqvAll [a, b, c] [d, e, f] = (PyData.eqv a d && (PyData.eqv b e && PyData.eqv c f)) := by
  simp [PyData.eqvAll]
theorem Kd.str_inj {a b : Kd} (h : a.str = b.str) : a = b := by
  cases a <;> cases b <;> first | rfl | exact absurd h (by decide)
theorem Tm.eqv : ∀ s t : Tm, PyData.eqv s.data t.data = decide (s = t)
  | .low, .low => by decide
  | .low, .ltr w => by
    show PyData.eqvAll [.str "low"] [.str "letter", .str w] = _
    simp [PyData.eqvAll]
  | .low, .nd k a b => by
    show PyData.eqvAll [.str "low"] [.str k.str, a.data, b.data] = _
    simp [PyData.eqvAll]
  | .ltr w, .low => by
    show PyData.eqvAll [.str "letter", .str w] [.str "low"] = _
    simp [PyData.eqvAll]
  | .ltr w, .ltr v => by
    show (PyData.eqv (.str "letter") (.str "letter") && (PyData.eqv (.str w) (.str v) && true)) = _
    simp [PyData.eqv]
    rfl
  | .ltr w, .nd k a b => by
    show PyData.eqvAll [.str "letter", .str w] [.str k.str, a.data, b.data] = _
    simp [PyData.eqvAll]
  | .nd k a b, .low => by
    show PyData.eqvAll [.str k.str, a.data, b.data] [.str "low"] = _
    simp [PyData.eqvAll]
  | .nd k a b, .ltr w => by
    show PyData.eqvAll [.str k.str, a.data, b.data] [.str "letter", .str w] = _
    simp [PyData.eqvAll]
  | .nd k a b, .nd l c d => by
    show PyData.eqvAll [.str k.str, a.data, b.data] [.str l.str, c.data, d.data] = _
    rw [eqvAll3, a.eqv c, b.eqv d]
    have e : PyData.eqv (.str k.str) (.str l.str) = decide (k = l) := by
      show (k.str == l.str) = _
      by_cases h : k = l
      · subst h; simp
      · have : ¬ k.str = l.str := fun z => h (Kd.str_inj z)
        rw [decide_eq_false h]; exact beq_eq_false_iff_ne.mpr this
    rw [e]
    by_cases h1 : k = l <;> by_cases h2 : a = c <;> by_cases h3 : b = d <;> simp [h1, h2, h3]
end Ken
set_option Elab.async false
set_option linter.all false
set_option maxRecDepth 100000
set_option maxHeartbeats 2000000
namespace Ken
open PySem L2
def mix (c k : Int) : Int := ((c + 1) * (48271 + 118 * k) % 2147483629 / 977 * 16807 + (c + 1) * (48271 + 118 * k) % 2147483629 * (k * k + 7) + k) % 2147483587
theorem mix_nn (c k : Int) : 0 ≤ mix c k := by unfold mix; exact Int.emod_nonneg _ (by decide)
def sp_mix : Sp := fun vs H Q _ => ∃ c k : Int, vs = [.int c, .int k] ∧ 0 ≤ k ∧ k ≤ 100000 ∧ Q (.int (mix c k)) H
def cellOf (ns : List Int) (k : Int) : Int := mix (if k < (ns.length : Int) then (ns[k.toNat]?.getD 0) % 2147483647 else 0) (k + 101)
theorem cell_nn (ns : List Int) (k : Int) : 0 ≤ cellOf ns k := mix_nn _ _
def sp_cell (K : PySem.W.Frag) : Sp := fun vs H Q _ => ∃ (a : Addr) (ns : List Int) (k : Int), vs = [.ref a, .int k] ∧ SqL K H a (ns.map V.int) ∧ ns.length ≤ 63 ∧ 0 ≤ k ∧ k ≤ 1000 ∧ Q (.int (cellOf ns k)) H
def Words (ws : List Str) : Prop := 2 ≤ ws.length ∧ ws.length ≤ 6 ∧ ∀ w ∈ ws, Word w
def sp_words : Sp := fun vs H Q _ => ∃ c m : Int, vs = [.int c, .int m] ∧ 0 ≤ c ∧ 2 ≤ m ∧ m ≤ 6 ∧
  ∀ (r : Addr) (H' : Hp) (ws : List Str), Same H H' → H r = none → H' r = some (.lst (ws.map V.str)) → Words ws → Q (.ref r) H'
def Tm.inW (ws : List Str) : Tm → Prop
  | .low => True
  | .ltr w => w ∈ ws
  | .nd _ a b => a.inW ws ∧ b.inW ws
theorem Tm.inW.ok {ws : List Str} (hw : ∀ w ∈ ws, Word w) : ∀ {t : Tm}, t.inW ws → t.ok
  | .low, _ => trivial
  | .ltr w, h => hw w h
  | .nd _ a b, h => ⟨Tm.inW.ok hw h.1, Tm.inW.ok hw h.2⟩
def Made (K : PySem.W.Frag) (H : Hp) (ws : List Str) (p d : Nat) (r : V) (t : Tm) : Prop := IsT K H r t ∧ t.inW ws ∧ t.parts ≤ p ∧ t.deep ≤ d
theorem Made.mono {K : PySem.W.Frag} {H H' : Hp} {ws : List Str} {p d p' d' : Nat} {r : V} {t : Tm} (h : Made K H ws p d r t) (k : KeepT K H H') (hp : p ≤ p') (hd : d ≤ d') : Made K H' ws p' d' r t :=
  ⟨h.1.keep k, h.2.1, Nat.le_trans h.2.2.1 hp, Nat.le_trans h.2.2.2 hd⟩
def sp_leaf (K : PySem.W.Frag) : Sp := fun vs H Q _ => ∃ (c : Int) (wa : Addr) (ws : List Str), vs = [.int c, .ref wa] ∧ SqL K H wa (ws.map V.str) ∧ Words ws ∧
  ∀ (r : V) (H' : Hp) (t : Tm), Same H H' → Made K H' ws 1 1 r t → Q r H'
def rk (n : Int) : Nat := if n < 40 then n.toNat else if n ≤ 53 then 40 else if n ≤ 71 then 41 else if n ≤ 95 then 42 else if n ≤ 127 then 43 else if n ≤ 170 then 44 else if n ≤ 227 then 45 else 46
theorem rk_le (n : Int) : rk n ≤ 46 := by
  unfold rk
  repeat' split
  all_goals omega
theorem rk_two {n : Int} (h0 : 3 ≤ n) (h1 : n < 40) : rk (n - 2) < rk n := by
  unfold rk
  rw [if_pos (by omega), if_pos (by omega)]
  omega
theorem rk_less {n m : Int} (h0 : 3 ≤ n) (h1 : n < 40) (h2 : m ≤ n - 1) : rk m < rk n := by
  unfold rk
  rw [if_pos (by omega), if_pos (by omega)]
  omega
theorem rk_big {n m : Int} (h0 : 40 ≤ n) (h1 : n ≤ 300) (h2 : m ≤ n - 1 - (n - 1) / 4) : rk m < rk n := by
  unfold rk
  rw [if_neg (show ¬ n < 40 by omega)]
  repeat' split
  all_goals omega
def sp_stm (K : PySem.W.Frag) (n : Nat) : Sp := fun vs H Q _ => ∃ (c size : Int) (wa : Addr) (ws : List Str), vs = [.int c, .int size, .ref wa] ∧ 0 ≤ c ∧ 0 ≤ size ∧ size ≤ 300 ∧ rk size < n ∧ SqL K H wa (ws.map V.str) ∧ Words ws ∧
  ∀ (r : V) (H' : Hp) (t : Tm), Same H H' → Made K H' ws (max 1 size.toNat) (rk size + 1) r t → Q r H'
section
variable {K : PySem.W.Frag} {H : Hp} {p : Addr}
theorem made_low (ws : List Str) (hp : H p = none) : Made K (upd H p (.tup [.str "low"])) ws 1 1 (.ref p) .low :=
  ⟨isT_low.mpr ⟨p, rfl, .inl (.inl upd_same)⟩, trivial, Nat.le_refl _, Nat.le_refl _⟩
theorem made_ltr {ws : List Str} {w : Str} (hw : w ∈ ws) (hp : H p = none) : Made K (upd H p (.tup [.str "letter", .str w])) ws 1 1 (.ref p) (.ltr w) :=
  ⟨isT_ltr.mpr ⟨p, rfl, .inl (.inl upd_same)⟩, hw, Nat.le_refl _, Nat.le_refl _⟩
theorem made_nd {ws : List Str} {k : Kd} {x y : V} {a b : Tm} {pa da pb db : Nat} (ha : Made K H ws pa da x a) (hb : Made K H ws pb db y b) (hp : H p = none) :
    Made K (upd H p (.tup [.str k.str, x, y])) ws (1 + pa + pb) (1 + max da db) (.ref p) (.nd k a b) := by
  refine ⟨isT_nd.mpr ⟨p, x, y, rfl, .inl (.inl upd_same), ha.1.keep (keepT_new hp), hb.1.keep (keepT_new hp)⟩, ⟨ha.2.1, hb.2.1⟩, ?_, ?_⟩
  · show 1 + a.parts + b.parts ≤ _
    have := ha.2.2.1
    have := hb.2.2.1
    omega
  · show 1 + max a.deep b.deep ≤ _
    have := ha.2.2.2
    have := hb.2.2.2
    omega
end
theorem word_mul {c : Nat} {n : Int} (h1 : 97 ≤ c) (h2 : c ≤ 122) (h3 : 1 ≤ n) (h4 : n ≤ 8) : Word (Txt.mul ⟨#[c]⟩ n) := by
  unfold Word
  rw [PyProof.Rows.mul_one_list]
  refine ⟨by rw [List.length_replicate]; omega, by rw [List.length_replicate]; omega, fun d hd => ?_⟩
  rw [List.mem_replicate] at hd
  omega
theorem word_mid {c d : Nat} {a b : Int} (h1 : 97 ≤ c) (h2 : c ≤ 122) (h3 : 97 ≤ d) (h4 : d ≤ 122) (h5 : 0 ≤ a) (h6 : 0 ≤ b) (h7 : a + b ≤ 7) : Word (Txt.mul ⟨#[c]⟩ a ++ ⟨#[d]⟩ ++ Txt.mul ⟨#[c]⟩ b) := by
  unfold Word
  rw [cps_append, cps_append, PyProof.Rows.mul_one_list, PyProof.Rows.mul_one_list]
  refine ⟨by simp only [List.length_append, List.length_replicate, List.length_cons, List.length_nil]; omega, by simp only [List.length_append, List.length_replicate, List.length_cons, List.length_nil]; omega, fun e he => ?_⟩
  simp only [List.mem_append, List.mem_replicate, List.mem_cons, List.not_mem_nil, or_false] at he
  omega
theorem mul_len {c : Nat} {n : Int} : (Txt.mul ⟨#[c]⟩ n).length = n.toNat := by rw [len_cps, PyProof.Rows.mul_one_list, List.length_replicate]
def wordB (x : Str) : Bool := decide (1 ≤ x.cps.toList.length) && decide (x.cps.toList.length ≤ 8) && x.cps.toList.all fun c => decide (97 ≤ c) && decide (c ≤ 122)
theorem word_of {x : Str} (h : wordB x = true) : Word x := by
  unfold wordB at h
  simp only [Bool.and_eq_true, decide_eq_true_eq, List.all_eq_true] at h
  exact ⟨h.1.1, h.1.2, fun c hc => by have := h.2 c hc; simpa using this⟩
def Six (H0 H : Hp) (p : Addr) (ws : List Str) : Prop := Same H0 H ∧ H0 p = none ∧ H p = some (.lst (ws.map V.str)) ∧ ws.length = 6 ∧ ∀ w ∈ ws, Word w
theorem cut_map (ws : List Str) (lo hi : Option Int) : cutV (ws.map V.str) lo hi = ((ws.drop (HT.sIx ws.length 0 lo)).take (HT.sIx ws.length ws.length hi - HT.sIx ws.length 0 lo)).map V.str := by
  unfold cutV
  rw [List.length_map, ← List.map_drop, ← List.map_take]
def kd4 (i : Int) : Kd := if i = 0 then .both else if i = 1 then .one else .thn
theorem at_kd4 {i : Int} (h0 : 0 ≤ i) (h1 : i < 4) : atI [V.str "both", V.str "one", V.str "then", V.str "then"] i = some (.str (kd4 i).str) := by
  have : i = 0 ∨ i = 1 ∨ i = 2 ∨ i = 3 := by omega
  rcases this with rfl | rfl | rfl | rfl <;> rfl
theorem at_list {α : Type} {xs : List α} {i : Int} (h0 : 0 ≤ i) (h1 : i < (xs.length : Int)) : ∃ v, v ∈ xs ∧ atI xs i = some v := by
  obtain ⟨j, rfl⟩ := Int.eq_ofNat_of_zero_le h0
  have hj : j < xs.length := by omega
  exact ⟨xs[j], List.getElem_mem hj, atI_nat (List.getElem?_eq_getElem hj)⟩
end Ken
set_option Elab.async false
set_option linter.all false
set_option maxRecDepth 100000
set_option maxHeartbeats 2000000
namespace Ken
open PySem L2
theorem small1M {n : Nat} (h : n ≤ 1000000) : n < sizeLine := Nat.lt_of_le_of_lt h (by rw [sizeLine_eq]; decide)
def Kd.sgn : Kd → Nat
  | .both => 38
  | .one => 124
  | .thn => 62
def Tm.text : Tm → List Nat
  | .low => [48]
  | .ltr w => w.cps.toList
  | .nd k a b => if k = .thn ∧ b = .low then 126 :: a.text else 40 :: (a.text ++ (32 :: k.sgn :: 32 :: (b.text ++ [41])))
abbrev Itm := Str ⊕ Tm
def DIt (K : PySem.W.Frag) (H : Hp) : V → Itm → Prop
  | v, .inl x => v = .str x
  | v, .inr t => IsT K H v t ∧ t.ok
abbrev DIts (K : PySem.W.Frag) (H : Hp) : List V → List Itm → Prop := Paired (DIt K H)
theorem DIt.keep {K : PySem.W.Frag} {H H' : Hp} (k : KeepT K H H') : ∀ {v : V} {i : Itm}, DIt K H v i → DIt K H' v i
  | _, .inl _, h => h
  | _, .inr _, h => ⟨h.1.keep k, h.2⟩
theorem DIts.keep {K : PySem.W.Frag} {H H' : Hp} (k : KeepT K H H') {vs : List V} {is : List Itm} (h : DIts K H vs is) : DIts K H' vs is := Paired.mapP h fun _ _ q => q.keep k
theorem DIts.append {K : PySem.W.Frag} {H : Hp} : ∀ {a b : List V} {c d : List Itm}, DIts K H a c → DIts K H b d → DIts K H (a ++ b) (c ++ d)
  | _, _, _, _, .nil, q => q
  | _, _, _, _, .cons h t, q => .cons h (DIts.append t q)
theorem canLay_list {ds : List PyData} (h : ∀ d ∈ ds, d.canLay0 = true) : (PyData.list ds).canLay0 = true := by
  show PyData.canLayAll0 ds = true
  induction ds with
  | nil => rfl
  | cons d ds ih =>
    show (d.canLay0 && PyData.canLayAll0 ds) = true
    rw [h d List.mem_cons_self, ih fun e he => h e (List.mem_cons_of_mem _ he)]; rfl
end Ken
set_option Elab.async false
set_option linter.all false
set_option maxRecDepth 100000
set_option maxHeartbeats 2000000
namespace Ken
open PySem L2
abbrev IsTs (K : PySem.W.Frag) (H : Hp) (n : Nat) : List V → List Tm → Prop := Paired fun v t => IsT K H v t ∧ t.ok ∧ t.parts ≤ n
theorem IsTs.keep {K : PySem.W.Frag} {H H' : Hp} {n : Nat} (k : KeepT K H H') {vs : List V} {ts : List Tm} (h : IsTs K H n vs ts) : IsTs K H' n vs ts := Paired.mapP h fun _ _ q => ⟨q.1.keep k, q.2⟩
theorem paired_get {α β : Type} {F : α → β → Prop} : ∀ {l : List α} {m : List β} {i : Nat} {x : α}, Paired F l m → l[i]? = some x → ∃ y, m[i]? = some y ∧ F x y
  | _, _, 0, _, .cons h t, e => by cases e; exact ⟨_, rfl, h⟩
  | _, _, i + 1, _, .cons h t, e => paired_get (i := i) t (by simpa using e)
end Ken
set_option Elab.async false
set_option linter.all false
set_option maxRecDepth 100000
set_option maxHeartbeats 2000000
namespace L2
open PySem PySem.Spec PyProof.Rows
def Ite (K : PySem.W.Frag) (l : Addr) : It :=
  ⟨fun i H => ∃ xs x, SqL K H l xs ∧ xs[i]? = some x,
   fun i H v H' => ∃ T x, v = .ref T ∧ H T = none ∧ H' = upd H T (.tup [.int i, x]) ∧ ∀ xs, SqL K H l xs → xs[i]? = some x,
   fun i H => ∃ xs, SqL K H l xs ∧ xs.length ≤ i⟩
def enSt (e it l : Addr) (i : Nat) (h : Heap) : Prop := (∃ old, IsEnum h e it i old) ∧ h.IsListIter it l i
theorem turn_enum {P : Program} {w : World} {K : PySem.W.Frag} {elts : List Expr} {k0 : Nat} {tpos : Pos} (e it l : Addr) (hne : e ≠ it) :
    Turn P w K (.Tuple elts k0 tpos) (Ite K l) [e, it] e (enSt e it l) where
  mem := by simp
  obj := fun i h st b hb => by
    obtain ⟨⟨old, hz⟩, ⟨o1, e1, c1, d1⟩⟩ := st
    simp only [List.mem_cons, List.not_mem_nil, or_false] at hb
    rcases hb with rfl | rfl
    · exact ⟨_, hz, fun v q => by cases q⟩
    · exact ⟨o1, e1, fun v q => by rw [d1] at q; cases q⟩
  keep := fun i h h' st k => by
    obtain ⟨⟨old, hz⟩, h1⟩ := st
    exact ⟨⟨old, k e (by simp) _ hz⟩, h1.at fun o q => k it (by simp) o q⟩
  item := by
    intro X hP hw hK hc i pins s σ H E I hf st hg
    subst hP hw hK
    obtain ⟨⟨old, hz⟩, h1⟩ := st
    obtain ⟨xs, x, q1, hx⟩ := hg
    obtain ⟨its1, rv1, p1, _⟩ := I.list q1
    obtain ⟨u1, hu1, ru1⟩ := rv1.get hx
    refine wpAny_pyNext_enum_item hz h1 p1.isList (x := u1) (by simpa using hu1) hne fun h' a1 a2 a5 a6 kk => ?_
    have hT : H s.heap.objs.size = none := I.hok.fresh (Nat.le_refl _)
    have nch : ∀ b u, H b = some u → b ∉ [e, it] := fun b u q hb => by rw [(hf b hb).1] at q; cases q
    have kk' : ∀ b o, b ∉ [e, it] → s.heap.get? b = some o → h'.get? b = some o := fun b o hb q => by
      simp only [List.mem_cons, List.not_mem_nil, or_false, not_or] at hb
      exact kk b o hb.1 hb.2 q
    have ltT : ∀ b o, s.heap.get? b = some o → b ≠ s.heap.objs.size := fun b o q => Nat.ne_of_lt (Heap.lt_size q)
    have hokT : HOk X.prog X.w (upd H s.heap.objs.size (.tup [.int i, x])) h' := fun b ob q => by
      by_cases hb : b = s.heap.objs.size
      · subst hb
        rw [upd_same] at q
        cases q
        exact ⟨by show 2 ≤ sizeLine; decide, [.int i s.toks, u1], .cons ⟨_, rfl⟩ (.cons ru1 .nil), _, a5, rfl, _, rfl⟩
      · rw [upd_ne hb] at q
        refine (I.hok b ob q).stay (fun c v hcv q' => kk' c v ?_ q') (fun c q' => by rw [upd_ne (ne_of_none q' hT)]; exact q') fun c xs q' => by rw [upd_ne (ne_of_none q' hT)]; exact q'
        rcases hcv with rfl | hcv
        · exact nch _ _ q
        · exact nch _ _ hcv
    have I1 : Inv X pins σ (upd H s.heap.objs.size (.tup [.int i, x])) { s with heap := h', toks := s.toks + 1 } := by
      refine I.step (g' := s.gens) (d' := s.drawn) (t' := s.toks + 1) (ch := [e, it]) (fun b hb => ?_) (fun b o _ _ hb q _ => kk' b o hb q) (fun b o _ _ hb q _ => ⟨o.slots, kk' b o hb q⟩) (fun b o _ q n => by rw [upd_ne (ltT b o q)]; exact n) (fun b o hb q => ⟨o, kk' b o hb q⟩)
        (fun b xs q => by rw [upd_ne (ne_of_none q hT)]; exact q) (fun b o u q => by rw [upd_ne (ne_of_none q hT)]; exact q) (fun b ps q => ⟨#[], by rw [upd_ne (ne_of_none q hT), q]; simp⟩) (fun m hm => ?_) hokT I.bare
      · obtain ⟨f0, f1, f2, f3, f4, f5⟩ := hf b hb
        exact ⟨f3, f1, f4, f5⟩
      · obtain ⟨o, es, ep, ho, r⟩ := hm
        refine ⟨o, es, ep, kk' _ o ?_ ho, r⟩
        simp only [List.mem_cons, List.not_mem_nil, or_false, not_or]
        exact ⟨((hf e (by simp)).2.1).symm, ((hf it (by simp)).2.1).symm⟩
    refine ⟨_, rfl, wpAny_letOwnedTupleGo_enum a1 fun h'' hz'' sb => ?_⟩
    obtain ⟨f0, f1, f2, f3, f4, f5⟩ := hf e (by simp)
    have ltz : ∀ b ∈ [e, it], b ≠ s.heap.objs.size := fun b hb => by
      simp only [List.mem_cons, List.not_mem_nil, or_false] at hb
      obtain ⟨o1, e1, _⟩ := h1
      rcases hb with rfl | rfl
      · exact ltT _ _ hz
      · exact ltT _ _ e1
    have fn : ∀ b ∈ [e, it], upd H s.heap.objs.size (.tup [.int i, x]) b = none := fun b hb => by rw [upd_ne (ltz b hb)]; exact (hf b hb).1
    have I2 : Inv X pins σ (upd H s.heap.objs.size (.tup [.int i, x])) { s with heap := h'', toks := s.toks + 1 } := I1.turned (t' := s.toks + 1) (fun b o hb q => (sb.2 b hb).trans q) (fn e (by simp)) f1 f3 f4 f5
    refine ⟨.ref s.heap.objs.size, _, I2, rfl, ⟨_, x, rfl, hT, rfl, fun ys hy' => by rw [I.list_inj hy' q1]; exact hx⟩, ⟨⟨u1, ?_⟩, ?_⟩, fn⟩
    · rw [Int.natCast_add]; exact hz''
    · exact a2.extBut sb.extBut (Ne.symm hne)
  done := by
    intro X hP hw hK hc i pins s σ H E I hf st hg
    subst hP hw hK
    obtain ⟨⟨old, hz⟩, h1⟩ := st
    obtain ⟨xs, q1, hend⟩ := hg
    obtain ⟨its1, rv1, p1, _⟩ := I.list q1
    have e1 := rv1.length
    refine wpAny_pyNext_enum_end (I.ok.hd hc) hz h1 p1.isList (by simp; omega) fun h' eb => ⟨rfl, ?_⟩
    obtain ⟨f0, f1, f2, f3, f4, f5⟩ := hf it (by simp)
    exact I.turned (t' := s.toks) (fun b o hb q => eb b o hb q) f0 f1 f3 f4 f5
  self := fun _ _ _ _ _ st h => by
    obtain ⟨⟨old, hz⟩, _⟩ := st
    exact wpAny_pyIter_enum hz h
def Its (x : Str) : It := ⟨fun i _ => i < x.length, fun i H v H' => H' = H ∧ ∃ c, x.cps.toList[i]? = some c ∧ v = .str ⟨#[c]⟩, fun i _ => x.length ≤ i⟩
section
variable {X : Cx}
def iEnum (K : PySem.W.Frag) (ta : TA) : TI := fun σ H R => ta σ H fun vs H1 => ∃ a, vs = [.ref a] ∧ (∃ xs, SqL K H1 a xs) ∧ R (Ite K a) H1
theorem pi_enum {a : Expr} {ta : TA} {p pos : Pos} {elts : List Expr} {k0 : Nat} {tpos : Pos} (hg : Gl X "enumerate") (hm : X.mg "enumerate" = none) (ha : PA X [a] ta) (hs : starEach [a] X.env = [(false, eval a X.env)] := by rfl) :
    PI X (.Tuple elts k0 tpos) (.Call (.Name "enumerate" p) [a] [] pos) (iEnum X.K ta) := by
  intro pins s σ H R I h
  refine Call_ (ld_blt I hg hm (by first | exact PySem.boot_enumerate | rfl) (PyProof.Rows.callWith_type1 (thn (ha pos pins s σ H _ I h) fun us s1 ⟨vs, H1, I1, r1, q1⟩ => ?_) (by rw [hs]; rfl) rfl))
  obtain ⟨l, e, ⟨xs, q1⟩, q⟩ := q1
  subst e
  obtain ⟨u1, rfl, ru1⟩ := r1.one
  cases ru1
  obtain ⟨its1, rv1, p1, _⟩ := I1.list q1
  refine call_enumerate_list p1.isList fun h' hz hi _ hk => wpAny_pyIter_enum hz ?_
  have I2 : Inv X pins σ H1 { s1 with heap := h' } := I1.kept (t' := s1.toks) hk
  refine ⟨_, _, _, _, H1, rfl, I2, turn_enum _ _ l (Nat.succ_ne_self _), ⟨⟨_, hz⟩, hi⟩, fun b hb => ?_, q⟩
  have hb' : s1.heap.objs.size ≤ b := by
    simp only [List.mem_cons, List.not_mem_nil, or_false] at hb
    rcases hb with rfl | rfl <;> omega
  exact I1.fpOk hb' (I1.hok.fresh hb')
def iStr (te : TE) : TI := fun σ H R => te σ H fun v H1 => ∃ x : Str, v = .str x ∧ (x.cps.all fun c => decide (c < 128)) = true ∧ R (Its x) H1
end
theorem for_enum {K : PySem.W.Frag} {a : Addr} {xs : List V} {g : TG} {tb : TS} {D : Ends} {σ : St} {H : Hp} (Pv : Nat → St → Hp → Prop) (h0 : Pv 0 σ H) (hl : ∀ i σ H, i ≤ xs.length → Pv i σ H → SqL K H a xs)
    (hs : ∀ i x σ H T, xs[i]? = some x → H T = none → Pv i σ H → g (.ref T) σ (upd H T (.tup [.int i, x])) fun σ2 H2 => tb { D with nx := Pv (i + 1), ct := Pv (i + 1), bk := D.nx } σ2 H2) (hd : ∀ σ H, Pv xs.length σ H → D.nx σ H) :
    ∃ W : Nat → Nat → St → Hp → Prop, (∃ m, W 0 m σ H) ∧ ∀ i m σ H, W i m σ H →
      ((Ite K a).stop i H ∧ D.nx σ H) ∨ ((Ite K a).go i H ∧ ∃ N : St → Hp → Prop, (∀ σ' H', N σ' H' → ∃ m', m' < m ∧ W (i + 1) m' σ' H') ∧ ∀ x H', (Ite K a).yld i H x H' → g x σ H' fun σ2 H2 => tb { D with nx := N, ct := N, bk := D.nx } σ2 H2) := by
  refine ⟨fun i m σ H => m = xs.length - i ∧ i ≤ xs.length ∧ Pv i σ H, ⟨xs.length, by simp, Nat.zero_le _, h0⟩, ?_⟩
  rintro i m σ H ⟨rfl, hi, p⟩
  have q1 := hl i σ H hi p
  by_cases hlt : i < xs.length
  · refine .inr ⟨⟨xs, xs[i], q1, by simp [hlt]⟩, Pv (i + 1), fun σ' H' p' => ⟨xs.length - (i + 1), by omega, rfl, hlt, p'⟩, fun v H' z => ?_⟩
    obtain ⟨T, x, rfl, hT, rfl, z1⟩ := z
    exact hs i x σ H T (z1 xs q1) hT p
  · have e : i = xs.length := by omega
    subst e
    exact .inl ⟨⟨xs, q1, Nat.le_refl _⟩, hd σ H p⟩
theorem pg_tupK {X : Cx} {K : PySem.W.Frag} {pos : Pos} {es : List Expr} {k : Nat} {t : TGs} {n : Nat} (hc : X.calm = true) (hK : X.K = K) (h : PGs X es t)
    (hn : (assignEach es X.env).length = n) (hst : (assignEach es X.env).findIdx? (·.1) = none) : PG X (.Tuple es k pos) (gTup K n t) := hK ▸ pg_tup hc h hn hst
end L2
set_option Elab.async false
set_option linter.all false
set_option maxRecDepth 100000
set_option maxHeartbeats 2000000
namespace Ken
open PySem L2
inductive Wr : Tm → List Nat → Prop where
  | low : Wr .low [48]
  | ltr (w : Str) : Wr (.ltr w) w.cps.toList
  | neg {a : Tm} {x : List Nat} : Wr a x → Wr (.nd .thn a .low) (126 :: x)
  | nd {k : Kd} {a b : Tm} {x y : List Nat} : Wr a x → Wr b y → Wr (.nd k a b) (40 :: (x ++ (32 :: k.sgn :: 32 :: (y ++ [41]))))
theorem Wr.len : ∀ {t : Tm} {x : List Nat}, Wr t x → t.ok → x.length ≤ 10 * t.parts
  | _, _, .low, _ => by decide
  | _, _, .ltr w, h => by
    show w.cps.toList.length ≤ 10
    have := h.2.1
    omega
  | _, _, .neg (a := a) (x := x) ha, h => by
    have := ha.len h.1
    show x.length + 1 ≤ 10 * (1 + a.parts + 1)
    omega
  | _, _, .nd (k := k) (a := a) (b := b) (x := x) (y := y) ha hb, h => by
    have h1 := ha.len h.1
    have h2 := hb.len h.2
    show (40 :: (x ++ (32 :: k.sgn :: 32 :: (y ++ [41])))).length ≤ 10 * (1 + a.parts + b.parts)
    simp
    omega
inductive Fr where
  | ng
  | op (k : Kd) (b : Tm) (y : List Nat)
  | sn (k : Kd) (a : Tm)
def Fr.ok : Fr → Prop
  | .ng => True
  | .op _ b y => Wr b y ∧ b.ok
  | .sn _ a => a.ok
def restF : List Fr → List Nat
  | [] => []
  | .ng :: fs => restF fs
  | .op k _ y :: fs => 32 :: k.sgn :: 32 :: (y ++ (41 :: restF fs))
  | .sn _ _ :: fs => 41 :: restF fs
def plug : List Fr → Tm → Tm
  | [], t => t
  | .ng :: fs, t => plug fs (.nd .thn t .low)
  | .op k b _ :: fs, t => plug fs (.nd k t b)
  | .sn k a :: fs, t => plug fs (.nd k a t)
def simple : Tm → Prop
  | .nd _ _ _ => False
  | _ => True
def frSign : Fr → Nat
  | .ng => 126
  | _ => 40
def newFr : Fr → Prop
  | .sn _ _ => False
  | _ => True
theorem Wr.open : ∀ {t : Tm} {x : List Nat}, Wr t x → t.ok → ∃ (gs : List Fr) (u : Tm), simple u ∧ u.ok ∧ (∀ g ∈ gs, g.ok ∧ newFr g) ∧ ∀ fs : List Fr, x ++ restF fs = (gs.map frSign) ++ (u.text ++ restF (gs.reverse ++ fs)) ∧ plug (gs.reverse ++ fs) u = plug fs t
  | _, _, .low, _ => ⟨[], .low, trivial, trivial, by simp, fun fs => ⟨rfl, rfl⟩⟩
  | _, _, .ltr w, h => ⟨[], .ltr w, trivial, h, by simp, fun fs => ⟨rfl, rfl⟩⟩
  | _, _, .neg (a := a) (x := x) ha, h => by
    obtain ⟨gs, u, h1, h2, h3, h4⟩ := ha.open h.1
    refine ⟨.ng :: gs, u, h1, h2, ?_, fun fs => ?_⟩
    · intro g hg
      rcases List.mem_cons.mp hg with rfl | hg
      · exact ⟨trivial, trivial⟩
      · exact h3 g hg
    · obtain ⟨e1, e2⟩ := h4 (.ng :: fs)
      rw [List.reverse_cons, List.append_assoc]
      refine ⟨?_, e2⟩
      show 126 :: (x ++ restF fs) = 126 :: (gs.map frSign ++ (u.text ++ restF (gs.reverse ++ (.ng :: fs))))
      rw [← e1]; rfl
  | _, _, .nd (k := k) (a := a) (b := b) (x := x) (y := y) ha hb, h => by
    obtain ⟨gs, u, h1, h2, h3, h4⟩ := ha.open h.1
    refine ⟨.op k b y :: gs, u, h1, h2, ?_, fun fs => ?_⟩
    · intro g hg
      rcases List.mem_cons.mp hg with rfl | hg
      · exact ⟨⟨hb, h.2⟩, trivial⟩
      · exact h3 g hg
    · obtain ⟨e1, e2⟩ := h4 (.op k b y :: fs)
      rw [List.reverse_cons, List.append_assoc]
      refine ⟨?_, e2⟩
      show 40 :: ((x ++ (32 :: k.sgn :: 32 :: (y ++ [41]))) ++ restF fs) = 40 :: (gs.map frSign ++ (u.text ++ restF (gs.reverse ++ (.op k b y :: fs))))
      rw [← e1]
      show 40 :: ((x ++ (32 :: k.sgn :: 32 :: (y ++ [41]))) ++ restF fs) = 40 :: (x ++ (32 :: k.sgn :: 32 :: (y ++ (41 :: restF fs))))
      simp
def DFr (K : PySem.W.Frag) (H : Hp) (v : V) : Fr → Prop
  | .ng => ∃ p, v = .ref p ∧ SqT K H p [.str "~", .non]
  | .op _ _ _ => ∃ p, v = .ref p ∧ SqT K H p [.str "(", .non]
  | .sn k a => ∃ p x, v = .ref p ∧ SqT K H p [.str k.str, x] ∧ IsT K H x a
theorem DFr.keep {K : PySem.W.Frag} {H H' : Hp} (k : KeepT K H H') : ∀ {v : V} {f : Fr}, DFr K H v f → DFr K H' v f
  | _, .ng, ⟨p, e, h⟩ => ⟨p, e, k _ _ h⟩
  | _, .op _ _ _, ⟨p, e, h⟩ => ⟨p, e, k _ _ h⟩
  | _, .sn _ _, ⟨p, x, e, h, i⟩ => ⟨p, x, e, k _ _ h, i.keep k⟩
abbrev DFrs (K : PySem.W.Frag) (H : Hp) : List V → List Fr → Prop := Paired (DFr K H)
theorem DFrs.keep {K : PySem.W.Frag} {H H' : Hp} (k : KeepT K H H') {vs : List V} {fs : List Fr} (h : DFrs K H vs fs) : DFrs K H' vs fs := Paired.mapP h fun _ _ q => q.keep k
theorem drop_add {α : Type} {l : List α} {a : Nat} {p q : List α} (h : l.drop a = p ++ q) : l.drop (a + p.length) = q := by
  rw [← List.drop_drop, h, List.drop_left]
theorem drop_lt {α : Type} {l : List α} {a : Nat} {p q : List α} (ha : a ≤ l.length) (h : l.drop a = p ++ q) : a + p.length ≤ l.length := by
  have := congrArg List.length h
  rw [List.length_drop, List.length_append] at this
  omega
def At (x : Str) (a : Nat) (cs : List Nat) : Prop := x.length ≤ 5000 ∧ a ≤ x.length ∧ x.cps.toList.drop a = cs
theorem At.move {x : Str} {a : Nat} {p q : List Nat} (h : At x a (p ++ q)) : At x (a + p.length) q := by
  refine ⟨h.1, ?_, drop_add h.2.2⟩
  have := drop_lt (by rw [← len_cps]; exact h.2.1) h.2.2
  rw [len_cps]; exact this
theorem At.step {x : Str} {a c : Nat} {q : List Nat} (h : At x a (c :: q)) : At x (a + 1) q := At.move (p := [c]) h
theorem lt1 {c d : Nat} : (([c] : List Nat) < [d]) ↔ c < d := by
  simp [List.cons_lt_cons_iff]
theorem paired_app {α β : Type} {F : α → β → Prop} : ∀ {l l' : List α} {m m' : List β}, Paired F l m → Paired F l' m' → Paired F (l ++ l') (m ++ m')
  | _, _, _, _, .nil, q => q
  | _, _, _, _, .cons h t, q => .cons h (paired_app t q)
end Ken
set_option Elab.async false
set_option linter.all false
set_option maxRecDepth 100000
set_option maxHeartbeats 2000000
namespace Ken
open PySem L2
def DIx (K : PySem.W.Frag) (H : Hp) : V → Itm → Prop
  | v, .inl x => v = .str x
  | v, .inr t => IsT K H v t
theorem DIx.keep {K : PySem.W.Frag} {H H' : Hp} (k : KeepT K H H') : ∀ {v : V} {i : Itm}, DIx K H v i → DIx K H' v i
  | _, .inl _, h => h
  | _, .inr _, h => IsT.keep h k
abbrev IsTd (K : PySem.W.Frag) (H : Hp) : List V → List Tm → Prop := Paired fun v t => IsT K H v t ∧ t.ok ∧ t.parts ≤ 300 ∧ t.deep ≤ 47
theorem IsTd.keep {K : PySem.W.Frag} {H H' : Hp} (k : KeepT K H H') {vs : List V} {ts : List Tm} (h : IsTd K H vs ts) : IsTd K H' vs ts := Paired.mapP h fun _ _ q => ⟨q.1.keep k, q.2⟩
end Ken
set_option Elab.async false
set_option linter.all false
set_option maxRecDepth 100000
set_option maxHeartbeats 2000000
namespace L2
open PySem PySem.Spec PyProof.Rows
section
variable {X : Cx}
theorem kv_items {P : Program} {w : World} : ∀ {kvs : List (Key × V)} {vs : List (Key × Value)}, KV kvs vs → ∀ {acc : List Value}, acc.length = vs.length → (∀ (j : Nat) (v : Value), acc[j]? = some v → ∃ k x, vs[j]? = some (k, x) ∧ (mixKind P w).is k v = true) → Vals (kvs.map fun kv => kV kv.1) acc
  | _, _, .nil, [], _, _ => .nil
  | _, _, .nil, _ :: _, h, _ => by simp at h
  | _, _, .cons (a := p) (b := q) h t, [], hl, _ => by simp at hl
  | _, _, .cons (a := p) (b := q) h t, u :: acc, hl, hi => by
    refine .cons ?_ (kv_items t (by simpa using hl) fun j v e => hi (j + 1) v e)
    obtain ⟨k, x, e1, e2⟩ := hi 0 u rfl
    cases e1
    have hk : p.1 = k := h.1
    show RelV (kV p.1) u
    rw [hk]
    rcases keyIs_shape e2 with ⟨i, t, rfl, rfl⟩ | ⟨x, t, rfl, rfl⟩
    · exact ⟨t, rfl⟩
    · exact ⟨t, rfl⟩
theorem vals_of_strs : ∀ {us : List Value} {ys : List Str}, StrsAre us ys → Vals (ys.map V.str) us
  | _, _, .nil => .nil
  | _, _, .cons _ _ t => .cons ⟨_, rfl⟩ (vals_of_strs t)
theorem call_list_dict (hc : X.calm = true) : CallR X (.type "list") (fun xs H Q => ∃ a kvs, xs = [.ref a] ∧ H a = some (.dK kvs) ∧ ∀ l, H l = none → Q (.ref l) (upd H l (.lst (kvs.map fun kv => kV kv.1)))) := by
  intro pins s σ H xs us Q I r h
  obtain ⟨a, kvs, rfl, ha, q⟩ := h
  obtain ⟨u, rfl, ru⟩ := vals1 r
  cases ru
  obtain ⟨hz, hS, vs, rel, dd⟩ := dk_of I.hok ha
  obtain ⟨ep, da⟩ := dd.dictAt
  have hl := Paired.length rel
  refine W.kdl_call (W.kdl_dict hS) (I.ok.hd hc) da (by omega) fun h' tk acc c kp e it => ?_
  have v := kv_items (P := X.prog) (w := X.w) rel (acc := acc.toList) (by rw [Array.length_toList]; exact it.1) fun j v q => it.2 j v (by simpa using q)
  exact ⟨.ref s.heap.objs.size, _, I.laid (t' := tk) kp (Nat.le_refl _) (show ObjOk X.prog X.w _ h' _ (.lst (kvs.map fun kv => kV kv.1)) from ⟨by rw [List.length_map]; exact hz, acc.toList, c, v, by simpa using e⟩), rfl, q _ (I.hok.fresh (Nat.le_refl _))⟩
theorem call_sorted_strs : CallR X (.builtin "sorted") (fun xs H Q => ∃ a ys, xs = [.ref a] ∧ SqL X.K H a (ys.map V.str) ∧ ys.length < 64 ∧ ∀ l ys', H l = none → List.Perm ys' ys → sortedS ys' = true → Q (.ref l) (upd H l (.lst (ys'.map V.str)))) := by
  intro pins s σ H xs us Q I r h
  obtain ⟨a, ys, rfl, hq, hz, q⟩ := h
  obtain ⟨u, rfl, ru⟩ := vals1 r
  cases ru
  obtain ⟨its, r', pl, _⟩ := I.list hq
  have hlen := r'.length
  rw [List.length_map] at hlen
  refine sorted_strs pl.isList (strsAre_of r') (by omega) fun out ss' h1 h2 h3 => ?_
  obtain ⟨e, he⟩ := sortedAll_at s.heap its out
  have hl2 := h2.length_eq
  refine ⟨.ref (s.heap.objs.size + 1), _, I.laid (t' := s.toks) (fun b o q => sortedAll_old q) (Nat.le_succ _) (show ObjOk X.prog X.w _ _ _ (.lst (ss'.map V.str)) from ⟨?_, out.toList, e, vals_of_strs h1, by simpa using he⟩), rfl, q _ ss' (I.hok.fresh (Nat.le_succ _)) h2 h3⟩
  rw [List.length_map, hl2]
  exact Nat.le_trans (Nat.le_of_lt hz) (by decide)
theorem call_list_ofK {K : PySem.W.Frag} (hK : X.K = K) : CallR X (.type "list") (fun xs H Q => ∃ p ys, xs = [.ref p] ∧ (SqL K H p ys ∨ SqT K H p ys) ∧ ∀ l, H l = none → Q (.ref l) (upd H l (.lst ys))) := hK ▸ call_list_of
theorem call_len_seqK {K : PySem.W.Frag} (hK : X.K = K) : CallR X (.builtin "len") (fun xs H Q => ∃ p ys, xs = [.ref p] ∧ (SqL K H p ys ∨ SqT K H p ys) ∧ Q (.int ys.length) H) := hK ▸ call_len_seq
theorem ix_listK {K : PySem.W.Frag} (hK : X.K = K) : IxR X (rIxL K) := hK ▸ ix_list
theorem ix_tupK {K : PySem.W.Frag} (hK : X.K = K) : IxR X (rIxT K) := hK ▸ ix_tup
end
end L2
set_option Elab.async false
set_option linter.all false
set_option maxRecDepth 100000
set_option maxHeartbeats 2000000
namespace L2
open PySem PySem.Spec PyProof.Rows
abbrev TK := St → Hp → (Hp → Prop) → Prop
def compW (σ0 : St) (J : It) (g : TG) (tk : TK) (Q : Hp → Prop) (W : Nat → Nat → Hp → Prop) : Prop :=
  ∀ i m H2, W i m H2 → (J.stop i H2 ∧ Q H2) ∨ (J.go i H2 ∧ ∀ x H3, J.yld i H2 x H3 → g x σ0 H3 fun σ4 H4 => Wk σ0 σ4 ∧ tk σ4 H4 fun H5 => ∃ m', m' < m ∧ W (i + 1) m' H5)
def PTn (Y : Cx) (body : Sem Unit) (tk : TK) : Prop := ∀ (pins : List (Addr × Obj)) (s : Shared) (σ : St) (H : Hp) (N : Hp → Prop), Inv Y pins σ H s → tk σ H N →
  wpAny (model Y.prog Y.w) Y.A body (fun _ s' => ∃ σ' H', Inv Y pins σ' H' s' ∧ Wk σ σ' ∧ N H') Y.xe s
def TurnIs (e : Expr) (d : Nat) (tg : Expr) (p : Pos) (acc : Value) (env : Env) (body : Sem Unit) : Prop := ∀ it, compTurn e d it acc env = (standAt p >>= fun _ => pyNext it >>= fun r => match r with
      | none => pure (.done .next)
      | some v => letOwnedTupleGo tg it v >>= fun _ => assign tg env v >>= fun _ => body >>= fun _ => again (.compLoop e d it acc env))
def DenIs (prog : Program) (w : World) (A : Around) (e : Expr) (d : Nat) (acc : Value) (env : Env) : Prop := ∀ it,
  (model prog w).den (.compLoop e d it acc env) = (compTurn e d it acc env).onRaise (fun x => do noteFrame x env; theTreesLotGoes x) ∧ A.under (.compLoop e d it acc env) = A ∧
  (∃ p, (model prog w).den (.compStart e d it acc env) = (compStart e d it acc env).onRaise (fun x => do noteFrame x env; standAt p)) ∧ A.under (.compStart e d it acc env) = A
theorem comp_loop {Y : Cx} {e tg : Expr} {d : Nat} {p : Pos} {g : TG} {tk : TK} {it : Addr} {acc : Value} {body : Sem Unit} {fp : List Addr} {tn : Nat → Heap → Prop} {J : It} {Q : Hp → Prop} {σ0 : St} {R : Result → Shared → Prop} {s : Shared} {i0 m0 : Nat} {H1 : Hp} {W : Nat → Nat → Hp → Prop} {pins : List (Addr × Obj)}
    (hc : Y.calm = true) (hxe : Y.xe = fun _ _ => False) (hden : DenIs Y.prog Y.w Y.A e d acc Y.env) (eq : TurnIs e d tg p acc Y.env body) (hg : PG Y tg g) (hb : PTn Y body tk) (T : Turn Y.prog Y.w Y.K tg J fp it tn)
    (hfp : ∀ (H' : Hp), (∀ b ∈ fp, H' b = none) → ∀ b ∈ fp, FpOk Y pins H' b) (hW : compW σ0 J g tk Q W)
    (hR : ∀ s' H', Inv Y pins σ0 H' s' → Q H' → R (.ok .next) s')
    (I : Inv Y pins σ0 H1 s) (hst : tn i0 s.heap) (hfr : ∀ b ∈ fp, H1 b = none) (w : W i0 m0 H1) :
    codeAny (model Y.prog Y.w) Y.A (.compLoop e d (.ref it) acc Y.env) R s := by
  have nE : ∀ {M : Model} {A : Around} {env : Env} {E : Value → Shared → Prop} (x : Value) (s : Shared), Y.xe x s → notedBy M A env E x s := fun x s z => by rw [hxe] at z; exact z.elim
  refine codeAny_loop rfl (fun n s => ∃ i H2, Inv Y pins σ0 H2 s ∧ tn i s.heap ∧ (∀ b ∈ fp, H2 b = none) ∧ W i n H2) (fun n s hI => ?_) m0 ⟨i0, H1, I, hst, hfr, w⟩
  obtain ⟨i, H2, I2, st2, fr2, w2⟩ := hI
  rw [(hden (.ref it)).1, (hden (.ref it)).2.1]
  refine wpAny_noted ?_
  rw [eq]
  refine wpAny_bind (wpAny_standAt (wpAny_bind ?_))
  rcases hW i n H2 w2 with ⟨stop, q⟩ | ⟨go, step⟩
  · refine thn (T.done Y rfl rfl rfl hc i pins s σ0 H2 _ I2 (hfp H2 fr2) st2 stop) fun r s1 ⟨hr, I3⟩ => ?_
    subst hr
    exact wpAny_pure (hR s1 H2 I3 q)
  · refine thn (T.item Y rfl rfl rfl hc i pins s σ0 H2 _ I2 (hfp H2 fr2) st2 go) fun r s1 ⟨u, hr, h4⟩ => ?_
    subst hr
    refine wpAny_bind (thn h4 fun _ s5 ⟨x, H5, I5, r5, y5, st5, fr5⟩ => ?_)
    have I5' := I5.pinned (hfp H5 fr5) (T.obj _ _ st5)
    refine wpAny_bind (wpAny_mono (hg _ s5 σ0 H5 x u _ I5' r5 (step x H5 y5)) (fun _ s6 ⟨σ6, H6, I6, hw6, q6⟩ => ?_) nE)
    refine wpAny_bind (wpAny_mono (hb _ s6 σ6 H6 _ I6 q6) (fun _ s8 ⟨σ8, H8, I8, hw8, m', hm', w7⟩ => ?_) nE)
    refine wpAny_pure ⟨rfl, m', hm', i + 1, H8, ?_, ?_, fun b hb => ?_, w7⟩
    · have := hw6.trans hw8
      exact I8.unpinned.weak this.1.symm this.2
    · exact T.keep _ _ _ st5 fun b hb o e => (I8.pin (b, o) (List.mem_append_right _ (List.mem_append_right _ (mem_pinsAt hb e)))).1
    · obtain ⟨o, e, dd⟩ := T.obj _ _ st5 b hb
      exact (I8.pin (b, o) (List.mem_append_right _ (List.mem_append_right _ (mem_pinsAt hb e)))).2.1
theorem codeAny_compStart_gen {prog : Program} {w : World} {A : Around} {R : Result → Shared → Prop} {s : Shared} {e : Expr} {d : Nat} {g : Comprehension} {it acc : Value} {env : Env} (hden : DenIs prog w A e d acc env) (hcl : (clausesOf e)[d]? = some g) (ha : g.is_async = 0)
    (h0 : codeAny (model prog w) A (.compLoop e d it acc env) R s)
    (h : wpAny (model prog w) A (pyIter it) (fun it' s' => codeAny (model prog w) A (.compLoop e d it' acc env) R s') (notedBy (model prog w) A env fun x s' => R (.error x) s') s) :
    codeAny (model prog w) A (.compStart e d it acc env) R s := by
  refine codeAny_of_tree ?_
  obtain ⟨p, ep⟩ := (hden it).2.2.1
  rw [ep, (hden it).2.2.2]
  refine wpAny_notedAt ?_
  unfold compStart
  rw [hcl]
  have e1 : ((some g).elim false fun x => x.is_async != 0) = false := by show (g.is_async != 0) = false; rw [ha]; rfl
  rw [e1, if_neg Bool.false_ne_true]
  refine wpAny_bind (wpAny_askSetting ?_)
  refine wpAny_ite ?_
  split
  · exact wpAny_pure ⟨rfl, h0⟩
  · refine wpAny_bind (wpAny_rule (wpAny_bind (wpAny_standAt (wpAny_bind (wpAny_mono h (fun it' s' h' => wpAny_pure ⟨rfl, h'⟩) fun _ _ z => z)))))
theorem den_L {prog : Program} {w : World} {A : Around} {elt : Expr} {gens : List Comprehension} {scope : Scope} {pos : Pos} {d : Nat} {acc : Value} {env : Env} : DenIs prog w A (.ListComp elt gens scope pos) d acc env := fun it => ⟨rfl, rfl, ⟨_, rfl⟩, rfl⟩
theorem den_S {prog : Program} {w : World} {A : Around} {elt : Expr} {gens : List Comprehension} {scope : Scope} {pos : Pos} {d : Nat} {acc : Value} {env : Env} : DenIs prog w A (.SetComp elt gens scope pos) d acc env := fun it => ⟨rfl, rfl, ⟨_, rfl⟩, rfl⟩
theorem den_D {prog : Program} {w : World} {A : Around} {k v : Expr} {gens : List Comprehension} {scope : Scope} {pos : Pos} {d : Nat} {acc : Value} {env : Env} : DenIs prog w A (.DictComp k v gens scope pos) d acc env := fun it => ⟨rfl, rfl, ⟨_, rfl⟩, rfl⟩
def emitL (elt : Expr) (acc : Value) (env : Env) : Sem Unit := eval elt env >>= fun x => call (.builtin "list.append") [acc, x] >>= fun _ => pure ()
def emitS (elt : Expr) (acc : Value) (env : Env) : Sem Unit := eval elt env >>= fun v => standAt elt.pos >>= fun _ => call (.builtin "set.add") [acc, v] >>= fun _ => pure ()
def emitD (k v : Expr) (d : Addr) (env : Env) : Sem Unit := eval k env >>= fun kv => holding [kv] (eval v env) >>= fun vv => standAt { line := k.pos.line, col := k.pos.col, endLine := v.pos.endLine, endCol := v.pos.endCol } >>= fun _ => holding [kv, vv] (dictSet d kv vv)
def testB (c : Expr) (env : Env) (body : Sem Unit) : Sem Unit := PySem.isTrue c env (eval c env) >>= fun ok => if ok = true then body else pure ()
def nestB (e : Expr) (d : Nat) (iter : Expr) (acc : Value) (env : Env) : Sem Unit := eval iter env >>= fun x => standAt iter.pos >>= fun _ => foldedSetIterable iter env x >>= fun x => holding [x] (pyIter x) >>= fun it => runOwn (.compStart e d it acc env) env >>= fun _ => pure ()
theorem turn_L1 {elt tg iter c tg2 iter2 : Expr} {scope : Scope} {pos : Pos} {acc : Value} {env : Env} : TurnIs (.ListComp elt [⟨tg, iter, [c], 0⟩] scope pos) 0 tg iter.pos acc env (testB c env (emitL elt acc env)) := fun it => by
  simp only [compTurn, testB, emitL, emitS, emitD, nestB, List.getElem?_cons_zero, List.getElem?_cons_succ, List.getElem?_nil, List.forIn_cons, List.forIn_nil, bind_assoc, pure_bind, if_true, bne_self_eq_false, Bool.false_eq_true, if_false, Nat.zero_add, Nat.reduceAdd]
  refine bind_congr fun _ => bind_congr fun r => ?_
  cases r with
  | none => rfl
  | some v =>
    refine bind_congr fun _ => bind_congr fun _ => ?_
    first
      | rfl
      | (refine bind_congr fun ok => ?_
         cases ok <;> simp)
      | simp
theorem turn_S1 {elt tg iter c tg2 iter2 : Expr} {scope : Scope} {pos : Pos} {acc : Value} {env : Env} : TurnIs (.SetComp elt [⟨tg, iter, [c], 0⟩] scope pos) 0 tg iter.pos acc env (testB c env (emitS elt acc env)) := fun it => by
  simp only [compTurn, testB, emitL, emitS, emitD, nestB, List.getElem?_cons_zero, List.getElem?_cons_succ, List.getElem?_nil, List.forIn_cons, List.forIn_nil, bind_assoc, pure_bind, if_true, bne_self_eq_false, Bool.false_eq_true, if_false, Nat.zero_add, Nat.reduceAdd]
  refine bind_congr fun _ => bind_congr fun r => ?_
  cases r with
  | none => rfl
  | some v =>
    refine bind_congr fun _ => bind_congr fun _ => ?_
    first
      | rfl
      | (refine bind_congr fun ok => ?_
         cases ok <;> simp)
      | simp
theorem turn_D0 {elt tg iter c tg2 iter2 : Expr} {a : Addr} {scope : Scope} {pos : Pos} {env : Env} : TurnIs (.DictComp elt iter2 [⟨tg, iter, [], 0⟩] scope pos) 0 tg iter.pos (.ref a) env (emitD elt iter2 a env) := fun it => by
  simp only [compTurn, testB, emitL, emitS, emitD, nestB, List.getElem?_cons_zero, List.getElem?_cons_succ, List.getElem?_nil, List.forIn_cons, List.forIn_nil, bind_assoc, pure_bind, if_true, bne_self_eq_false, Bool.false_eq_true, if_false, Nat.zero_add, Nat.reduceAdd]
  refine bind_congr fun _ => bind_congr fun r => ?_
  cases r with
  | none => rfl
  | some v =>
    refine bind_congr fun _ => bind_congr fun _ => ?_
    first
      | rfl
      | (refine bind_congr fun ok => ?_
         cases ok <;> simp)
      | simp
def kApp (te : TE) (acc : Addr) : TK := fun σ H N => te σ H fun y H5 => ∃ ys, H5 acc = some (.lst ys) ∧ ys.length < sizeLine ∧ N (upd H5 acc (.lst (ys ++ [y])))
def kTest (tc : TT) (tk : TK) : TK := fun σ H N => tc σ H fun b H1 => if b = true then tk σ H1 N else N H1
def kNest (wi : TI) (g : TG) (tk : TK) : TK := fun σ H N => wi σ H fun J H1 => ∃ W : Nat → Nat → Hp → Prop, (∃ m, W 0 m H1) ∧ compW σ J g tk N W
section
variable {Y : Cx}
theorem pk_emitL {elt : Expr} {te : TE} {acc : Addr} (he : PE Y elt te) : PTn Y (emitL elt (.ref acc) Y.env) (kApp te acc) := by
  intro pins s σ H N I h
  refine wpAny_bind (thn (he pins s σ H _ I h) fun v s7 ⟨y, H7, I7, r7, ys, ha7, hlen, n⟩ => ?_)
  refine wpAny_bind (thn (mt_append (X := Y) pins s7 σ H7 (.ref acc) [y] (.ref acc) [v] (fun _ H8 => H8 = upd H7 acc (.lst (ys ++ [y]))) I7 rfl (.cons r7 .nil) ⟨acc, ys, y, rfl, rfl, ha7, hlen, rfl⟩) fun _ s8 ⟨_, H8, I8, _, e8⟩ => ?_)
  subst e8
  exact wpAny_pure ⟨σ, _, I8, Wk.refl _, n⟩
theorem pk_test {c : Expr} {tc : TT} {body : Sem Unit} {tk : TK} (ht : PT Y c tc) (hb : PTn Y body tk) : PTn Y (testB c Y.env body) (kTest tc tk) := by
  intro pins s σ H N I h
  refine wpAny_bind (thn (ht pins s σ H _ I h) fun b s1 ⟨H1, I1, q1⟩ => ?_)
  cases b with
  | true =>
    rw [if_pos rfl] at q1 ⊢
    exact hb pins s1 σ H1 N I1 q1
  | false =>
    rw [if_neg Bool.false_ne_true] at q1 ⊢
    exact wpAny_pure ⟨σ, H1, I1, Wk.refl _, q1⟩
end
def tComp (nt : Nat) (ci : List Nat) (wi : TI) (g : TG) (tk : Addr → TK) (o0 : HO) : TE := fun σ H Q => wi σ H fun J H1 => ∀ acc, H1 acc = none → ∃ W : Nat → Nat → Hp → Prop, (∃ m, W 0 m (upd H1 acc o0)) ∧ compW (capt nt ci σ) J g (tk acc) (fun H2 => Q (.ref acc) H2) W
section
variable {X : Cx} {scope : Scope} {cl : List (Str × Addr)} {N' : List Str} {nt : Nat} {ci : List Nat} {pins : List (Addr × Obj)} {σ : St} {H : Hp} {s : Shared}
theorem blk_startO {o0 : HO} (B : BlkOk X scope cl N' nt ci) (I : Inv X pins σ H s) {fp : List Addr} (hf : ∀ b ∈ fp, FpOk X pins H b) (ho : ∀ b ∈ fp, ∃ o, s.heap.get? b = some o) {C acc : Addr} {h1 : Heap} {tk : Nat}
    (hacc : acc = s.heap.objs.size) (hC : C = s.heap.objs.size + 1) (k : ∀ b u, s.heap.get? b = some u → h1.get? b = some u) (ns : h1.Ns C fun _ => none) (ha : ObjOk X.prog X.w (upd H acc o0) h1 acc o0) :
    Inv (blk X N' scope cl s H C fp) [] (capt nt ci σ) (upd H acc o0) { s with heap := h1, toks := tk } := by
  have hn : H acc = none := I.hok.fresh (by rw [hacc]; exact Nat.le_refl _)
  have hnC : H C = none := I.hok.fresh (by rw [hC]; exact Nat.le_succ _)
  have cellLt : ∀ x c, cl.lookup x = some c → c < s.heap.objs.size := fun x c e => by
    obtain ⟨v, q⟩ := I.cell x c (B.sub x c e)
    exact q.lt
  refine ⟨⟨I.ok.mod, B.kind, I.ok.glob, I.ok.blt, ?_, fun x y c e1 e2 => I.ok.inj x y c (B.sub _ _ e1) (B.sub _ _ e2), fun x hx => B.has x hx, fun x c (z : false = true) => Bool.noConfusion z, fun hc => I.ok.hd hc, I.ok.frames, .inl rfl, fun b hb => ?_, I.bs, ?_, fun b o e hb => ?_, fun b hb => ?_, I.stack, fun b hb => I.stkFree b hb⟩,
    rfl, I.bare, Un.laid (a := acc) (o := o0) k (by rw [hacc]; exact Nat.le_refl _) hn, ⟨_, ns, fun i x v e1 e2 e3 => ?_⟩, fun x c e => ?_, ?_, fun x c e => ?_, fun p hp => absurd (show p ∈ ([] : List (Addr × Obj)) from hp) (by simp), I.hok.laid k (by rw [hacc]; exact Nat.le_refl _) ha, ?_⟩
  · show s.heap.objs.size ≤ C
    rw [hC]; exact Nat.le_succ _
  · obtain ⟨f0, f1, f2, f3, f4, f5⟩ := hf b hb
    obtain ⟨o, e⟩ := ho b hb
    refine ⟨?_, fun x c e' => f4 x c (B.sub x c e')⟩
    show b ≠ C
    rw [hC]
    exact Nat.ne_of_lt (Nat.lt_succ_of_lt (Heap.lt_size e))
  · exact Nat.le_trans I.ok.bsz I.sz
  · obtain ⟨f0, f1, f2, f3, f4, f5⟩ := hf b hb
    rcases f3 with z | z
    · exact I.ok.noex b o e z
    · exact absurd (Nat.lt_of_lt_of_le (Heap.lt_size e) (Nat.le_trans I.ok.bsz z)) (Nat.lt_irrefl _)
  · intro z
    obtain ⟨f0, f1, f2, f3, f4, f5⟩ := hf b hb
    rcases List.mem_cons.mp (I.stkSub b z) with y | y
    · exact f1 y
    · exact f2 y
  · -- the names
    obtain ⟨m, hm, hl⟩ := I.loc
    unfold capt at e2
    by_cases hi : i < nt
    · rw [List.getElem?_append_left (by simpa using hi), List.getElem?_replicate] at e2
      split at e2 <;> cases e2
    · rw [List.getElem?_append_right (by simpa using hi), List.length_replicate, List.getElem?_map] at e2
      cases q : ci[i - nt]? with
      | none => rw [q] at e2; cases e2
      | some j =>
        rw [q] at e2
        have e2' : (σ[j]?).join = some v := Option.some.inj e2
        obtain ⟨y, a1, a2, a3, a4⟩ := B.cap _ j q
        have ei : nt + (i - nt) = i := by omega
        rw [ei, show N'[i]? = some x from e1] at a1
        cases a1
        have e2'' : σ[j]? = some (some v) := by
          cases z : σ[j]? with
          | none => rw [z] at e2'; cases e2'
          | some w => rw [z] at e2'; exact congrArg some e2'
        obtain ⟨u, r, l⟩ := hl j x v a2 e2'' (.inr (.inl a3))
        refine ⟨u, r, .inr ⟨a4, ?_⟩⟩
        rcases l with ⟨kk, _⟩ | ⟨_, c, c1, c2⟩
        · have kk' : X.env.scope.names.lookup x = some .local := kk
          rw [a3] at kk'; cases kk'
        · obtain ⟨c', ec⟩ := B.has x a4
          have := B.sub x c' ec
          rw [c1] at this; cases this
          exact ⟨c, ec, let ⟨o, e, d⟩ := c2; ⟨o, k _ _ e, d⟩⟩
  · obtain ⟨v, q⟩ := I.cell x c (B.sub x c e)
    exact ⟨v, let ⟨o, e, d⟩ := q; ⟨o, k _ _ e, d⟩⟩
  · show upd H acc o0 C = none
    rw [upd_ne (by rw [hacc, hC]; exact Nat.succ_ne_self _)]; exact hnC
  · have lt := cellLt x c e
    rw [upd_ne (by rw [hacc]; exact Nat.ne_of_lt lt)]
    exact I.freeC x c (B.sub x c e)
  · show (capt nt ci σ).length = N'.length
    unfold capt
    rw [List.length_append, List.length_replicate, List.length_map, B.len]
theorem cg_core {e : Expr} {gs : List Comprehension} {ifs : List Expr} {body : Addr → Env → Sem Unit} {newAcc : Sem Value} {ob : Obj} {o0 : HO} {p0 : Pos} {tk : Addr → TK} {tg iter : Expr} {pos' : Pos} {wi : TI} {g : TG} {use : Option (Value → Sem Unit)} {Q : VK} {Qf : Value → Shared → Prop} (B : BlkOk X scope cl N' nt ci) (hc : X.calm = true) (hi : PI X tg iter wi)
    (hg : ∀ s H C ex, PG (blk X N' scope cl s H C ex) tg g) (hcl : clausesOf e = ⟨tg, iter, ifs, 0⟩ :: gs) (hden : ∀ acc env, DenIs X.prog X.w X.A e 0 acc env) (htn : ∀ a env, TurnIs e 0 tg p0 (.ref a) env (body a env))
    (hb : ∀ s H C ex a, PTn (blk X N' scope cl s H C ex) (body a (blk X N' scope cl s H C ex).env) (tk a)) (hnew : ∀ {M : Model} {A : Around} {E : Value → Shared → Prop} {s : Shared} {Q : Value → Shared → Prop}, Q (.ref s.heap.objs.size) { s with heap := s.heap.push ob } → wpAny M A newAcc Q E s)
    (hfree : ob.isFreed = false) (hobj : ∀ (H : Hp) (h : Heap) (a : Addr), h.get? a = some ob → sysModules < a → ObjOk X.prog X.w (upd H a o0) h a o0) (hs : ∀ x, foldedSetIterable iter X.env x = pure x) (I : Inv X pins σ H s) (h : tComp nt ci wi g tk o0 σ H Q)
    (fin : ∀ (acc C : Addr) (s' : Shared) (H' : Hp), Inv X pins σ H' s' → Q (.ref acc) H' → (∃ m, s'.heap.Ns C m) → FpOk X pins H' C → (∃ o, s'.heap.get? C = some o ∧ ∀ v, o.data ≠ .cell v) → compPost (model X.prog X.w) X.A X.xe use Qf (.ref acc) C (.ok .next) s') :
    wpAny (model X.prog X.w) X.A (comprehension e scope X.env pos' newAcc false (eval iter X.env) use) Qf X.xe s := by
  refine wpAny_comprehension_free (use := use) hcl hs B.clos B.kind B.names (thn (hi pins s σ H _ I h) fun v s1 h1 => thn h1 fun itv s2 h2 => ?_)
  obtain ⟨it, fp, tn, J, H2, e, I2, T, st2, f2, q2⟩ := h2
  subst e
  have hacc : H2 s2.heap.objs.size = none := I2.hok.fresh (Nat.le_refl _)
  obtain ⟨W, ⟨m0, w0⟩, hW⟩ := q2 s2.heap.objs.size hacc
  refine hnew (wpAny_newFunctionEnv B.cell (by intro y hy; simp at hy) (fun h₁ hns₁ hsb₁ => ?_) B.kind)
  dsimp only at hns₁ hsb₁ ⊢
  have hCs : (s2.heap.push ob).objs.size = s2.heap.objs.size + 1 := Heap.size_push ..
  have k1 : ∀ b u, s2.heap.get? b = some u → h₁.get? b = some u := fun b u e => hsb₁.extBut b u (by rw [hCs]; exact Nat.ne_of_lt (Nat.lt_succ_of_lt (Heap.lt_size e))) (Heap.get?_push_of_some _ (Heap.get?_push_of_some _ e))
  have a1 : h₁.get? s2.heap.objs.size = some ob := hsb₁.extBut _ _ (by rw [hCs]; exact Nat.ne_of_lt (Nat.lt_succ_self _)) (Heap.get?_push_of_some _ (Heap.get?_push_size _ hfree))
  rw [hCs] at hns₁ ⊢
  have hsys : sysModules < s2.heap.objs.size := I2.big
  have I3 := blk_startO (o0 := o0) (tk := s2.toks + ([] : List (Str × Value)).length) B I2 f2 (fun b hb => let ⟨o, e, _⟩ := T.obj _ _ st2 b hb; ⟨o, e⟩) rfl rfl k1 (by simpa using hns₁) (hobj _ _ _ a1 hsys)
  have hfpB : ∀ (H' : Hp), (∀ b ∈ fp, H' b = none) → ∀ b ∈ fp, FpOk (blk X N' scope cl s2 H2 (s2.heap.objs.size + 1) fp) [] H' b := fun H' hn b hb => by
    obtain ⟨f0, f1, f3, f4, f5, f6⟩ := f2 b hb
    obtain ⟨o, e, _⟩ := T.obj _ _ st2 b hb
    refine ⟨hn b hb, ?_, fun z => ?_, .inl hb, fun x c e' => f5 x c (B.sub x c e'), fun p hp => absurd (show p ∈ ([] : List (Addr × Obj)) from hp) (by simp)⟩
    · exact Nat.ne_of_lt (Nat.lt_succ_of_lt (Heap.lt_size e))
    · rcases List.mem_cons.mp (I2.stkSub b z) with y | y
      · exact f1 y
      · exact f3 y
  have hfr3 : ∀ b ∈ fp, upd H2 s2.heap.objs.size o0 b = none := fun b hb => by
    obtain ⟨o, e, _⟩ := T.obj _ _ st2 b hb
    rw [upd_ne (Nat.ne_of_lt (Heap.lt_size e))]; exact (f2 b hb).1
  have st3 : tn 0 h₁ := T.keep _ _ _ st2 fun b _ o e => k1 b o e
  have loop : codeAny (model X.prog X.w) X.A (.compLoop e 0 (.ref it) (.ref s2.heap.objs.size) (compEnvC scope cl (s2.heap.objs.size + 1) X.env))
      (compPost (model X.prog X.w) X.A X.xe use Qf (.ref s2.heap.objs.size) (s2.heap.objs.size + 1)) { s2 with heap := h₁, toks := s2.toks + ([] : List (Str × Value)).length } := by
    refine comp_loop (Y := blk X N' scope cl s2 H2 (s2.heap.objs.size + 1) fp) (Q := fun H' => Q (.ref s2.heap.objs.size) H') hc rfl (hden _ _) (htn _ _) (hg _ _ _ _) (hb _ _ _ _ _) T hfpB hW (fun s' H' I' q => ?_) I3 st3 hfr3 w0
    have un := I'.base
    have ns := I'.loc
    have fC : H' (s2.heap.objs.size + 1) = none := I'.free
    have I4 : Inv X pins σ H' s' := I2.call' I'.os un I'.hok I'.bare fun b hb => by
      obtain ⟨f0, f1, f3, f4, f5, f6⟩ := f2 b hb
      exact ⟨f4, f1, f5, f6⟩
    obtain ⟨m, hm, _⟩ := ns
    have hm' : s'.heap.Ns (s2.heap.objs.size + 1) m := hm
    refine fin _ _ s' H' I4 q ⟨m, hm'⟩ (I2.fpOk (Nat.le_succ _) fC) ?_
    obtain ⟨o, es, ep, e, d, _⟩ := hm'
    exact ⟨o, e, fun v z => by rw [d] at z; cases z⟩
  exact codeAny_compStart_gen (hden _ _) (by rw [hcl]; rfl) rfl loop (T.self _ _ _ _ _ st3 loop)
theorem lst_obj {P : Program} {w : World} (H : Hp) (h : Heap) (a : Addr) (e : h.get? a = some { cls := .type "list", dict := none, data := .seq ([] : List Value).toArray }) (_ : sysModules < a) : ObjOk P w (upd H a (.lst [])) h a (.lst []) := ⟨Nat.zero_le _, [], 0, .nil, e⟩
theorem pe_lcG {elt tg iter : Expr} {ifs : List Expr} {gs : List Comprehension} {pos p0 : Pos} {wi : TI} {g : TG} {tk : Addr → TK} {body : Addr → Env → Sem Unit} (B : X.Ok → BlkOk X scope cl N' nt ci) (hc : X.calm = true) (hi : PI X tg iter wi)
    (hg : ∀ s H C ex, PG (blk X N' scope cl s H C ex) tg g) (htn : ∀ a env, TurnIs (.ListComp elt (⟨tg, iter, ifs, 0⟩ :: gs) scope pos) 0 tg p0 (.ref a) env (body a env))
    (hb : ∀ s H C ex a, PTn (blk X N' scope cl s H C ex) (body a (blk X N' scope cl s H C ex).env) (tk a)) (hs : ∀ x, foldedSetIterable iter X.env x = pure x := by intro _; rfl) :
    PE X (.ListComp elt (⟨tg, iter, ifs, 0⟩ :: gs) scope pos) (tComp nt ci wi g tk (.lst [])) := by
  intro pins s σ H Q I h
  rw [eval_ListComp]
  refine cg_core (B I.ok) hc hi hg rfl (fun _ _ => den_L) htn hb (fun h => wpAny_newObj_type h) rfl lst_obj hs I h fun acc C s' H' I' q hm hf ho => ?_
  obtain ⟨m, hm⟩ := hm
  obtain ⟨f0, f1, f2, f3, f4, f5⟩ := hf
  exact ⟨m, hm, fun h' sb => ⟨.ref acc, H', I'.turned (t' := s'.toks) (fun b o hb e => (sb.2 b hb).trans e) f0 f1 f3 f4 f5, rfl, q⟩⟩
theorem ps_setLCG {i : Nat} {x : Str} {elt tg iter : Expr} {ifs : List Expr} {gs : List Comprehension} {pos spos pos' p0 : Pos} {wi : TI} {g : TG} {tk : Addr → TK} {body : Addr → Env → Sem Unit} (hN : X.N.Nodup) (hi : X.N[i]? = some x) (hx : Loc X.env.scope x) (B : X.Ok → BlkOk X scope cl N' nt ci) (hc : X.calm = true) (hit : PI X tg iter wi)
    (hg : ∀ s H C ex, PG (blk X N' scope cl s H C ex) tg g) (htn : ∀ a env, TurnIs (.ListComp elt (⟨tg, iter, ifs, 0⟩ :: gs) scope pos) 0 tg p0 (.ref a) env (body a env))
    (hb : ∀ s H C ex a, PTn (blk X N' scope cl s H C ex) (body a (blk X N' scope cl s H C ex).env) (tk a)) (hsw : swapsWith (.ListComp elt (⟨tg, iter, ifs, 0⟩ :: gs) scope pos) (some (.Name x pos')) spos.line X.env = pure true)
    (hs : ∀ x, foldedSetIterable iter X.env x = pure x := by intro _; rfl) (hf : X.fn x = true ∨ X.env.scope.names.lookup x = some .local := by first | exact .inl rfl | exact .inr rfl | assumption) :
    PS X (.Assign [.Name x pos'] (.ListComp elt (⟨tg, iter, ifs, 0⟩ :: gs) scope pos) spos) (tAsg (tComp nt ci wi g tk (.lst [])) (gName i)) := by
  intro pins s σ H D I h
  rw [exec_Assign_Name_used _ _ _ _ hsw]
  refine wpAny_bind (wpAny_standAt (wpAny_bind ?_))
  rw [arm_evalThenUse_ListComp]
  refine wpAny_bind (cg_core (B I.ok) hc hit hg rfl (fun _ _ => den_L) htn hb (fun h => wpAny_newObj_type h) rfl lst_obj hs I h fun acc C s' H' I' q hm hfC ho => ?_)
  obtain ⟨f0, f1, f2, f3, f4, f5⟩ := hfC
  obtain ⟨m, hm⟩ := hm
  obtain ⟨o, e, d⟩ := ho
  have Ip : Inv X (pins ++ [(C, o)]) σ H' s' := I'.pins_of fun p hp => (List.mem_append.mp hp).elim (fun z => I'.pin p (List.mem_append_right _ z)) fun z => by
    have e' : p = (C, o) := by simpa using z
    subst e'
    exact ⟨e, f0, f1, f2, d⟩
  refine wpAny_assign_Name (store_ok Ip hN hi hx (show RelV (.ref acc) (Value.ref acc) from rfl) (fun s2 I2 => ?_) hf)
  have e2 := (I2.pin (C, o) (List.mem_append_right _ (List.mem_append_right _ (by simp)))).1
  obtain ⟨o', es, ep, h1, h2, h3⟩ := hm
  rw [e] at h1; cases h1
  refine ⟨m, ⟨o, es, ep, e2, h2, h3⟩, fun h' sb => wpAny_pure (wpAny_pure ?_)⟩
  have I3 : Inv X pins (σ.set i (some (.ref acc))) H' s2 := I2.unpinned
  exact ⟨_, H', I3.turned (t' := s2.toks) (fun b o hb e => (sb.2 b hb).trans e) f0 f1 f3 f4 f5, q⟩
end
end L2
set_option Elab.async false
set_option linter.all false
set_option maxRecDepth 100000
set_option maxHeartbeats 2000000
namespace Ken
open PySem L2
section
variable {n : Nat} {lt : Nat → Nat → Bool} {cmp : Nat → Nat → (Bool → Shared → Prop) → Shared → Prop} {S : Shared → Prop}
end
end Ken
set_option Elab.async false
set_option linter.all false
set_option maxRecDepth 100000
set_option maxHeartbeats 2000000
namespace L2
open PySem PySem.Spec PyProof.Rows
def EntsAt (d : Addr) (es : Array DictEntry) (ep : Nat) (h : Heap) : Prop := ∃ od, h.get? d = some od ∧ od.ExactDict ∧ od.data = .dict es ep
theorem EntsAt.at {d : Addr} {es : Array DictEntry} {ep : Nat} {h h' : Heap} (x : EntsAt d es ep h) (k : ∀ o, h.get? d = some o → h'.get? d = some o) : EntsAt d es ep h' := by
  obtain ⟨od, h1, h2, h3⟩ := x
  exact ⟨od, k _ h1, h2, h3⟩
end L2
set_option Elab.async false
set_option linter.all false
set_option maxRecDepth 100000
set_option maxHeartbeats 2000000
namespace L2
open PySem PySem.Spec PyProof.Rows
def sLt (x y : Str) : Bool := decide (x.cps.toList < y.cps.toList)
def lexT : List Str → List Str → Bool
  | [], [] => false
  | [], _ :: _ => true
  | _ :: _, [] => false
  | x :: xs, y :: ys => if x = y then lexT xs ys else sLt x y
def TupS (h : Heap) (v : Value) (k : List Str) : Prop := ∃ a o its n, v = .ref a ∧ h.get? a = some o ∧ o.cls = .type "tuple" ∧ o.data = .seq its n ∧ StrsAre its.toList k
theorem TupS.at {h h' : Heap} {v : Value} {k : List Str} (x : TupS h v k) (kp : ∀ a o, v = .ref a → h.get? a = some o → h'.get? a = some o) : TupS h' v k := by
  obtain ⟨a, o, its, n, e, h1, h2, h3, h4⟩ := x
  exact ⟨a, o, its, n, e, kp a o e h1, h2, h3, h4⟩
section
variable {X : Cx}
def keyS : List Key → List Str
  | [] => []
  | .inr x :: r => x :: keyS r
  | .inl _ :: r => keyS r
end
end L2
set_option Elab.async false
set_option linter.all false
set_option maxRecDepth 100000
set_option maxHeartbeats 2000000
namespace L2
open PySem PySem.Spec PyProof.Rows
section
variable {X : Cx} {pins : List (Addr × Obj)} {σ : St} {H : Hp} {s : Shared} {a : Addr} {y v : V} {u r : Value} {A : Around} {E : Value → Shared → Prop}
theorem d_dictSet {H' : Hp} {Q : Unit → Shared → Prop} (hu : A.units < cLine) (I : Inv X pins σ H s) (g : DPut H a y v H') (ry : RelV y u) (rv : RelV v r) (h : ∀ s', Inv X pins σ H' s' → Q () s') :
    wpAny (model X.prog X.w) A (dictSet a u r) Q E s := by
  rcases g with ⟨kvs, k, e, ey, l, eH⟩ | ⟨kvs, k, b, e, ey, eb, l, eH⟩
  · subst ey eH
    obtain ⟨z, hd, vs, rel, dd⟩ := dk_of I.hok e
    have hz : vs.length ≤ sizeLine := by rw [← rel.length]; exact z
    have hl : (putK kvs k v).length ≤ sizeLine := by have := length_putK kvs k v; omega
    refine wpAny_dictSet_pairs (hsz := hz) (kV_is ry) dd fun h' dd' hs => h _ ?_
    have he : ∃ q, h'.get? a = some q := let ⟨q, _, _, hq, _⟩ := dd'; ⟨q, hq⟩
    exact d_write I (by rw [e]; exact True.intro) hs he (dk_new hl hd (rel.put k rv) dd')
  · subst ey eH
    cases (show u = Value.ref b from ry)
    obtain ⟨z, hd, xs, rel, dd⟩ := dt_of I.hok e
    have hz : xs.length ≤ sizeLine := by rw [← Paired.length rel]; exact z
    have hl : (putK kvs k v).length ≤ sizeLine := by have := length_putK kvs k v; omega
    refine wpAny_dictSet_heap (hsz := hz) (knd := tupleKind (mixKind X.prog X.w)) hu (key_of I.hok eb) dd fun h' dd' hs => h _ ?_
    obtain ⟨q, es, ep, hq, h2, h3, h4, _, h5⟩ := dd'
    refine d_write I (by rw [e]; exact True.intro) hs ⟨q, hq⟩ ⟨hl, hd, _, (rel.put k eb rv).keeps fun c ys ec => ?_, q, es, ep, hq, h2, h3, h4, h5⟩
    rw [upd_ne (ne_of ec e (fun z => nomatch z))]
    exact ec
end
def kPut (tk tv : TE) (acc : Addr) : TK := fun σ H N => tk σ H fun y H1 => tv σ H1 fun x H2 => ∃ H3, DPut H2 acc y x H3 ∧ N H3
section
variable {Y : Cx}
theorem pk_emitD {k v : Expr} {tk tv : TE} {acc : Addr} (hu : Y.A.units < cLine) (hk : PE Y k tk) (hv : PE Y v tv) : PTn Y (emitD k v acc Y.env) (kPut tk tv acc) := by
  intro pins s σ H N I h
  refine wpAny_bind (thn (hk pins s σ H _ I h) fun kv s1 ⟨y, H1, I1, r1, h1⟩ => ?_)
  refine wpAny_bind (wpAny_holding (thn (hv pins s1 σ H1 _ I1 h1) fun vv s2 ⟨x, H2, I2, r2, H3, g, n⟩ => ?_))
  refine wpAny_bind (wpAny_standAt (wpAny_holding ?_))
  exact d_dictSet hu I2 g r1 r2 fun s' I' => ⟨σ, _, I', Wk.refl _, n⟩
end
section
variable {X : Cx} {scope : Scope} {cl : List (Str × Addr)} {N' : List Str} {nt : Nat} {ci : List Nat} {pins : List (Addr × Obj)} {σ : St} {H : Hp} {s : Shared}
end
theorem comp_list {K : PySem.W.Frag} {a : Addr} {xs : List V} {σ0 : St} {g : TG} {tk : TK} {Q : Hp → Prop} {H : Hp} (Pv : Nat → Hp → Prop) (h0 : Pv 0 H) (hl : ∀ i H, i ≤ xs.length → Pv i H → SqL K H a xs)
    (hs : ∀ i x H (N : Hp → Prop), xs[i]? = some x → Pv i H → (∀ H', Pv (i + 1) H' → N H') → g x σ0 H fun σ4 H4 => Wk σ0 σ4 ∧ tk σ4 H4 N) (hd : ∀ H, Pv xs.length H → Q H) :
    ∃ W : Nat → Nat → Hp → Prop, (∃ m, W 0 m H) ∧ compW σ0 (Itl K a) g tk Q W := by
  refine ⟨fun i m H => m = xs.length - i ∧ i ≤ xs.length ∧ Pv i H, ⟨xs.length, by simp, Nat.zero_le _, h0⟩, ?_⟩
  rintro i m H ⟨rfl, hi, p⟩
  have q := hl i H hi p
  by_cases hlt : i < xs.length
  · refine .inr ⟨⟨xs, xs[i], q, by simp [hlt]⟩, fun x H' y => ?_⟩
    obtain ⟨e, y⟩ := y
    subst e
    exact hs i x H' _ (y xs q) p fun H5 p5 => ⟨xs.length - (i + 1), by omega, rfl, hlt, p5⟩
  · have e : i = xs.length := by omega
    subst e
    exact .inl ⟨⟨xs, q, Nat.le_refl _⟩, hd _ p⟩
section
variable {X : Cx} {K : PySem.W.Frag} {tg l : Expr} {tl : TE}
theorem call_isiK (e : X.K = K) : CallR X (.builtin "isinstance") (rIsi K) := by subst e; exact call_isi
end
end L2
set_option Elab.async false
set_option linter.all false
set_option maxRecDepth 100000
set_option maxHeartbeats 2000000
namespace Ken
open PySem L2
def Tm.kids : Tm → List Tm
  | .nd _ a b => [a, b]
  | _ => []
def Tm.pre : Tm → List Tm
  | .low => [.low]
  | .ltr w => [.ltr w]
  | .nd k a b => .nd k a b :: (a.pre ++ b.pre)
theorem Tm.pre_len : ∀ t : Tm, t.pre.length = t.parts
  | .low => rfl
  | .ltr _ => rfl
  | .nd _ a b => by
    show (a.pre ++ b.pre).length + 1 = 1 + a.parts + b.parts
    rw [List.length_append, a.pre_len, b.pre_len]; omega
theorem Tm.pre_eq (t : Tm) : t.pre = t :: t.kids.flatMap Tm.pre := by
  cases t with
  | low => rfl
  | ltr w => rfl
  | nd k a b => show _ :: (a.pre ++ b.pre) = _ :: (a.pre ++ (b.pre ++ [])); rw [List.append_nil]
def Tm.own : Tm → List Str
  | .low => ["low"]
  | .ltr w => ["letter", w]
  | .nd k _ _ => [k.str]
def Tm.spell (t : Tm) : List Str := t.pre.flatMap Tm.own
theorem spell_nd (k : Kd) (a b : Tm) : (Tm.nd k a b).spell = k.str :: (a.spell ++ b.spell) := by
  show (Tm.nd k a b :: (a.pre ++ b.pre)).flatMap Tm.own = _
  rw [List.flatMap_cons, List.flatMap_append]; rfl
theorem spell_pre : ∀ {s t : Tm} {l m : List Str}, s.spell ++ l = t.spell ++ m → s = t ∧ l = m
  | .low, .low, l, m, h => ⟨rfl, by have := List.cons.inj (show ("low" : Str) :: l = ("low" : Str) :: m from h); exact this.2⟩
  | .low, .ltr w, l, m, h => absurd (List.cons.inj (show ("low" : Str) :: l = ("letter" : Str) :: (w :: m) from h)).1 (by decide)
  | .low, .nd k a b, l, m, h => by
    rw [spell_nd] at h
    exact absurd (List.cons.inj (show ("low" : Str) :: l = k.str :: ((a.spell ++ b.spell) ++ m) from h)).1 (by cases k <;> decide)
  | .ltr w, .low, l, m, h => absurd (List.cons.inj (show ("letter" : Str) :: (w :: l) = ("low" : Str) :: m from h)).1 (by decide)
  | .ltr w, .ltr v, l, m, h => by
    have h1 := (List.cons.inj (show ("letter" : Str) :: (w :: l) = ("letter" : Str) :: (v :: m) from h)).2
    obtain ⟨e1, e2⟩ := List.cons.inj h1
    exact ⟨by rw [e1], e2⟩
  | .ltr w, .nd k a b, l, m, h => by
    rw [spell_nd] at h
    exact absurd (List.cons.inj (show ("letter" : Str) :: (w :: l) = k.str :: ((a.spell ++ b.spell) ++ m) from h)).1 (by cases k <;> decide)
  | .nd k a b, .low, l, m, h => by
    rw [spell_nd] at h
    exact absurd (List.cons.inj (show k.str :: ((a.spell ++ b.spell) ++ l) = ("low" : Str) :: m from h)).1 (by cases k <;> decide)
  | .nd k a b, .ltr w, l, m, h => by
    rw [spell_nd] at h
    exact absurd (List.cons.inj (show k.str :: ((a.spell ++ b.spell) ++ l) = ("letter" : Str) :: (w :: m) from h)).1 (by cases k <;> decide)
  | .nd k a b, .nd k' c d, l, m, h => by
    rw [spell_nd, spell_nd] at h
    obtain ⟨e1, e2⟩ := List.cons.inj (show k.str :: ((a.spell ++ b.spell) ++ l) = k'.str :: ((c.spell ++ d.spell) ++ m) from h)
    rw [List.append_assoc, List.append_assoc] at e2
    obtain ⟨f1, f2⟩ := spell_pre e2
    obtain ⟨g1, g2⟩ := spell_pre f2
    exact ⟨by rw [Kd.str_inj e1, f1, g1], g2⟩
theorem spell_inj {s t : Tm} (h : s.spell = t.spell) : s = t := (spell_pre (l := []) (m := []) (by rw [h])).1
theorem paired_keepT {K : PySem.W.Frag} {H H' : Hp} (k : KeepT K H H') {us : List V} {ts : List Tm} (h : Paired (IsT K H) us ts) : Paired (IsT K H') us ts := Paired.mapP h fun _ _ z => z.keep k
def sp_within (K : PySem.W.Frag) : Sp := fun vs H Q _ => ∃ (v : V) (t : Tm), vs = [v] ∧ IsT K H v t ∧
  ∀ (r : Addr) (H' : Hp) (us : List V), Same H H' → H r = none → H' r = some (.lst us) → Paired (IsT K H') us t.kids → Q (.ref r) H'
def sp_pieces (K : PySem.W.Frag) : Sp := fun vs H Q _ => ∃ (v : V) (t : Tm), vs = [v] ∧ IsT K H v t ∧ t.parts ≤ 400 ∧
  ∀ (r : Addr) (H' : Hp) (us : List V), Same H H' → H r = none → H' r = some (.lst us) → Paired (IsT K H') us t.pre → Q (.ref r) H'
end Ken
set_option Elab.async false
set_option linter.all false
set_option maxRecDepth 100000
set_option maxHeartbeats 2000000
namespace Ken
open PySem L2
theorem len_le_of_sub {α : Type} [DecidableEq α] : ∀ {l m : List α}, l.Nodup → (∀ x ∈ l, x ∈ m) → l.length ≤ m.length
  | [], m, _, _ => Nat.zero_le _
  | x :: l, m, hn, hs => by
    have hx := hs x List.mem_cons_self
    have hn' := List.nodup_cons.mp hn
    have : l.length ≤ (m.erase x).length := len_le_of_sub hn'.2 fun y hy => by
      have hne : y ≠ x := fun z => hn'.1 (z ▸ hy)
      exact (List.mem_erase_of_ne hne).mpr (hs y (List.mem_cons_of_mem _ hy))
    rw [List.length_erase_of_mem hx] at this
    have : 0 < m.length := List.length_pos_of_mem hx
    rw [List.length_cons]
    omega
abbrev Wd := Option Nat × List Str
def bV : Option Nat → V
  | none => .non
  | some j => .int (j : Nat)
def AtW (K : PySem.W.Frag) (H : Hp) (v : V) (x : Wd) : Prop := ∃ p q, v = .ref p ∧ SqT K H p [bV x.1, .ref q] ∧ H q = some (.lst (x.2.map V.str))
theorem AtW.keep {K : PySem.W.Frag} {H H' : Hp} (e : Same H H') {v : V} {x : Wd} (h : AtW K H v x) : AtW K H' v x := by
  obtain ⟨p, q, rfl, h1, h2⟩ := h
  exact ⟨p, q, rfl, e.sqt h1, e _ _ h2⟩
abbrev AtWs (K : PySem.W.Frag) (H : Hp) : List V → List Wd → Prop := Paired (AtW K H)
theorem AtWs.keep {K : PySem.W.Frag} {H H' : Hp} (e : Same H H') {vs : List V} {ws : List Wd} (h : AtWs K H vs ws) : AtWs K H' vs ws := Paired.mapP h fun _ _ q => q.keep e
def goodB (ws : List Wd) : Prop := ∀ k x, ws[k]? = some x → (k = 0 → x.1 = none) ∧ (0 < k → ∃ j, x.1 = some j ∧ j < k)
def inWs (us : List Str) (ws : List Wd) : Prop := ∀ x ∈ ws, x.2.Nodup ∧ ∀ y ∈ x.2, y ∈ us
def okWs (ws : List Wd) : Prop := ∀ x ∈ ws, ∀ y ∈ x.2, Word y
def bef (ws : List Wd) (n : Nat) : Option Nat := (ws[n]?).bind (·.1)
def goes (ws : List Wd) (l : List Nat) (k : Nat) : Bool := match bef ws k with
  | none => false
  | some j => decide (j ∈ l)
def latN (ws : List Wd) (w : Nat) : Nat → List Nat
  | 0 => [w]
  | n + 1 => if goes ws (latN ws w n) (w + 1 + n) = true then latN ws w n ++ [w + 1 + n] else latN ws w n
theorem latN_le {ws : List Wd} {w : Nat} : ∀ n, ∀ x ∈ latN ws w n, w ≤ x ∧ x ≤ w + n
  | 0, x, h => by
    have : x = w := by simpa [latN] using h
    omega
  | n + 1, x, h => by
    unfold latN at h
    split at h
    · rcases List.mem_append.mp h with h | h
      · have := latN_le n x h; omega
      · have : x = w + 1 + n := by simpa using h
        omega
    · have := latN_le n x h; omega
theorem latN_len {ws : List Wd} {w : Nat} : ∀ n, (latN ws w n).length ≤ n + 1 ∧ 1 ≤ (latN ws w n).length
  | 0 => by simp [latN]
  | n + 1 => by
    have := latN_len (ws := ws) (w := w) n
    unfold latN
    split
    · rw [List.length_append, List.length_singleton]; omega
    · omega
theorem latN_head {ws : List Wd} {w : Nat} : ∀ n, (latN ws w n)[0]? = some w
  | 0 => rfl
  | n + 1 => by
    have h := latN_head (ws := ws) (w := w) n
    have l := (latN_len (ws := ws) (w := w) n).2
    unfold latN
    split
    · rw [List.getElem?_append_left (by omega)]; exact h
    · exact h
theorem latN_sorted {ws : List Wd} {w : Nat} : ∀ n, (latN ws w n).Pairwise (· < ·)
  | 0 => by simp [latN]
  | n + 1 => by
    have h := latN_sorted (ws := ws) (w := w) n
    unfold latN
    split
    · rw [List.pairwise_append]
      refine ⟨h, List.pairwise_singleton _ _, fun a ha b hb => ?_⟩
      have := latN_le n a ha
      have : b = w + 1 + n := by simpa using hb
      omega
    · exact h
structure Closed (ws : List Wd) (w : Nat) (L : List Nat) : Prop where
  head : L[0]? = some w
  rise : L.Pairwise (· < ·)
  low : ∀ x ∈ L, x < ws.length
  len : L.length ≤ 1000
  mem : ∀ n, w < n → n < ws.length → ((n ∈ L) ↔ ∃ j, bef ws n = some j ∧ j ∈ L)
theorem latN_mem {ws : List Wd} {w : Nat} (hg : goodB ws) : ∀ n, w + n < ws.length → ∀ m, w < m → m ≤ w + n → ((m ∈ latN ws w n) ↔ ∃ j, bef ws m = some j ∧ j ∈ latN ws w n)
  | 0, _, m, h1, h2 => by omega
  | n + 1, hn, m, h1, h2 => by
    have ih := latN_mem (w := w) hg n (by omega)
    have hb : ∀ k, 0 < k → k < ws.length → ∃ j, bef ws k = some j ∧ j < k := fun k h0 hk => by
      obtain ⟨j, e, hj⟩ := (hg k ws[k] (List.getElem?_eq_getElem hk)).2 h0
      exact ⟨j, by unfold bef; rw [List.getElem?_eq_getElem hk]; exact e, hj⟩
    obtain ⟨jm, ejm, ljm⟩ := hb m (by omega) (by omega)
    obtain ⟨jt, ejt, ljt⟩ := hb (w + 1 + n) (by omega) (by omega)
    have top : ∀ x ∈ latN ws w n, x ≠ w + 1 + n := fun x hx z => by have := latN_le n x hx; omega
    have eg : goes ws (latN ws w n) (w + 1 + n) = decide (jt ∈ latN ws w n) := by unfold goes; rw [ejt]
    unfold latN
    rw [eg]
    by_cases hm : m = w + 1 + n
    · subst hm
      by_cases hin : jt ∈ latN ws w n
      · rw [if_pos (by simpa using hin)]
        refine ⟨fun _ => ⟨jt, ejt, List.mem_append_left _ hin⟩, fun _ => List.mem_append_right _ (by simp)⟩
      · rw [if_neg (by simpa using hin)]
        refine ⟨fun z => absurd rfl (top _ z), fun ⟨j, e, hj⟩ => ?_⟩
        rw [ejt] at e
        cases e
        exact absurd hj hin
    · have ih' := ih m h1 (by omega)
      have hjm : jm ≠ w + 1 + n := by omega
      have iff1 : ∀ {x : Nat} {c : Bool}, x ≠ w + 1 + n → ((x ∈ (if c = true then latN ws w n ++ [w + 1 + n] else latN ws w n)) ↔ x ∈ latN ws w n) := fun {x c} hx => by
        cases c
        · rw [if_neg Bool.false_ne_true]
        · rw [if_pos rfl, List.mem_append]
          exact ⟨fun z => z.elim id fun z => absurd (by simpa using z) hx, .inl⟩
      rw [iff1 hm, ih']
      constructor
      · rintro ⟨j, e, hj⟩
        rw [ejm] at e
        cases e
        exact ⟨jm, ejm, (iff1 hjm).mpr hj⟩
      · rintro ⟨j, e, hj⟩
        rw [ejm] at e
        cases e
        exact ⟨jm, ejm, (iff1 hjm).mp hj⟩
theorem latN_closed {ws : List Wd} {w : Nat} (hg : goodB ws) (hw : w < ws.length) (hl : ws.length ≤ 900) : Closed ws w (latN ws w (ws.length - (w + 1))) where
  head := latN_head _
  rise := latN_sorted _
  low := fun x hx => by have := latN_le _ x hx; omega
  len := by have := (latN_len (ws := ws) (w := w) (ws.length - (w + 1))).1; omega
  mem := fun n h1 h2 => latN_mem hg _ (by omega) n h1 (by omega)
def natsV (L : List Nat) : List V := L.map fun n => V.int (n : Nat)
def sp_copyW (K : PySem.W.Frag) : Sp := fun vs H Q _ => ∃ (a : Addr) (xs : List V) (ws : List Wd), vs = [.ref a] ∧ H a = some (.lst xs) ∧ AtWs K H xs ws ∧ ws.length ≤ 1000 ∧
  ∀ (r : Addr) (H' : Hp) (ys : List V), Same H H' → H r = none → H' r = some (.lst ys) → AtWs K H' ys ws → Q (.ref r) H'
abbrev latD (L : List Nat) : List (Key × V) := L.map fun n => (Sum.inl ((n : Nat) : Int), V.bl true)
theorem lat_val (L : List Nat) (j : Nat) : (valV (latD L) (Sum.inl ((j : Nat) : Int))).isSome = decide (j ∈ L) := by
  rw [← valV_any]
  induction L with
  | nil => rfl
  | cons n L ih =>
    show (decide ((Sum.inl ((n : Nat) : Int) : Key) = Sum.inl ((j : Nat) : Int)) || (latD L).any _) = _
    rw [ih]
    by_cases h : n = j
    · subst h; simp
    · have : ¬ (j = n) := fun z => h z.symm
      simp [h, this]
      intro z; omega
theorem lat_none {L : List Nat} {j : Nat} (h : ¬ j ∈ L) : valV (latD L) (Sum.inl ((j : Nat) : Int)) = none := by
  have := lat_val L j
  rw [decide_eq_false h] at this
  cases e : valV (latD L) (Sum.inl ((j : Nat) : Int)) with
  | none => rfl
  | some v => rw [e] at this; cases this
theorem in_nats (L : List Nat) (j : Nat) : inV (.int (j : Nat)) (natsV L) = decide (j ∈ L) := by
  unfold inV natsV
  induction L with
  | nil => rfl
  | cons n L ih =>
    rw [List.map_cons, List.any_cons, ih]
    have e : eqV (.int ((n : Nat) : Int)) (.int ((j : Nat) : Int)) = decide (n = j) := by
      show decide (((n : Nat) : Int) = ((j : Nat) : Int)) = _
      exact decide_eq_decide.mpr (by omega)
    rw [e]
    by_cases h : n = j
    · subst h; simp
    · have : ¬ (j = n) := fun z => h z.symm
      simp [h, this]
theorem nats_flat (L : List Nat) : (natsV L).all flatV = true := by
  unfold natsV
  rw [List.all_eq_true]
  intro v hv
  obtain ⟨n, _, rfl⟩ := List.mem_map.mp hv
  rfl
def AtWn (K : PySem.W.Frag) (H : Hp) (acc : Addr) (v : V) (x : Wd) : Prop := ∃ p q, q ≠ acc ∧ v = .ref p ∧ SqT K H p [bV x.1, .ref q] ∧ H q = some (.lst (x.2.map V.str))
theorem AtWn.at {K : PySem.W.Frag} {H : Hp} {acc : Addr} {v : V} {x : Wd} (h : AtWn K H acc v x) : AtW K H v x := by
  obtain ⟨p, q, _, e, h1, h2⟩ := h
  exact ⟨p, q, e, h1, h2⟩
theorem AtWn.keep {K : PySem.W.Frag} {H H' : Hp} {acc : Addr} (e : Same H H') {v : V} {x : Wd} (h : AtWn K H acc v x) : AtWn K H' acc v x := by
  obtain ⟨p, q, n, rfl, h1, h2⟩ := h
  exact ⟨p, q, n, rfl, e.sqt h1, e _ _ h2⟩
theorem AtWn.write {K : PySem.W.Frag} {H : Hp} {acc : Addr} {ys : List V} {o : HO} (ha : H acc = some (.lst ys)) {v : V} {x : Wd} (h : AtWn K H acc v x) : AtWn K (upd H acc o) acc v x := by
  obtain ⟨p, q, n, rfl, h1, h2⟩ := h
  exact ⟨p, q, n, rfl, keepT_lst ha _ _ h1, by rw [upd_ne n]; exact h2⟩
theorem in_strs (L : List Str) (z : Str) : inV (.str z) (L.map V.str) = decide (z ∈ L) := by
  unfold inV
  induction L with
  | nil => rfl
  | cons n L ih =>
    rw [List.map_cons, List.any_cons, ih]
    have e : eqV (.str n) (.str z) = decide (n = z) := rfl
    rw [e]
    by_cases h : n = z
    · subst h; simp
    · have : ¬ (z = n) := fun y => h y.symm
      simp [h, this]
theorem strs_flat (L : List Str) : (L.map V.str).all flatV = true := by
  rw [List.all_eq_true]
  intro v hv
  obtain ⟨n, _, rfl⟩ := List.mem_map.mp hv
  rfl
def natsD (L : List Nat) : List PyData := L.map fun n => .int (n : Nat)
theorem nats_dn {K : PySem.W.Frag} {H : Hp} : ∀ L : List Nat, DnAll K H (natsV L) (natsD L)
  | [] => by show DnAll K H [] []; rw [DnAll]
  | n :: L => by
    show DnAll K H (.int (n : Nat) :: natsV L) (.int (n : Nat) :: natsD L)
    rw [DnAll]
    exact ⟨_, _, rfl, by rw [Dn], nats_dn L⟩
theorem nats_lay (L : List Nat) : (PyData.list (natsD L)).canLay0 = true := canLay_list fun d hd => by
  obtain ⟨n, _, rfl⟩ := List.mem_map.mp hd
  rfl
theorem natsV_len (L : List Nat) : (natsV L).length = L.length := List.length_map _
end Ken
set_option Elab.async false
set_option linter.all false
set_option maxRecDepth 100000
set_option maxHeartbeats 2000000
namespace Ken
open PySem L2
def bD : Option Nat → PyData
  | none => .none
  | some j => .int (j : Nat)
def wdD (x : Wd) : PyData := .tuple [bD x.1, .list (x.2.map PyData.str)]
theorem bD_dn {K : PySem.W.Frag} {H : Hp} (b : Option Nat) : Dn K H (bV b) (bD b) := by
  cases b
  · show Dn K H .non .none; rw [Dn]
  · show Dn K H (.int _) (.int _); rw [Dn]
theorem strs_dn {K : PySem.W.Frag} {H : Hp} : ∀ L : List Str, DnAll K H (L.map V.str) (L.map PyData.str)
  | [] => by show DnAll K H [] []; rw [DnAll]
  | n :: L => by
    show DnAll K H (.str n :: L.map V.str) (.str n :: L.map PyData.str)
    rw [DnAll]
    exact ⟨_, _, rfl, by rw [Dn], strs_dn L⟩
theorem AtW.dn {K : PySem.W.Frag} {H : Hp} {v : V} {x : Wd} (h : AtW K H v x) : Dn K H v (wdD x) := by
  obtain ⟨p, q, rfl, h1, h2⟩ := h
  show Dn K H (.ref p) (.tuple [bD x.1, .list (x.2.map PyData.str)])
  rw [Dn]
  refine ⟨p, _, rfl, h1, ?_⟩
  rw [DnAll]
  refine ⟨_, _, rfl, bD_dn _, ?_⟩
  rw [DnAll]
  refine ⟨_, _, rfl, ?_, by rw [DnAll]⟩
  rw [Dn]
  exact ⟨q, _, rfl, SqL.of h2, strs_dn _⟩
theorem wds_dn {K : PySem.W.Frag} {H : Hp} : ∀ {vs : List V} {ws : List Wd}, AtWs K H vs ws → DnAll K H vs (ws.map wdD)
  | _, _, .nil => by show DnAll K H [] []; rw [DnAll]
  | _, _, .cons h t => by
    rw [List.map_cons, DnAll]
    exact ⟨_, _, rfl, h.dn, wds_dn t⟩
theorem wd_lay {x : Wd} (h : ∀ y ∈ x.2, Word y) : (wdD x).canLay0 = true := by
  show ((bD x.1).canLay0 && ((PyData.list (x.2.map PyData.str)).canLay0 && true)) = true
  have h1 : (bD x.1).canLay0 = true := by cases x.1 <;> rfl
  have h2 : (PyData.list (x.2.map PyData.str)).canLay0 = true := canLay_list fun d hd => by
    obtain ⟨y, hy, rfl⟩ := List.mem_map.mp hd
    exact Word.strOk (h y hy)
  rw [h1, h2]; rfl
theorem wds_lay {ws : List Wd} (h : okWs ws) : (PyData.list (ws.map wdD)).canLay0 = true := canLay_list fun d hd => by
  obtain ⟨x, hx, rfl⟩ := List.mem_map.mp hd
  exact wd_lay (h x hx)
theorem eqvAll_self : ∀ {ds : List PyData}, (∀ d ∈ ds, PyData.eqv d d = true) → PyData.eqvAll ds ds = true
  | [], _ => rfl
  | d :: ds, h => by
    show (PyData.eqv d d && PyData.eqvAll ds ds) = true
    rw [h d List.mem_cons_self, eqvAll_self fun e he => h e (List.mem_cons_of_mem _ he)]; rfl
theorem str_self (x : Str) : PyData.eqv (.str x) (.str x) = true := by show (x == x) = true; simp
theorem wd_self (x : Wd) : PyData.eqv (wdD x) (wdD x) = true := by
  refine eqvAll_self (ds := [bD x.1, .list (x.2.map PyData.str)]) fun d hd => ?_
  simp only [List.mem_cons, List.not_mem_nil, or_false] at hd
  rcases hd with rfl | rfl
  · cases x.1 with
    | none => rfl
    | some j => show ((j : Int) == (j : Int)) = true; simp
  · refine eqvAll_self (ds := x.2.map PyData.str) fun d hd => ?_
    obtain ⟨y, _, rfl⟩ := List.mem_map.mp hd
    exact str_self y
theorem wds_self (ws : List Wd) : PyData.eqv (.list (ws.map wdD)) (.list (ws.map wdD)) = true := eqvAll_self fun d hd => by
  obtain ⟨x, _, rfl⟩ := List.mem_map.mp hd
  exact wd_self x
theorem nats_self (L : List Nat) : PyData.eqv (.list (natsD L)) (.list (natsD L)) = true := eqvAll_self fun d hd => by
  obtain ⟨n, _, rfl⟩ := List.mem_map.mp hd
  show ((n : Int) == (n : Int)) = true; simp
theorem depth_list {ds : List PyData} {n : Nat} (h : ∀ d ∈ ds, d.depth ≤ n) : (PyData.list ds).depth ≤ n + 1 := by
  show PyData.depthAll ds + 1 ≤ n + 1
  have : PyData.depthAll ds ≤ n := by
    induction ds with
    | nil => exact Nat.zero_le _
    | cons d ds ih =>
      show max d.depth (PyData.depthAll ds) ≤ n
      exact Nat.max_le.mpr ⟨h d List.mem_cons_self, ih fun e he => h e (List.mem_cons_of_mem _ he)⟩
  omega
theorem nats_depth (L : List Nat) : (PyData.list (natsD L)).depth ≤ 1 := depth_list (n := 0) fun d hd => by
  obtain ⟨n, _, rfl⟩ := List.mem_map.mp hd
  exact Nat.le_refl _
theorem wds_depth (ws : List Wd) : (PyData.list (ws.map wdD)).depth ≤ 3 := depth_list (n := 2) fun d hd => by
  obtain ⟨x, _, rfl⟩ := List.mem_map.mp hd
  have h1 : (bD x.1).depth = 0 := by cases x.1 <;> rfl
  have h2 : (PyData.list (x.2.map PyData.str)).depth ≤ 1 := depth_list (n := 0) fun d hd => by
    obtain ⟨y, _, rfl⟩ := List.mem_map.mp hd
    exact Nat.le_refl _
  show max (bD x.1).depth (max (PyData.list (x.2.map PyData.str)).depth 0) + 1 ≤ 2
  omega
theorem inWs.ok {us : List Str} (hu : ∀ u ∈ us, Word u) {ws : List Wd} (h : inWs us ws) : okWs ws := fun x hx y hy => hu y ((h x hx).2 y hy)
end Ken
set_option Elab.async false
set_option linter.all false
set_option maxRecDepth 100000
set_option maxHeartbeats 2000000
namespace L2
open PySem PySem.Spec PyProof.Rows Ken
theorem orStandIn_led (t : SetTable) (n : Nat) : (t.orStandIn n).led = t.led := by
  unfold SetTable.orStandIn; split <;> rfl
theorem orStandIn_plain (t : SetTable) (n : Nat) (h : t.plain = false) : (t.orStandIn n).plain = false := by
  unfold SetTable.orStandIn; split
  · exact h
  · rfl
theorem layNew_led (t : SetTable) (es : Array (Int × Value)) (h : Int) (x : Value) : (layNew t es h x).2.1.led = t.led := by
  unfold layNew
  split
  · show ((t.put _).1.orStandIn _).led = t.led
    rw [orStandIn_led]; rfl
  · rfl
theorem layNew_plain (t : SetTable) (es : Array (Int × Value)) (h : Int) (x : Value) (hp : t.plain = false) : (layNew t es h x).2.1.plain = false := by
  unfold layNew
  split
  · exact orStandIn_plain _ _ hp
  · rfl
theorem laid_flags {mask finger moves : Nat} {led plain : Bool} {hashes : Array Int} {t : SetTable} {o : Array Nat} (h : SetTable.laid mask finger moves led plain hashes = some (t, o)) : t.led = led ∧ t.plain = plain := by
  unfold SetTable.laid at h
  cases z : SetTable.layClean mask hashes with
  | none => rw [z] at h; cases h
  | some ow =>
    rw [z] at h
    cases h
    exact ⟨rfl, rfl⟩
theorem relayAll_led (t : SetTable) (es : Array (Int × Value)) (n : Nat) : (relayAll t es n).2.1.led = t.led := by
  unfold relayAll
  split
  · rename_i t' o e
    have f := laid_flags (show SetTable.laid _ _ _ t.led t.plain _ = some (t', o) from e)
    dsimp only
    split
    · exact f.1
    · rfl
  · rfl
theorem relayAll_plain (t : SetTable) (es : Array (Int × Value)) (n : Nat) (hp : t.plain = false) : (relayAll t es n).2.1.plain = false := by
  unfold relayAll
  split
  · rename_i t' o e
    have f := laid_flags (show SetTable.laid _ _ _ t.led t.plain _ = some (t', o) from e)
    dsimp only
    split
    · exact f.2.trans hp
    · rfl
  · rfl
def SetAt (P : Program) (w : World) (h : Heap) (a : Addr) (xs : List Str) : Prop :=
  ∃ o es ep t ys, h.get? a = some o ∧ o.ExactSet ∧ o.data = Data.set es ep t ∧ ElemsOf (PySem.strKind P w) es.toList ∧ Paired (fun (e : Int × Value) (x : Str) => ∃ tk, e.2 = .str x tk) es.toList ys ∧ List.Perm ys xs ∧ xs.Nodup ∧ es.size < scanBound ∧ t.fits es.size = true ∧
    t.led = !(w.params.followText "set-order") ∧ (t.plain = false ∨ xs = [])
theorem SetAt.perm {P : Program} {w : World} {h : Heap} {a : Addr} {xs zs : List Str} (s : SetAt P w h a xs) (p : List.Perm xs zs) : SetAt P w h a zs := by
  obtain ⟨o, es, ep, t, ys, h1, h2, h3, h4, h5, h6, h7, h8, h9, h10, h11⟩ := s
  refine ⟨o, es, ep, t, ys, h1, h2, h3, h4, h5, h6.trans p, p.nodup_iff.mp h7, h8, h9, h10, h11.imp id fun z => ?_⟩
  rw [z] at p
  exact p.nil_eq.symm
theorem SetAt.at {P : Program} {w : World} {h h' : Heap} {a : Addr} {xs : List Str} (s : SetAt P w h a xs) (k : ∀ o, h.get? a = some o → h'.get? a = some o) : SetAt P w h' a xs := by
  obtain ⟨o, es, ep, t, ys, h1, r⟩ := s
  exact ⟨o, es, ep, t, ys, k o h1, r⟩
theorem paired_perm {α β : Type} {F : α → β → Prop} {l l' : List α} {m : List β} (p : List.Perm l l') (h : Paired F l m) : ∃ m', List.Perm m m' ∧ Paired F l' m' := by
  induction p generalizing m with
  | nil => cases h; exact ⟨[], .nil, .nil⟩
  | cons x _ ih =>
    cases h with
    | cons hx t =>
      obtain ⟨m', p', q'⟩ := ih t
      exact ⟨_ :: m', .cons _ p', .cons hx q'⟩
  | swap x y l =>
    cases h with
    | cons hx t =>
      cases t with
      | cons hy t => exact ⟨_, .swap _ _ _, .cons hy (.cons hx t)⟩
  | trans _ _ ih1 ih2 =>
    obtain ⟨m1, p1, q1⟩ := ih1 h
    obtain ⟨m2, p2, q2⟩ := ih2 q1
    exact ⟨m2, p1.trans p2, q2⟩
section
variable {P : Program} {w : World} {A : Around} {E : Value → Shared → Prop} {s : Shared}
theorem addTailS {g : Bool → Sem Unit} (hg : ∀ (b : Bool) (s₁ : Shared) (Q' : Unit → Shared → Prop), Q' () s₁ → wpAny (model P w) A (g b) Q' E s₁) {a : Addr} {o : Obj} {es : Array (Int × Value)} {ep : Nat} {t : SetTable} (ho : s.heap.get? a = some o) (hx : o.ExactSet) (hd : o.data = .set es ep t)
    {es1 : Array (Int × Value)} {t2 : SetTable} {zs ys : List Str} (he : ElemsOf (PySem.strKind P w) es1.toList) (hp : Paired (fun (e : Int × Value) (x : Str) => ∃ tk, e.2 = .str x tk) es1.toList ys) (hq : List.Perm ys zs) (hn : zs.Nodup) (hz : es1.size < scanBound) (hf : t2.fits es1.size = true) (hl : t2.led = !(w.params.followText "set-order")) (hpl : t2.plain = false)
    {wasDummy : Bool} {R : Option Bool → Shared → Prop} (hR : ∀ h', Heap.SameBut a s.heap h' → SetAt P w h' a zs → R (some true) { s with heap := h' }) :
    wpAny (model P w) A (do
      storeSet a es1 t2
      if (!wasDummy && t2.tooFull) = true then do
        g (relayAll t2 es1 (SetTable.grown es1.size)).2.2
        storeSet a (relayAll t2 es1 (SetTable.grown es1.size)).1 (relayAll t2 es1 (SetTable.grown es1.size)).2.1
        pure (some true)
      else pure (some true)) R E s := by
  have S1 := SetOf_store (knd := PySem.strKind P w) (S' := fun k => es1.toList.any fun e => (PySem.strKind P w).is k e.2) ho hx hd he (fun k => by rw [List.any_eq_true]) hz hf
  refine wpAny_bind (wpAny_storeSet_of ho hd ?_ (Nat.le_trans (Nat.le_of_lt hz) (show scanBound ≤ sizeLine by decide)))
  split
  · refine wpAny_bind (hg _ _ _ ?_)
    have rp := relayAll_perm t2 es1 (SetTable.grown es1.size)
    have rf := relayAll_fits t2 es1 (SetTable.grown es1.size)
    have rl := relayAll_led t2 es1 (SetTable.grown es1.size)
    have rpl := relayAll_plain t2 es1 (SetTable.grown es1.size) hpl
    generalize relayAll t2 es1 (SetTable.grown es1.size) = rr at rp rf rl rpl
    have he2 := he.perm rp
    obtain ⟨ys2, p2, q2⟩ := paired_perm rp.symm hp
    have hsz : rr.1.size = es1.size := by have := rp.length_eq; simpa using this
    have hz2 : rr.1.size < scanBound := by rw [hsz]; exact hz
    have S2 := SetOf_store (knd := PySem.strKind P w) (S' := fun k => rr.1.toList.any fun e => (PySem.strKind P w).is k e.2) S1.1 hx rfl he2 (fun k => by rw [List.any_eq_true]) hz2 rf
    refine wpAny_bind (wpAny_storeSet_of S1.1 rfl (wpAny_pure ?_) (Nat.le_trans (Nat.le_of_lt hz2) (show scanBound ≤ sizeLine by decide)))
    refine hR _ ((Heap.SameBut.update _ _ _).trans (Heap.SameBut.update _ _ _)) ⟨_, rr.1, _, rr.2.1, ys2, S2.1, hx, rfl, he2, q2, p2.symm.trans hq, hn, hz2, rf, rl.trans hl, .inl rpl⟩
  · refine wpAny_pure (hR _ (Heap.SameBut.update _ _ _) ⟨_, es1, _, t2, ys, S1.1, hx, rfl, he, hp, hq, hn, hz, hf, hl, .inl hpl⟩)
theorem setAdd_str {a : Addr} {x : Str} {tk : Tok} {xs : List Str} {Q : Bool → Shared → Prop} (hs : SetAt P w s.heap a xs) (hz : xs.length + 1 < scanBound)
    (hQ : ∀ h', Heap.SameBut a s.heap h' → SetAt P w h' a (if x ∈ xs then xs else xs ++ [x]) → ∀ b, Q b { s with heap := h' }) :
    wpAny (model P w) A (setAddHashed a (.str x tk) ((PySem.strKind P w).hash x)) Q E s := by
  obtain ⟨o, es, ep, t, ys, h1, h2, h3, h4, h5, h6, h7, h8, h9, h10, h11⟩ := hs
  have hlen : es.size = xs.length := by have := Paired.length h5; have := h6.length_eq; rw [← Array.length_toList]; omega
  have hscan : byScan (.str x tk) es = true := by
    unfold byScan
    rw [Bool.and_eq_true, Bool.and_eq_true]
    refine ⟨⟨rfl, decide_eq_true h8⟩, ?_⟩
    rw [Array.all_eq_true_iff_forall_mem]
    intro e he
    exact (h4 e (by simpa using he)).2
  have his : (PySem.strKind P w).is x (.str x tk) = true := by
    show Value.isStrOf x (.str x tk) = true
    simp [Value.isStrOf]
  unfold setAddHashed
  refine wpAny_holding ?_
  rw [setAddHashedIn.eq_def]
  refine wpAny_bind (wpAny_setState_of h1 h3 h9 ?_)
  dsimp only
  rw [if_pos hscan]
  unfold setAddByScan
  refine wpAny_bind (wpAny_bind (wpAny_rule (wpAny_bind (wpAny_setScan_of his h1 h3 h9 h4 ?_))))
  have mem_iff : ∀ e ∈ es.toList, (PySem.strKind P w).is x e.2 = true → x ∈ xs := fun e he hi => by
    obtain ⟨j, hj, rfl⟩ := List.getElem_of_mem he
    obtain ⟨y, hy, tk', ey⟩ := paired_get h5 (List.getElem?_eq_getElem hj)
    rw [ey] at hi
    have hxy : x = y := by
      have hi : Value.isStrOf x (.str y tk') = true := hi
      exact (show y = x by simpa [Value.isStrOf] using hi).symm
    rw [hxy]
    exact h6.mem_iff.mp (List.mem_of_getElem? hy)
  have mem_of : x ∈ xs → ∃ e ∈ es.toList, (PySem.strKind P w).is x e.2 = true := fun hx => by
    have hy : x ∈ ys := h6.mem_iff.mpr hx
    obtain ⟨j, hj, e⟩ := List.getElem_of_mem hy
    have hj' : j < es.toList.length := by rw [Paired.length h5]; exact hj
    obtain ⟨y, hy2, tk', ey⟩ := paired_get h5 (List.getElem?_eq_getElem hj')
    rw [List.getElem?_eq_getElem hj] at hy2
    cases hy2
    refine ⟨_, List.getElem_mem hj', ?_⟩
    rw [ey, e]
    show Value.isStrOf x (.str x tk') = true
    simp [Value.isStrOf]
  cases hf : List.findIdx? (fun e => (PySem.strKind P w).is x e.2) es.toList with
  | some j =>
    dsimp only
    refine wpAny_pure (wpAny_pure ?_)
    have hx : x ∈ xs := by
      obtain ⟨hj, hp, _⟩ := List.findIdx?_eq_some_iff_getElem.mp hf
      exact mem_iff _ (List.getElem_mem hj) hp
    have q := hQ s.heap (Heap.SameBut.refl _ _) (by rw [if_pos hx]; exact ⟨o, es, ep, t, ys, h1, h2, h3, h4, h5, h6, h7, h8, h9, h10, h11⟩) false
    exact q
  | none =>
    dsimp only
    have hx : x ∉ xs := fun z => by
      obtain ⟨e, he, hi⟩ := mem_of z
      have := List.findIdx?_eq_none_iff.mp hf e he
      rw [hi] at this
      cases this
    rw [if_neg hx] at hQ
    have lp := layNew_perm t es ((PySem.strKind P w).hash x) (.str x tk)
    have lf := layNew_fits t es ((PySem.strKind P w).hash x) (.str x tk)
    have ll := layNew_led t es ((PySem.strKind P w).hash x) (.str x tk)
    have lpl := layNew_plain t es ((PySem.strKind P w).hash x) (.str x tk)
    generalize layNew t es ((PySem.strKind P w).hash x) (.str x tk) = r at lp lf ll lpl
    obtain ⟨es1, t1, wd, gv⟩ := r
    dsimp only at lp lf ll lpl ⊢
    have hpush : (es.push ((PySem.strKind P w).hash x, Value.str x tk)).toList = es.toList ++ [((PySem.strKind P w).hash x, Value.str x tk)] := by simp
    rw [hpush] at lp
    have he1 : ElemsOf (PySem.strKind P w) es1.toList := ElemsOf.perm (l := es.toList ++ [((PySem.strKind P w).hash x, Value.str x tk)]) (fun e he => by
      rcases List.mem_append.mp he with he | he
      · exact h4 e he
      · rw [List.mem_singleton.mp he]
        exact ⟨⟨x, his, rfl⟩, rfl⟩) lp
    have hp1 : Paired (fun (e : Int × Value) (x : Str) => ∃ tk, e.2 = .str x tk) (es.toList ++ [((PySem.strKind P w).hash x, Value.str x tk)]) (ys ++ [x]) := paired_app h5 (.cons ⟨tk, rfl⟩ .nil)
    obtain ⟨ys1, p1, q1⟩ := paired_perm lp.symm hp1
    have hsz : es1.size = xs.length + 1 := by
      have := lp.length_eq
      rw [List.length_append, List.length_singleton, Array.length_toList, Array.length_toList] at this
      omega
    have nd : (xs ++ [x]).Nodup := by
      rw [List.nodup_append]
      refine ⟨h7, by simp, fun a ha b hb => ?_⟩
      rw [List.mem_singleton.mp hb]
      exact fun z => hx (z ▸ ha)
    have tl : ∀ (t2 : SetTable), t2.fits es1.size = true → t2.led = t1.led → t2.plain = false → ∀ h' : Heap, Heap.SameBut a s.heap h' → SetAt P w h' a (xs ++ [x]) → wpAny (model P w) A (pure true : Sem Bool) Q E { s with heap := h' } := fun t2 _ _ _ h' sb st => wpAny_pure (hQ h' sb st true)
    refine wpAny_bind ?_
    cases gv
    all_goals first | refine wpAny_pure ?_ | refine wpAny_rule ?_
    all_goals (
      by_cases hpl : t1.plain = true
      · rw [if_pos hpl]
        refine wpAny_bind (wpAny_of_eq (hashByValue.eq_5 _ _ _) ?_)
        simp only [Bool.false_eq_true, if_false]
        refine addTailS (P := P) (w := w) (fun b s₁ Q' q' => by cases b <;> first | exact wpAny_pure q' | exact wpAny_rule q') h1 h2 h3 he1 q1 (p1.symm.trans (h6.append_right _)) nd (by rw [hsz]; exact hz) (SetTable.fits_plain_off lf) (ll.trans h10) rfl fun h' sb st => wpAny_pure (hQ h' sb st true)
      · rw [if_neg hpl]
        refine wpAny_bind (wpAny_pure ?_)
        simp only [if_true]
        refine addTailS (P := P) (w := w) (fun b s₁ Q' q' => by cases b <;> first | exact wpAny_pure q' | exact wpAny_rule q') h1 h2 h3 he1 q1 (p1.symm.trans (h6.append_right _)) nd (by rw [hsz]; exact hz) lf (ll.trans h10) (by simpa using hpl) fun h' sb st => wpAny_pure (hQ h' sb st true))
end
end L2
set_option Elab.async false
set_option linter.all false
set_option maxRecDepth 100000
set_option maxHeartbeats 2000000
namespace L2
open PySem PySem.Spec PyProof.Rows Ken
def setO (P : Program) (w : World) (a : Addr) (xs : List Str) : HO := .ext fun h => SetAt P w h a xs
theorem setO_ok {P : Program} {w : World} {H : Hp} {h : Heap} {a : Addr} {xs : List Str} (s : SetAt P w h a xs) : ObjOk P w H h a (setO P w a xs) := by
  obtain ⟨o, es, ep, t, ys, h1, r⟩ := id s
  exact ⟨s, ⟨o, h1⟩, fun h1 h2 z k => SetAt.at z k⟩
theorem setO_at {P : Program} {w : World} {H : Hp} {h : Heap} {a : Addr} {xs : List Str} (ok : HOk P w H h) (e : H a = some (setO P w a xs)) : SetAt P w h a xs := (ok a _ e).1
def setObj0 (w : World) : Obj := { cls := .type "set", data := .set #[] 0 (SetTable.fresh 0 0 !(w.params.followText "set-order")) }
theorem setAt_new {P : Program} {w : World} {h : Heap} {a : Addr} (e : h.get? a = some (setObj0 w)) : SetAt P w h a [] :=
  ⟨_, #[], 0, _, [], e, ⟨rfl, rfl, rfl⟩, rfl, fun e he => by simp at he, .nil, .nil, List.nodup_nil, by decide, rfl, rfl, .inr rfl⟩
section
variable {P : Program} {w : World} {A : Around} {E : Value → Shared → Prop} {s : Shared}
theorem newSetS {Q : Value → Shared → Prop} (h : Q (.ref s.heap.objs.size) { s with heap := s.heap.push (setObj0 w) }) : wpAny (model P w) A (newSet (.type "set")) Q E s := by
  unfold newSet
  refine wpAny_bind (wpAny_bind (wpAny_askSetting (wpAny_pure ?_)))
  exact wpAny_newObj_type h (hd := by show (0 : Nat) ≤ sizeLine; decide)
theorem call_addS {a : Addr} {x : Str} {tk : Tok} {xs : List Str} {Q : Value → Shared → Prop} (hs : SetAt P w s.heap a xs) (hz : xs.length + 1 < scanBound)
    (hQ : ∀ h' tk', Heap.SameBut a s.heap h' → SetAt P w h' a (if x ∈ xs then xs else xs ++ [x]) → Q .none { s with heap := h', toks := tk' }) :
    wpAny (model P w) A (call (.builtin "set.add") [.ref a, .str x tk]) Q E s := by
  have hT : s.TypeIs (.ref a) "set" := by
    obtain ⟨o, es, ep, t, ys, h1, h2, r⟩ := id hs
    exact ⟨o, h1, h2.1⟩
  have his : (PySem.strKind P w).is x (.str x tk) = true := by
    show Value.isStrOf x (.str x tk) = true
    simp [Value.isStrOf]
  refine wpAny_call_entry F.slot_set_add hT F.entry_set_add ?_ (F.args_set_add_2 (.ref a) (.str x tk))
  show wpAny _ _ (Builtin.Frozenset.oneOther "add" { pos := [.ref a, .str x tk] } >>= _) _ _ _
  refine wpAny_bind ?_
  show wpAny _ _ (Builtin.Frozenset.addrOf (.ref a) >>= fun d => pure (d, Value.str x tk)) _ _ _
  refine wpAny_bind (wpAny_pure (wpAny_pure ?_))
  show wpAny _ _ (setAdd a (.str x tk) >>= _) _ _ _
  refine wpAny_bind (wpAny_holding (wpAny_bind ((PySem.strKind P w).pyHash his ?_)))
  exact setAdd_str hs hz fun h' sb st b => wpAny_pure ⟨_, rfl, hQ h' _ sb st⟩
end
def kAdd (P : Program) (w : World) (te : TE) (acc : Addr) : TK := fun σ H N => te σ H fun y H5 => ∃ x xs, y = .str x ∧ H5 acc = some (setO P w acc xs) ∧ xs.length < 4000 ∧ N (upd H5 acc (setO P w acc (if x ∈ xs then xs else xs ++ [x])))
theorem pk_emitS {P : Program} {w : World} {Y : Cx} {elt : Expr} {te : TE} {acc : Addr} (hP : Y.prog = P) (hw : Y.w = w) (he : PE Y elt te) : PTn Y (emitS elt (.ref acc) Y.env) (kAdd P w te acc) := by
  subst hP hw
  intro pins s σ H N I h
  refine wpAny_bind (thn (he pins s σ H _ I h) fun v s7 ⟨y, H7, I7, r7, x, xs, e, ha7, hlen, n⟩ => ?_)
  subst e
  obtain ⟨tk, rfl⟩ := r7
  have st := setO_at I7.hok ha7
  refine wpAny_bind (wpAny_standAt (wpAny_bind (call_addS st (Nat.lt_of_lt_of_le (Nat.add_lt_add_right hlen 1) (by decide)) fun h' tk' sb st' => wpAny_pure ?_)))
  obtain ⟨o, es, ep, t, ys, h1, r⟩ := id st'
  have I8 := I7.write (x := acc) (e := acc) (o := setO Y.prog Y.w acc (if x ∈ xs then xs else xs ++ [x])) (t' := tk') (by rw [ha7]; exact True.intro) (.inl rfl) (fun b u hb e => (sb.2 b hb).trans e) ⟨o, h1⟩ (setO_ok st')
  exact ⟨σ, _, I8, Wk.refl _, n⟩
def tCompA (nt : Nat) (ci : List Nat) (wi : TI) (g : TG) (tk : Addr → TK) (o0 : Addr → HO) : TE := fun σ H Q => wi σ H fun J H1 => ∀ acc, H1 acc = none → ∃ W : Nat → Nat → Hp → Prop, (∃ m, W 0 m (upd H1 acc (o0 acc))) ∧ compW (capt nt ci σ) J g (tk acc) (fun H2 => Q (.ref acc) H2) W
section
variable {X : Cx} {scope : Scope} {cl : List (Str × Addr)} {N' : List Str} {nt : Nat} {ci : List Nat} {pins : List (Addr × Obj)} {σ : St} {H : Hp} {s : Shared}
theorem cg_coreA {e : Expr} {gs : List Comprehension} {ifs : List Expr} {body : Addr → Env → Sem Unit} {newAcc : Sem Value} {ob : Obj} {o0 : Addr → HO} {p0 : Pos} {tk : Addr → TK} {tg iter : Expr} {pos' : Pos} {wi : TI} {g : TG} {use : Option (Value → Sem Unit)} {Q : VK} {Qf : Value → Shared → Prop} (B : BlkOk X scope cl N' nt ci) (hc : X.calm = true) (hi : PI X tg iter wi)
    (hg : ∀ s H C ex, PG (blk X N' scope cl s H C ex) tg g) (hcl : clausesOf e = ⟨tg, iter, ifs, 0⟩ :: gs) (hden : ∀ acc env, DenIs X.prog X.w X.A e 0 acc env) (htn : ∀ a env, TurnIs e 0 tg p0 (.ref a) env (body a env))
    (hb : ∀ s H C ex a, PTn (blk X N' scope cl s H C ex) (body a (blk X N' scope cl s H C ex).env) (tk a)) (hnew : ∀ {A : Around} {E : Value → Shared → Prop} {s : Shared} {Q : Value → Shared → Prop}, Q (.ref s.heap.objs.size) { s with heap := s.heap.push ob } → wpAny (model X.prog X.w) A newAcc Q E s)
    (hfree : ob.isFreed = false) (hobj : ∀ (H : Hp) (h : Heap) (a : Addr), h.get? a = some ob → sysModules < a → ObjOk X.prog X.w (upd H a (o0 a)) h a (o0 a)) (hs : ∀ x, foldedSetIterable iter X.env x = pure x) (I : Inv X pins σ H s) (h : tCompA nt ci wi g tk o0 σ H Q)
    (fin : ∀ (acc C : Addr) (s' : Shared) (H' : Hp), Inv X pins σ H' s' → Q (.ref acc) H' → (∃ m, s'.heap.Ns C m) → FpOk X pins H' C → (∃ o, s'.heap.get? C = some o ∧ ∀ v, o.data ≠ .cell v) → compPost (model X.prog X.w) X.A X.xe use Qf (.ref acc) C (.ok .next) s') :
    wpAny (model X.prog X.w) X.A (comprehension e scope X.env pos' newAcc false (eval iter X.env) use) Qf X.xe s := by
  refine wpAny_comprehension_free (use := use) hcl hs B.clos B.kind B.names (thn (hi pins s σ H _ I h) fun v s1 h1 => thn h1 fun itv s2 h2 => ?_)
  obtain ⟨it, fp, tn, J, H2, e, I2, T, st2, f2, q2⟩ := h2
  subst e
  have hacc : H2 s2.heap.objs.size = none := I2.hok.fresh (Nat.le_refl _)
  obtain ⟨W, ⟨m0, w0⟩, hW⟩ := q2 s2.heap.objs.size hacc
  refine hnew (wpAny_newFunctionEnv B.cell (by intro y hy; simp at hy) (fun h₁ hns₁ hsb₁ => ?_) B.kind)
  dsimp only at hns₁ hsb₁ ⊢
  have hCs : (s2.heap.push ob).objs.size = s2.heap.objs.size + 1 := Heap.size_push ..
  have k1 : ∀ b u, s2.heap.get? b = some u → h₁.get? b = some u := fun b u e => hsb₁.extBut b u (by rw [hCs]; exact Nat.ne_of_lt (Nat.lt_succ_of_lt (Heap.lt_size e))) (Heap.get?_push_of_some _ (Heap.get?_push_of_some _ e))
  have a1 : h₁.get? s2.heap.objs.size = some ob := hsb₁.extBut _ _ (by rw [hCs]; exact Nat.ne_of_lt (Nat.lt_succ_self _)) (Heap.get?_push_of_some _ (Heap.get?_push_size _ hfree))
  rw [hCs] at hns₁ ⊢
  have hsys : sysModules < s2.heap.objs.size := I2.big
  have I3 := blk_startO (o0 := o0 s2.heap.objs.size) (tk := s2.toks + ([] : List (Str × Value)).length) B I2 f2 (fun b hb => let ⟨o, e, _⟩ := T.obj _ _ st2 b hb; ⟨o, e⟩) rfl rfl k1 (by simpa using hns₁) (hobj _ _ _ a1 hsys)
  have hfpB : ∀ (H' : Hp), (∀ b ∈ fp, H' b = none) → ∀ b ∈ fp, FpOk (blk X N' scope cl s2 H2 (s2.heap.objs.size + 1) fp) [] H' b := fun H' hn b hb => by
    obtain ⟨f0, f1, f3, f4, f5, f6⟩ := f2 b hb
    obtain ⟨o, e, _⟩ := T.obj _ _ st2 b hb
    refine ⟨hn b hb, ?_, fun z => ?_, .inl hb, fun x c e' => f5 x c (B.sub x c e'), fun p hp => absurd (show p ∈ ([] : List (Addr × Obj)) from hp) (by simp)⟩
    · exact Nat.ne_of_lt (Nat.lt_succ_of_lt (Heap.lt_size e))
    · rcases List.mem_cons.mp (I2.stkSub b z) with y | y
      · exact f1 y
      · exact f3 y
  have hfr3 : ∀ b ∈ fp, upd H2 s2.heap.objs.size (o0 s2.heap.objs.size) b = none := fun b hb => by
    obtain ⟨o, e, _⟩ := T.obj _ _ st2 b hb
    rw [upd_ne (Nat.ne_of_lt (Heap.lt_size e))]; exact (f2 b hb).1
  have st3 : tn 0 h₁ := T.keep _ _ _ st2 fun b _ o e => k1 b o e
  have loop : codeAny (model X.prog X.w) X.A (.compLoop e 0 (.ref it) (.ref s2.heap.objs.size) (compEnvC scope cl (s2.heap.objs.size + 1) X.env))
      (compPost (model X.prog X.w) X.A X.xe use Qf (.ref s2.heap.objs.size) (s2.heap.objs.size + 1)) { s2 with heap := h₁, toks := s2.toks + ([] : List (Str × Value)).length } := by
    refine comp_loop (Y := blk X N' scope cl s2 H2 (s2.heap.objs.size + 1) fp) (Q := fun H' => Q (.ref s2.heap.objs.size) H') hc rfl (hden _ _) (htn _ _) (hg _ _ _ _) (hb _ _ _ _ _) T hfpB hW (fun s' H' I' q => ?_) I3 st3 hfr3 w0
    have un := I'.base
    have ns := I'.loc
    have fC : H' (s2.heap.objs.size + 1) = none := I'.free
    have I4 : Inv X pins σ H' s' := I2.call' I'.os un I'.hok I'.bare fun b hb => by
      obtain ⟨f0, f1, f3, f4, f5, f6⟩ := f2 b hb
      exact ⟨f4, f1, f5, f6⟩
    obtain ⟨m, hm, _⟩ := ns
    have hm' : s'.heap.Ns (s2.heap.objs.size + 1) m := hm
    refine fin _ _ s' H' I4 q ⟨m, hm'⟩ (I2.fpOk (Nat.le_succ _) fC) ?_
    obtain ⟨o, es, ep, e, d, _⟩ := hm'
    exact ⟨o, e, fun v z => by rw [d] at z; cases z⟩
  exact codeAny_compStart_gen (hden _ _) (by rw [hcl]; rfl) rfl loop (T.self _ _ _ _ _ st3 loop)
theorem pe_sc {P : Program} {w : World} {elt tg iter : Expr} {ifs : List Expr} {gs : List Comprehension} {pos p0 : Pos} {wi : TI} {g : TG} {tk : Addr → TK} {body : Addr → Env → Sem Unit} (hP : X.prog = P) (hw : X.w = w) (B : X.Ok → BlkOk X scope cl N' nt ci) (hc : X.calm = true) (hi : PI X tg iter wi)
    (hg : ∀ s H C ex, PG (blk X N' scope cl s H C ex) tg g) (htn : ∀ a env, TurnIs (.SetComp elt (⟨tg, iter, ifs, 0⟩ :: gs) scope pos) 0 tg p0 (.ref a) env (body a env))
    (hb : ∀ s H C ex a, PTn (blk X N' scope cl s H C ex) (body a (blk X N' scope cl s H C ex).env) (tk a)) (hs : ∀ x, foldedSetIterable iter X.env x = pure x := by intro _; rfl) :
    PE X (.SetComp elt (⟨tg, iter, ifs, 0⟩ :: gs) scope pos) (tCompA nt ci wi g tk fun a => setO P w a []) := by
  subst hP hw
  intro pins s σ H Q I h
  rw [arm_eval_SetComp]
  refine cg_coreA (B I.ok) hc hi hg rfl (fun _ _ => den_S) htn hb (ob := setObj0 X.w) (fun h => newSetS h) rfl (fun H h a e _ => setO_ok (setAt_new e)) hs I h fun acc C s' H' I' q hm hf ho => ?_
  obtain ⟨m, hm⟩ := hm
  obtain ⟨f0, f1, f2, f3, f4, f5⟩ := hf
  exact ⟨m, hm, fun h' sb => ⟨.ref acc, H', I'.turned (t' := s'.toks) (fun b o hb e => (sb.2 b hb).trans e) f0 f1 f3 f4 f5, rfl, q⟩⟩
end
end L2
set_option Elab.async false
set_option linter.all false
set_option maxRecDepth 100000
set_option maxHeartbeats 2000000
namespace Ken
open PySem L2
def Tm.key (t : Tm) : List Key := t.spell.map Sum.inr
theorem keyS_inr : ∀ l : List Str, keyS (l.map Sum.inr) = l
  | [] => rfl
  | x :: r => by show x :: keyS (r.map Sum.inr) = x :: r; rw [keyS_inr r]
theorem Tm.keyS (t : Tm) : L2.keyS t.key = t.spell := keyS_inr _
theorem key_inj {s t : Tm} (h : s.key = t.key) : s = t := spell_inj (by rw [← s.keyS, ← t.keyS, h])
def DS (K : PySem.W.Frag) (H : Hp) (kvs : List (List Key × V)) (ss : List Tm) : Prop := Paired (fun (kv : List Key × V) (s : Tm) => kv.1 = s.key ∧ IsT K H kv.2 s) kvs ss
section
variable {K : PySem.W.Frag} {H : Hp}
theorem DS.keys {kvs : List (List Key × V)} {ss : List Tm} (h : DS K H kvs ss) : kvs.map (·.1) = ss.map Tm.key := by
  unfold DS at h
  induction h with
  | nil => rfl
  | cons x t ih => rw [List.map_cons, List.map_cons, x.1, ih]
theorem DS.val {kvs : List (List Key × V)} {ss : List Tm} (h : DS K H kvs ss) {s : Tm} (hs : s ∈ ss) : ∃ v, valV kvs s.key = some v ∧ IsT K H v s := by
  unfold DS at h
  induction h with
  | nil => cases hs
  | @cons p q ps qs x t ih =>
    by_cases e : p.1 = s.key
    · refine ⟨p.2, valV_pos e, ?_⟩
      have : q = s := key_inj (by rw [← x.1, e])
      rw [← this]; exact x.2
    · rw [valV_neg e]
      refine ih ?_
      rcases List.mem_cons.mp hs with z | z
      · exact absurd (by rw [x.1, z]) e
      · exact z
theorem DS.none {kvs : List (List Key × V)} {ss : List Tm} (h : DS K H kvs ss) {s : Tm} (hs : s ∉ ss) : valV kvs s.key = none := by
  unfold DS at h
  induction h with
  | nil => rfl
  | @cons p q ps qs x t ih =>
    have e : ¬ p.1 = s.key := fun e => hs (by rw [show s = q from (key_inj (by rw [← x.1, e])).symm]; exact List.mem_cons_self)
    rw [valV_neg e]
    exact ih fun z => hs (List.mem_cons_of_mem _ z)
end
end Ken
set_option Elab.async false
set_option linter.all false
set_option maxRecDepth 100000
set_option maxHeartbeats 2000000
namespace L2
open PySem PySem.Spec PyProof.Rows
def Itv (K : PySem.W.Frag) (a : Addr) (n : Nat) : It :=
  ⟨fun i H => i < n ∧ ∃ xs x, SqL K H a xs ∧ xs[n - 1 - i]? = some x, fun i H x H' => H' = H ∧ ∀ xs, SqL K H a xs → xs[n - 1 - i]? = some x, fun i _ => i = n⟩
theorem turn_rev {P : Program} {w : World} {K : PySem.W.Frag} {tg : Expr} (a it : Addr) (n : Nat) : Turn P w K tg (Itv K a n) [it] it (fun i h => h.IsRevIter it a ((n : Int) - 1 - (i : Int))) where
  mem := by simp
  obj := fun i h st b hb => by
    have e : b = it := by simpa using hb
    subst e
    obtain ⟨o, e, c, d⟩ := st
    exact ⟨o, e, fun v z => by rw [d] at z; cases z⟩
  keep := fun i h h' st k => st.at fun o e => k it (by simp) o e
  item := by
    intro X hP hw hK hc i pins s σ H E I hf st hg
    subst hP hw hK
    obtain ⟨hi, xs, x, hq, hx⟩ := hg
    obtain ⟨its, rv, p, hz⟩ := I.list hq
    obtain ⟨u, hu, ru⟩ := rv.get hx
    obtain ⟨f0, f1, f2, f3, f4, f5⟩ := hf it (by simp)
    have en : (n : Int) - 1 - (i : Int) = ((n - 1 - i : Nat) : Int) := by omega
    rw [en] at st
    refine wpAny_pyNext_rev_item st p.isList (x := u) (by simpa using hu) fun h' st' sb => ?_
    have I1 : Inv X pins σ H { s with heap := h' } := I.turned (t' := s.toks) (fun b o hb e => (sb.2 b hb).trans e) f0 f1 f3 f4 f5
    have en2 : ((n - 1 - i : Nat) : Int) - 1 = (n : Int) - 1 - ((i + 1 : Nat) : Int) := by omega
    rw [en2] at st'
    obtain ⟨o, e, c, d⟩ := id st'
    exact ⟨u, rfl, go_of (s := { s with heap := h' }) e c d (by decide) ⟨x, H, I1, ru, ⟨rfl, fun ys hy => by rw [I.list_inj hy hq]; exact hx⟩, st', fun b hb => (hf b hb).1⟩⟩
  done := by
    intro X hP hw hK hc i pins s σ H E I hf st hg
    subst hP hw hK
    have hg' : i = n := hg
    subst hg'
    obtain ⟨f0, f1, f2, f3, f4, f5⟩ := hf it (by simp)
    have en : (i : Int) - 1 - (i : Int) = -1 := by omega
    rw [en] at st
    exact wpAny_pyNext_rev_end (I.ok.hd hc) st fun h' eb => ⟨rfl, I.turned (t' := s.toks) (fun b o hb e => eb b o hb e) f0 f1 f3 f4 f5⟩
  self := fun _ _ _ _ _ st h => wpAny_pyIter_revIter st h
def iRev (K : PySem.W.Frag) (ta : TA) : TI := fun σ H R => ta σ H fun vs H1 => ∃ a xs, vs = [.ref a] ∧ SqL K H1 a xs ∧ R (Itv K a xs.length) H1
section
variable {X : Cx}
theorem pi_rev {tg e : Expr} {ta : TA} {p pos : Pos} (hg : Gl X "reversed") (hm : X.mg "reversed" = none) (ha : PA X [e] ta) (hs : starEach [e] X.env = [(false, eval e X.env)] := by rfl) :
    PI X tg (.Call (.Name "reversed" p) [e] [] pos) (iRev X.K ta) := by
  intro pins s σ H R I h
  refine Call_ (ld_blt I hg hm (by first | exact PySem.boot_reversed | rfl) (PyProof.Rows.callWith_type1 (thn (ha pos pins s σ H _ I h) fun us s1 ⟨vs, H1, I1, r1, q1⟩ => ?_) (by rw [hs]; rfl) rfl))
  obtain ⟨l, xs, e, q1, q⟩ := q1
  subst e
  obtain ⟨u1, rfl, ru1⟩ := r1.one
  cases ru1
  obtain ⟨its1, rv1, p1, _⟩ := I1.list q1
  have hlen := rv1.length
  refine call_reversed_list p1.isList ?_
  have hit : Heap.IsRevIter (s1.heap.push (revObj l ((its1.toArray.size : Int) - 1))) s1.heap.objs.size l ((its1.toArray.size : Int) - 1) := ⟨_, Heap.get?_push_size _ rfl, rfl, rfl⟩
  refine wpAny_pyIter_revIter hit ?_
  have I2 : Inv X pins σ H1 { s1 with heap := s1.heap.push (revObj l ((its1.toArray.size : Int) - 1)) } := I1.kept (t' := s1.toks) fun b o e => Heap.get?_push_of_some _ e
  have en : ((its1.toArray.size : Nat) : Int) - 1 = (xs.length : Int) - 1 - ((0 : Nat) : Int) := by rw [List.size_toArray]; omega
  rw [en] at hit
  rw [en] at I2
  rw [en]
  refine ⟨_, _, _, _, H1, rfl, I2, turn_rev l _ xs.length, hit, fun b hb => ?_, q⟩
  have e : b = s1.heap.objs.size := by simpa using hb
  subst e
  exact I1.fpOk (Nat.le_refl _) (I1.hok.fresh (Nat.le_refl _))
end
theorem for_rev {K : PySem.W.Frag} {a : Addr} {xs : List V} {g : TG} {tb : TS} {D : Ends} {σ : St} {H : Hp} (Pv : Nat → St → Hp → Prop) (h0 : Pv 0 σ H) (hl : ∀ i σ H, i ≤ xs.length → Pv i σ H → SqL K H a xs)
    (hs : ∀ i x σ H, i < xs.length → xs[xs.length - 1 - i]? = some x → Pv i σ H → g x σ H fun σ2 H2 => tb { D with nx := Pv (i + 1), ct := Pv (i + 1), bk := D.nx } σ2 H2) (hd : ∀ σ H, Pv xs.length σ H → D.nx σ H) :
    ∃ W : Nat → Nat → St → Hp → Prop, (∃ m, W 0 m σ H) ∧ ∀ i m σ H, W i m σ H →
      ((Itv K a xs.length).stop i H ∧ D.nx σ H) ∨ ((Itv K a xs.length).go i H ∧ ∃ N : St → Hp → Prop, (∀ σ' H', N σ' H' → ∃ m', m' < m ∧ W (i + 1) m' σ' H') ∧ ∀ x H', (Itv K a xs.length).yld i H x H' → g x σ H' fun σ2 H2 => tb { D with nx := N, ct := N, bk := D.nx } σ2 H2) := by
  refine ⟨fun i m σ H => m = xs.length - i ∧ i ≤ xs.length ∧ Pv i σ H, ⟨xs.length, by simp, Nat.zero_le _, h0⟩, ?_⟩
  rintro i m σ H ⟨rfl, hi, p⟩
  have q := hl i σ H hi p
  by_cases hlt : i < xs.length
  · refine .inr ⟨⟨hlt, xs, xs[xs.length - 1 - i], q, List.getElem?_eq_getElem (by omega)⟩, Pv (i + 1), fun σ' H' p' => ⟨xs.length - (i + 1), by omega, rfl, hlt, p'⟩, fun x H' y => ?_⟩
    obtain ⟨e, y⟩ := y
    subst e
    exact hs i x σ _ hlt (y xs q) p
  · have e : i = xs.length := by omega
    subst e
    exact .inl ⟨rfl, hd _ _ p⟩
def tCallL (i : Nat) (f : Addr) (t : TE) : TE := fun σ H Q => σ[i]? = some (some (.ref f)) ∧ t σ H Q
section
variable {X : Cx}
theorem pe_callL {k : Nat} {CX : CXT} {E : XK} {f : Addr} {fd : FuncData} {ps : List Str} {sp : Sp} {ds : List Value} {dvs : List V} {x : Str} {p pos : Pos} {e : Expr} {es : List Expr} {t : TA} {i : Nat} (F : FnOk X.prog X.w X.K X.mg X.base CX k f fd ps sp) (hr : Room k X.A) (hN : X.N[i]? = some x) (hv : Vis X.env.scope x) (hk : PySem.W.keepIn X.K (.ref f) = true) (hb : Binds X.K fd ps ds) (hd : Vals dvs ds) (hx : Passes CX X E)
    (ha : PA X (e :: es) t) (hdb : (x == ("__debug__" : Str)) = false := by decide) (hcd : (x == ("__classdict__" : Str)) = false := by decide) (he : starEach (e :: es) X.env = (false, eval e X.env) :: starEach es X.env := by rfl) (hpl : (backTo pos (starEach es X.env)).any (·.1) = false := by rfl) :
    PE X (.Call (.Name x p) (e :: es) [] pos) (tCallL i f (tCall sp dvs E t)) := by
  intro pins s σ H Q I h
  obtain ⟨h1, h2⟩ := h
  refine wpAny_Call_Name_kw ?_
  refine thn (pe_var (X := X) (i := i) hN hv hdb hcd pins s σ H (fun v H1 => v = .ref f ∧ H1 = H) I ⟨_, h1, rfl, rfl⟩) fun v s0 ⟨y, H0, I0, r0, e1, e2⟩ => ?_
  subst e1
  subst e2
  cases (show v = Value.ref f from r0)
  refine PySem.W.callWith_K (h₀ := X.base) I0.ok.mod.kin hk (thn (ha pos pins s0 σ H0 _ I0 h2) fun us s1 ⟨vs, H1, I1, r, q⟩ => ⟨I1.kIn, ?_⟩) he hpl
  exact run_fn F hr hb hd hx I1 r q
end
section
variable {X : Cx}
end
end L2
set_option Elab.async false
set_option linter.all false
set_option maxRecDepth 100000
set_option maxHeartbeats 2000000
namespace L2
open PySem PySem.Spec PyProof.Rows
section
variable {X : Cx}
end
end L2
set_option Elab.async false
set_option linter.all false
set_option maxRecDepth 100000
set_option maxHeartbeats 2000000
namespace L2
open PySem PySem.Spec PyProof.Rows
section
variable {prog : Program} {w : World} {A : Around} {E : Value → Shared → Prop} {s : Shared}
theorem stop_it {α : Type} {Q : α → Shared → Prop} (hh : A.handled = none) (hE : ∀ h' e, (∀ b o, s.heap.get? b = some o → h'.get? b = some o) → (∃ o, h'.get? e = some o ∧ o.cls = .type "StopIteration") → E (.ref e) { s with heap := h' }) :
    wpAny (model prog w) A (Builtin.SmallTypes.stopIteration : Sem α) Q E s := by
  show wpAny _ _ (newExc (Value.type "StopIteration") [] >>= _) _ _ _
  refine wpAny_bind ?_
  unfold newExc
  refine wpAny_bind (wpAny_newObj_type ?_)
  refine wpAny_bind (wpAny_of_eq (Eq.refl (firstArgMember (Value.type "StopIteration") [])) (wpAny_newObj_type ?_))
  unfold raiseNew
  refine wpAny_bind (wpAny_handled ?_)
  rw [hh]
  refine wpAny_throw ?_
  exact hE _ _ (fun b o e => Heap.get?_push_of_some _ (Heap.get?_push_of_some _ e)) ⟨_, Heap.get?_push_size _ rfl, rfl⟩
end
end L2
set_option Elab.async false
set_option linter.all false
set_option maxRecDepth 100000
set_option maxHeartbeats 2000000
namespace L2
open PySem PySem.Spec PyProof.Rows Ken
theorem slot_si_next : Slot "set_iterator" (Str.ofString "__next__") "set_iterator.__next__" :=
  Slot.of (owner := "set_iterator") (n := "__next__") (by rw [typeLookup_type, builtinLookup_eq_fast]; rfl) (by decide +kernel) (by decide +kernel) (by decide +kernel) (Or.inl (by decide +kernel)) (by rw [isSubtype_type]; rfl) (by decide +kernel)
theorem entry_si_next : entryFor table "set_iterator.__next__" = some Builtin.«set_iterator.__next__» := entryFor_of_tree rfl
theorem owner_si : List.lookup (String.ofList ("set_iterator".toList)) Manifest.owners = some Manifest.sig_set_iterator := rfl
theorem args_si_next (a : Value) : argsOk "set_iterator.__next__" { pos := [a] } := by
  show (match Manifest.signature? "set_iterator.__next__" with | some sig => Bind.checkArgs "set_iterator.__next__" sig { pos := [a] } | none => pure ()) = pure ()
  rw [signature?_of (id := "set_iterator.__next__") (n := "__next__".toList.reverse) (o := "set_iterator".toList.reverse) rfl owner_si]
  rfl
theorem entry_set_iter : entryFor table "set.__iter__" = some Builtin.«frozenset.__iter__» :=
  entryFor_alias (id' := "frozenset.__iter__") (by rw [fastTable_eq_tree]; rfl) (by decide +kernel) (by decide +kernel) (by rw [fastTable_eq_tree]; rfl)
theorem slot_si_iter : Slot "set_iterator" (Str.ofString "__iter__") "set_iterator.__iter__" :=
  Slot.of (owner := "set_iterator") (n := "__iter__") (by rw [typeLookup_type, builtinLookup_eq_fast]; rfl) (by decide +kernel) (by decide +kernel) (by decide +kernel) (Or.inl (by decide +kernel)) (by rw [isSubtype_type]; rfl) (by decide +kernel)
theorem entry_si_iter : entryFor table "set_iterator.__iter__" = some Builtin.«dict_keyiterator.__iter__» :=
  entryFor_alias (id' := "dict_keyiterator.__iter__") (by rw [fastTable_eq_tree]; rfl) (by decide +kernel) (by decide +kernel) (by rw [fastTable_eq_tree]; rfl)
theorem args_si_iter (a : Value) : argsOk "set_iterator.__iter__" { pos := [a] } := by
  show (match Manifest.signature? "set_iterator.__iter__" with | some sig => Bind.checkArgs "set_iterator.__iter__" sig { pos := [a] } | none => pure ()) = pure ()
  rw [signature?_of (id := "set_iterator.__iter__") (n := "__iter__".toList.reverse) (o := "set_iterator".toList.reverse) rfl owner_si]
  rfl
abbrev siObj (first : Value) (i : Nat) (a : Addr) (n ep : Nat) : Obj := { cls := .type "set_iterator", data := .fields #[first, .int i 0, .ref a, .int n 0, .int ep 0] }
section
variable {P : Program} {w : World} {A : Around} {E : Value → Shared → Prop} {s : Shared}
theorem chooseS {α : Type} {src : Source} {n : Nat} {k : Nat → Sem α} {Q : α → Shared → Prop} (hn : n ≠ 0) (h : ∀ i d, i < n → wpAny (model P w) A (k i) Q E { s with drawn := d }) : wpAny (model P w) A (Sem.choose src n k) Q E s := by
  intro Γ p hΓ
  rw [Sem.wp_choose]
  exact ⟨hn, h _ _ (Nat.mod_lt _ (Nat.pos_of_ne_zero hn)) Γ p hΓ⟩
theorem si_start {I a : Addr} {first : Value} {i n ep : Nat} {o : Obj} {es : Array (Int × Value)} {t : SetTable} {Q : Option Value → Shared → Prop} (hI : s.heap.get? I = some (siObj first i a es.size ep)) (ha : s.heap.get? a = some o) (hd : o.data = .set es ep t) (hf : t.fits es.size = true)
    (h : wpAny (model P w) A.in1 (match first with
          | Value.int slot tok => do
            let __do_lift ← setNext a slot.toNat i ep
            match __do_lift with
              | some (x, next) => do
                setField (.ref I) 0 (rawInt ↑next)
                setField (.ref I) 1 (rawInt (i + 1))
                ret x
              | none => do
                setField (.ref I) 2 Value.none
                Builtin.SmallTypes.stopIteration
          | x => do
            let __x ← seqItems? first
            match __x with
              | some places =>
                match places[i]? with
                | some (Value.int place tok) => do
                  let x ← setNextDrawn a place.toNat ep
                  setField (.ref I) 1 (rawInt (i + 1))
                  ret x
                | some val => unsupported "internal:set_iterator"
                | none => do
                  setField (.ref I) 0 (rawInt 0)
                  setField (.ref I) 2 Value.none
                  Builtin.SmallTypes.stopIteration
              | x => unsupported "internal:set_iterator")
      (fun fin s' => ∃ v, fin = Fin.done (Flow.ret v) ∧ Q (some v) s') (fun e s' => wpAny (model P w) A (isInstance e (Value.type "StopIteration") >>= fun b => if b = true then pure none else throw e) Q E s') s) : wpAny (model P w) A (pyNext (.ref I)) Q E s := by
  have hTy : s.TypeIs (.ref I) "set_iterator" := ⟨_, hI, rfl⟩
  refine wpAny_bind (wpAny_attempt (wpAny_callSpecial?_slot hTy slot_si_next (wpAny_call_entry slot_si_next hTy entry_si_next ?_ (args_si_next _))))
  show wpAny _ _ (fieldsOf (.ref I) >>= _) _ _ _
  refine wpAny_bind (wpAny_fieldsOf hI rfl ?_)
  refine wpAny_bind (wpAny_setEntries_of ha hd hf ?_)
  dsimp only
  rw [if_neg (by simp)]
  refine wpAny_mono h (fun fin s' ⟨v, e, q⟩ => ⟨v, e, wpAny_pure q⟩) fun e s' q => q
theorem si_next_drawn {I a T : Addr} {i ep : Nat} {o : Obj} {es : Array (Int × Value)} {t : SetTable} {places : List Nat} {pl : Nat} {hx : Int} {x : Value} {Q : Option Value → Shared → Prop} (hI : s.heap.get? I = some (siObj (.ref T) i a es.size ep)) (ha : s.heap.get? a = some o) (hd : o.data = .set es ep t) (hf : t.fits es.size = true)
    (hT : s.heap.get? T = some { cls := .type "tuple", data := .seq (places.map fun (k : Nat) => rawInt (k : Int)).toArray }) (hp : places[i]? = some pl) (he : es[pl]? = some (hx, x))
    (hQ : ∀ h', h'.get? I = some (siObj (.ref T) (i + 1) a es.size ep) → Heap.SameBut I s.heap h' → Q (some x) { s with heap := h' }) : wpAny (model P w) A (pyNext (.ref I)) Q E s := by
  refine si_start (n := es.size) hI ha hd hf ?_
  dsimp only
  refine wpAny_bind (wpAny_seqItems hT rfl ?_)
  dsimp only
  rw [show (places.map fun (k : Nat) => rawInt (k : Int)).toArray[i]? = some (rawInt (pl : Int)) from by simp [hp]]
  unfold rawInt
  dsimp only
  refine wpAny_bind ?_
  unfold setNextDrawn
  refine wpAny_bind (wpAny_setState_of ha hd hf ?_)
  dsimp only
  rw [if_neg (by simp), Int.toNat_natCast, he]
  refine wpAny_pure (wpAny_bind (wpAny_setField_rec hI (by simp) fun h' hI' sb => wpAny_pure ⟨x, rfl, hQ h' ?_ sb⟩))
  exact hI'
theorem si_end_drawn {I a T : Addr} {i ep : Nat} {o : Obj} {es : Array (Int × Value)} {t : SetTable} {places : List Nat} {Q : Option Value → Shared → Prop} (hh : A.handled = none) (hI : s.heap.get? I = some (siObj (.ref T) i a es.size ep)) (ha : s.heap.get? a = some o) (hd : o.data = .set es ep t) (hf : t.fits es.size = true)
    (hT : s.heap.get? T = some { cls := .type "tuple", data := .seq (places.map fun (k : Nat) => rawInt (k : Int)).toArray }) (hp : places[i]? = none)
    (hQ : ∀ h', Heap.ExtBut I s.heap h' → Q none { s with heap := h' }) : wpAny (model P w) A (pyNext (.ref I)) Q E s := by
  refine si_start (n := es.size) hI ha hd hf ?_
  dsimp only
  refine wpAny_bind (wpAny_seqItems hT rfl ?_)
  dsimp only
  rw [show (places.map fun (k : Nat) => rawInt (k : Int)).toArray[i]? = none from by simp [hp]]
  dsimp only
  refine wpAny_bind (wpAny_setField_rec hI (by simp) fun h1 hI1 sb1 => wpAny_bind (wpAny_setField_rec hI1 (by simp) fun h2 hI2 sb2 => ?_))
  refine stop_it (A := A.in1) hh fun h' e k ⟨oe, he, hc⟩ => wpAny_bind (wpAny_isInstance ⟨oe, he, hc⟩ isSubtype_stop ?_)
  rw [if_pos rfl]
  exact wpAny_pure (hQ h' fun b ob hb eb => k b ob ((sb2.2 b hb).trans ((sb1.2 b hb).trans eb)))
theorem si_next_text {I a : Addr} {i ep : Nat} {o : Obj} {es : Array (Int × Value)} {t : SetTable} {e : Int × Value} {Q : Option Value → Shared → Prop} (hb : w.params.followText "set-order" = true) (hI : s.heap.get? I = some (siObj (.int 0 0) i a es.size ep)) (ha : s.heap.get? a = some o) (hd : o.data = .set es ep t) (hf : t.fits es.size = true)
    (he : (pickOrder (w.params.setOrder a ep) es)[i]? = some e)
    (hQ : ∀ h', h'.get? I = some (siObj (.int 0 0) (i + 1) a es.size ep) → Heap.SameBut I s.heap h' → Q (some e.2) { s with heap := h' }) : wpAny (model P w) A (pyNext (.ref I)) Q E s := by
  refine si_start (n := es.size) hI ha hd hf ?_
  dsimp only
  refine wpAny_bind ?_
  unfold setNext
  refine wpAny_bind (wpAny_setState_of ha hd hf ?_)
  dsimp only
  refine wpAny_bind (wpAny_bind (wpAny_askSetting (wpAny_pure ?_)))
  rw [if_pos (show (model P w).w.params.followText "set-order" = true from hb), if_neg (by simp)]
  refine wpAny_bind ?_
  unfold setWalk
  refine wpAny_bind (wpAny_setState_of ha hd hf ?_)
  dsimp only
  refine wpAny_bind (wpAny_bind (wpAny_askSetting (wpAny_pure ?_)))
  rw [if_pos (show (model P w).w.params.followText "set-order" = true from hb)]
  refine wpAny_bind (wpAny_askSetting (wpAny_pure (wpAny_pure ?_)))
  rw [show (pickOrder ((model P w).w.params.setOrder a ep) es)[i]? = some e from he]
  dsimp only [Option.map_some]
  refine wpAny_bind (wpAny_setField_rec hI (by simp) fun h1 hI1 sb1 => wpAny_bind (wpAny_setField_rec hI1 (by simp) fun h2 hI2 sb2 => wpAny_pure ⟨_, rfl, hQ h2 ?_ (sb1.trans sb2)⟩))
  exact hI2
theorem si_end_text {I a : Addr} {i ep : Nat} {o : Obj} {es : Array (Int × Value)} {t : SetTable} {Q : Option Value → Shared → Prop} (hh : A.handled = none) (hb : w.params.followText "set-order" = true) (hI : s.heap.get? I = some (siObj (.int 0 0) i a es.size ep)) (ha : s.heap.get? a = some o) (hd : o.data = .set es ep t) (hf : t.fits es.size = true)
    (he : (pickOrder (w.params.setOrder a ep) es)[i]? = none)
    (hQ : ∀ h', Heap.ExtBut I s.heap h' → Q none { s with heap := h' }) : wpAny (model P w) A (pyNext (.ref I)) Q E s := by
  refine si_start (n := es.size) hI ha hd hf ?_
  dsimp only
  refine wpAny_bind ?_
  unfold setNext
  refine wpAny_bind (wpAny_setState_of ha hd hf ?_)
  dsimp only
  refine wpAny_bind (wpAny_bind (wpAny_askSetting (wpAny_pure ?_)))
  rw [if_pos (show (model P w).w.params.followText "set-order" = true from hb), if_neg (by simp)]
  refine wpAny_bind ?_
  unfold setWalk
  refine wpAny_bind (wpAny_setState_of ha hd hf ?_)
  dsimp only
  refine wpAny_bind (wpAny_bind (wpAny_askSetting (wpAny_pure ?_)))
  rw [if_pos (show (model P w).w.params.followText "set-order" = true from hb)]
  refine wpAny_bind (wpAny_askSetting (wpAny_pure (wpAny_pure ?_)))
  rw [show (pickOrder ((model P w).w.params.setOrder a ep) es)[i]? = none from he]
  dsimp only [Option.map_none]
  refine wpAny_bind (wpAny_setField_rec hI (by simp) fun h1 hI1 sb1 => ?_)
  refine stop_it (A := A.in1) hh fun h' e k ⟨oe, he, hc⟩ => wpAny_bind (wpAny_isInstance ⟨oe, he, hc⟩ isSubtype_stop ?_)
  rw [if_pos rfl]
  exact wpAny_pure (hQ h' fun b ob hb eb => k b ob ((sb1.2 b hb).trans eb))
theorem below_one (j k : Nat) : SetTable.below #[j] k = if j < k then 1 else 0 := by
  unfold SetTable.below
  show SetTable.below.go #[j] k 1 0 1 = _
  rw [SetTable.below.go.eq_def]
  by_cases h : j < k
  · simp [h, SetTable.below.go.eq_def]
  · simp [h, SetTable.below.go.eq_def]
theorem si_slot {I a : Addr} {i ep slot : Nat} {o : Obj} {es : Array (Int × Value)} {t : SetTable} {Q : Option Value → Shared → Prop} (hb : w.params.followText "set-order" = false) (hI : s.heap.get? I = some (siObj (.int slot 0) i a es.size ep)) (ha : s.heap.get? a = some o) (hd : o.data = .set es ep t) (hf : t.fits es.size = true) (hl : t.led = true) (h1 : es.size ≤ 1)
    (h : wpAny (model P w) A.in1 (match (match es[SetTable.below t.place slot]?, t.place[SetTable.below t.place slot]? with
              | some (_, x), some j => some (x, j + 1)
              | _, _ => none) with
              | some (x, next) => do
                setField (.ref I) 0 (rawInt ↑(next : Nat))
                setField (.ref I) 1 (rawInt (i + 1))
                ret x
              | none => do
                setField (.ref I) 2 Value.none
                Builtin.SmallTypes.stopIteration)
      (fun fin s' => ∃ v, fin = Fin.done (Flow.ret v) ∧ Q (some v) s') (fun e s' => wpAny (model P w) A (isInstance e (Value.type "StopIteration") >>= fun b => if b = true then pure none else throw e) Q E s') s) : wpAny (model P w) A (pyNext (.ref I)) Q E s := by
  refine si_start (n := es.size) hI ha hd hf ?_
  dsimp only
  refine wpAny_bind ?_
  unfold setNext
  refine wpAny_bind (wpAny_setState_of ha hd hf ?_)
  dsimp only
  refine wpAny_bind (wpAny_bind (wpAny_askSetting (wpAny_pure ?_)))
  rw [if_neg (show ¬ ((model P w).w.params.followText "set-order" = true) from fun z => by rw [show (model P w).w.params.followText "set-order" = false from hb] at z; cases z)]
  split
  · rename_i hz
    have hz : (!t.plain && decide (es.size > 1)) = true := hz
    rw [Bool.and_eq_true] at hz
    have := of_decide_eq_true hz.2
    omega
  refine wpAny_bind ?_
  show wpAny _ _ (if (!t.led && !es.isEmpty) = true then unsupported "set:maker-not-led" else pure ()) _ _ _
  rw [if_neg (by rw [hl]; simp)]
  refine wpAny_pure (wpAny_pure ?_)
  exact h
theorem perm_erase {α : Type} : ∀ (l : List α) (i : Nat) (h : i < l.length), List.Perm (l[i] :: l.eraseIdx i) l
  | [], i, h => absurd h (by simp)
  | x :: l, 0, h => .refl _
  | x :: l, i + 1, h => by
    have ih := perm_erase l i (by simpa using h)
    rw [List.eraseIdx_cons_succ, List.getElem_cons_succ]
    exact (List.Perm.swap _ _ _).trans (.cons _ ih)
theorem drawOrderS {α : Type} : ∀ (n : Nat) (xs : List α) {s : Shared} {Q : List α → Shared → Prop}, xs.length ≤ n → (∀ ys d, List.Perm ys xs → Q ys { s with drawn := d }) → wpAny (model P w) A (drawOrder n xs) Q E s
  | 0, xs, s, Q, hn, hQ => by
    have : xs = [] := List.length_eq_zero_iff.mp (Nat.le_zero.mp hn)
    subst this
    rw [drawOrder.eq_def]
    exact wpAny_pure (hQ [] s.drawn .nil)
  | n + 1, [], s, Q, hn, hQ => by
    rw [drawOrder.eq_def]
    exact wpAny_pure (hQ [] s.drawn .nil)
  | n + 1, x :: xs, s, Q, hn, hQ => by
    rw [drawOrder.eq_def]
    dsimp only
    refine wpAny_bind (chooseS (by simp) fun i d hi => wpAny_pure ?_)
    rw [List.getElem?_eq_getElem hi]
    dsimp only
    refine wpAny_bind (drawOrderS n ((x :: xs).eraseIdx i) (by rw [List.length_eraseIdx_of_lt hi]; omega) fun ys d' hp => wpAny_pure (hQ _ _ ?_))
    exact (List.Perm.cons _ hp).trans (perm_erase _ _ hi)
theorem pickOrder_perm {α : Type} (next : Nat → Nat) (xs : Array α) : List.Perm (pickOrder next xs).toList xs.toList := by
  have gen : ∀ (f k : Nat) (left : List α) (out : Array α), left.length = f → List.Perm (pickOrder.go next f k left out).toList (out.toList ++ left) := by
    intro f
    induction f with
    | zero =>
      intro k left out h
      rw [List.length_eq_zero_iff.mp h, List.append_nil, pickOrder.go.eq_def]
    | succ f ih =>
      intro k left out h
      rw [pickOrder.go.eq_def]
      dsimp only
      have hi : next k % left.length < left.length := Nat.mod_lt _ (by omega)
      rw [List.getElem?_eq_getElem hi]
      dsimp only
      refine (ih (k + 1) _ _ (by rw [List.length_eraseIdx_of_lt hi]; omega)).trans ?_
      rw [Array.toList_push, List.append_assoc]
      exact List.Perm.append_left _ (perm_erase _ _ hi)
  unfold pickOrder
  have := gen xs.size 0 xs.toList #[] (by simp)
  simpa using this
def SiAt (w : World) (I a : Addr) (es : Array (Int × Value)) (ep : Nat) (t : SetTable) (ord : List Value) (fs : List Addr) (i : Nat) (h : Heap) : Prop :=
  (∃ o, h.get? a = some o ∧ o.data = .set es ep t) ∧
  ((∃ (T : Addr) (places : List Nat), fs = [T] ∧ h.get? I = some (siObj (.ref T) i a es.size ep) ∧ h.get? T = some { cls := .type "tuple", data := .seq (places.map fun (k : Nat) => rawInt (k : Int)).toArray } ∧ ord = places.map (fun k => ((es[k]?).getD (0, .none)).2) ∧ places.length = es.size ∧ ∀ k ∈ places, k < es.size) ∨
   (fs = [] ∧ w.params.followText "set-order" = true ∧ h.get? I = some (siObj (.int 0 0) i a es.size ep) ∧ ord = (pickOrder (w.params.setOrder a ep) es).toList.map (·.2)) ∨
   (fs = [] ∧ w.params.followText "set-order" = false ∧ es.size ≤ 1 ∧ t.led = true ∧ ord = es.toList.map (·.2) ∧ ∃ slot : Nat, h.get? I = some (siObj (.int slot 0) i a es.size ep) ∧ (i = 0 → slot = 0) ∧ (i = 1 → ∃ j, t.place = #[j] ∧ slot = j + 1)))
theorem SiAt.keep {w : World} {I a : Addr} {es : Array (Int × Value)} {ep : Nat} {t : SetTable} {ord : List Value} {fs : List Addr} {i : Nat} {h h' : Heap} (x : SiAt w I a es ep t ord fs i h) (k : ∀ b ∈ I :: a :: fs, ∀ o, h.get? b = some o → h'.get? b = some o) : SiAt w I a es ep t ord fs i h' := by
  obtain ⟨⟨o, h1, h2⟩, x⟩ := x
  refine ⟨⟨o, k a (by simp) o h1, h2⟩, ?_⟩
  rcases x with ⟨T, places, e, x1, x2, r⟩ | ⟨e, b, x1, r⟩ | ⟨e, b, z, l, r, slot, x1, r2⟩
  · exact .inl ⟨T, places, e, k I (by simp) _ x1, k T (by rw [e]; simp) _ x2, r⟩
  · exact .inr (.inl ⟨e, b, k I (by simp) _ x1, r⟩)
  · exact .inr (.inr ⟨e, b, z, l, r, slot, k I (by simp) _ x1, r2⟩)
theorem arr_one {α : Type} : ∀ {x : Array α}, x.size = 1 → ∃ j, x = #[j]
  | ⟨[j]⟩, _ => ⟨j, rfl⟩
theorem walks_set {I a : Addr} {es : Array (Int × Value)} {ep : Nat} {t : SetTable} {ord : List Value} {fs : List Addr} (hh : A.handled = none) (hf : t.fits es.size = true) (haI : a ≠ I) (hfI : ∀ T ∈ fs, T ≠ I) :
    Walks P w A I (I :: a :: fs) [I] es.size (fun i v => ord[i]? = some v) (SiAt w I a es ep t ord fs) := by
  have upd1 : ∀ {h h' : Heap} {b : Addr}, Heap.SameBut I h h' → b ≠ I → ∀ o, h.get? b = some o → h'.get? b = some o := fun sb hb o e => (sb.2 _ hb).trans e
  refine ⟨fun b hb => by rw [List.mem_singleton.mp hb]; simp, fun i h h' x k => x.keep k, fun i s Q E hi x q => ?_, fun s Q E x q => ?_, fun i s Q E x q => ?_⟩
  · obtain ⟨⟨o, h1, h2⟩, x⟩ := x
    rcases x with ⟨T, places, e, x1, x2, r1, r2, r3⟩ | ⟨e, b, x1, r⟩ | ⟨e, b, z, l, r, slot, x1, r2, r3⟩
    · have hp : places[i]? = some (places[i]'(by omega)) := List.getElem?_eq_getElem _
      have hk := r3 _ (List.getElem_mem (by omega : i < places.length))
      refine si_next_drawn x1 h1 h2 hf x2 hp (hx := (es[places[i]'(by omega)]'hk).1) (x := (es[places[i]'(by omega)]'hk).2) (by rw [Array.getElem?_eq_getElem hk]) fun h' hI' sb => ?_
      refine q _ h' s.toks ?_ ⟨⟨o, upd1 sb haI _ h1, h2⟩, .inl ⟨T, places, e, hI', upd1 sb (hfI T (by rw [e]; simp)) _ x2, r1, r2, r3⟩⟩ fun b o hb e => upd1 sb (by simpa using hb) _ e
      rw [r1, List.getElem?_map, hp]
      simp [Array.getElem?_eq_getElem hk]
    · have hsz : (pickOrder (w.params.setOrder a ep) es).size = es.size := by have := (pickOrder_perm (w.params.setOrder a ep) es).length_eq; simpa using this
      have he : (pickOrder (w.params.setOrder a ep) es)[i]? = some ((pickOrder (w.params.setOrder a ep) es)[i]'(by omega)) := Array.getElem?_eq_getElem _
      refine si_next_text b x1 h1 h2 hf he fun h' hI' sb => ?_
      refine q _ h' s.toks ?_ ⟨⟨o, upd1 sb haI _ h1, h2⟩, .inr (.inl ⟨e, b, hI', r⟩)⟩ fun b o hb e => upd1 sb (by simpa using hb) _ e
      rw [r, List.getElem?_map, Array.getElem?_toList, he]
      rfl
    · have i0 : i = 0 := by omega
      subst i0
      have n1 : es.size = 1 := by omega
      have hs := r2 rfl
      subst hs
      have hpl : t.place.size = 1 := by
        unfold SetTable.fits at hf
        rw [Bool.and_eq_true, beq_iff_eq] at hf
        omega
      obtain ⟨j, hj⟩ := arr_one hpl
      obtain ⟨e0, he0⟩ := arr_one n1
      refine si_slot b x1 h1 h2 hf l z ?_
      rw [hj, below_one, if_neg (Nat.not_lt_zero _), he0]
      refine wpAny_bind (wpAny_setField_rec x1 (by simp) fun g1 hI1 sb1 => wpAny_bind (wpAny_setField_rec hI1 (by simp) fun g2 hI2 sb2 => wpAny_pure ⟨_, rfl, ?_⟩))
      have sb := sb1.trans sb2
      refine q _ g2 s.toks ?_ ⟨⟨o, upd1 sb haI _ h1, h2⟩, .inr (.inr ⟨e, b, z, l, r, j + 1, ?_, (fun z => absurd z (Nat.succ_ne_zero 0)), fun _ => ⟨j, hj, rfl⟩⟩)⟩ fun b o hb e => upd1 sb (by simpa using hb) _ e
      · rw [r, he0]; rfl
      · exact hI2
  · obtain ⟨⟨o, h1, h2⟩, x⟩ := x
    rcases x with ⟨T, places, e, x1, x2, r1, r2, r3⟩ | ⟨e, b, x1, r⟩ | ⟨e, b, z, l, r, slot, x1, r2, r3⟩
    · exact si_end_drawn hh x1 h1 h2 hf x2 (List.getElem?_eq_none (by omega)) fun h' eb => q h' s.toks fun b o hb e => eb b o (by simpa using hb) e
    · have hsz : (pickOrder (w.params.setOrder a ep) es).size = es.size := by have := (pickOrder_perm (w.params.setOrder a ep) es).length_eq; simpa using this
      exact si_end_text hh b x1 h1 h2 hf (Array.getElem?_eq_none (by omega)) fun h' eb => q h' s.toks fun b o hb e => eb b o (by simpa using hb) e
    · refine si_slot b x1 h1 h2 hf l z ?_
      have hnone : es[SetTable.below t.place slot]? = none := by
        by_cases n1 : es.size = 1
        · obtain ⟨j, hj, hs⟩ := r3 n1
          rw [hj, below_one, if_pos (by omega)]
          exact Array.getElem?_eq_none (by omega)
        · exact Array.getElem?_eq_none (by omega)
      rw [hnone]
      dsimp only
      refine wpAny_bind (wpAny_setField_rec x1 (by simp) fun g1 hI1 sb1 => ?_)
      refine stop_it (A := A.in1) hh fun h' e k ⟨oe, he, hc⟩ => wpAny_bind (wpAny_isInstance ⟨oe, he, hc⟩ isSubtype_stop ?_)
      rw [if_pos rfl]
      exact wpAny_pure (q h' s.toks fun b ob hb eb => k b ob ((sb1.2 b (by simpa using hb)).trans eb))
  · have hT : s.TypeIs (.ref I) "set_iterator" := by
      obtain ⟨_, x⟩ := x
      rcases x with ⟨T, places, e, x1, _⟩ | ⟨e, b, x1, r⟩ | ⟨e, b, z, l, r, slot, x1, r2, r3⟩
      · exact ⟨_, x1, rfl⟩
      · exact ⟨_, x1, rfl⟩
      · exact ⟨_, x1, rfl⟩
    exact wpAny_pyIter_slot hT slot_si_iter (wpAny_call_entry slot_si_iter hT entry_si_iter (id (wpAny_pure ⟨.ref I, rfl, "set_iterator", .builtin "set_iterator.__next__", hT, slot_si_next.lookup, q⟩)) (args_si_iter (.ref I)))
theorem iter_set {a : Addr} {o : Obj} {es : Array (Int × Value)} {ep : Nat} {t : SetTable} {Q : Value → Shared → Prop} (ha : s.heap.get? a = some o) (hx : o.ExactSet) (hd : o.data = .set es ep t) (hf : t.fits es.size = true) (hl : t.led = !(w.params.followText "set-order")) (hp : t.plain = false ∨ es.size ≤ 1) (hz : es.size ≤ sizeLine)
    (hQ : ∀ (I : Addr) (fs : List Addr) (ord : List Value) (h' : Heap) (d : Drawn), s.heap.objs.size ≤ I → (∀ T ∈ fs, s.heap.objs.size ≤ T ∧ T ≠ I) → (∀ b ∈ I :: fs, b < h'.objs.size) → (∀ b o, s.heap.get? b = some o → h'.get? b = some o) → List.Perm ord (es.toList.map (·.2)) → SiAt w I a es ep t ord fs 0 h' → Q (.ref I) { s with heap := h', drawn := d }) :
    wpAny (model P w) A (pyIter (.ref a)) Q E s := by
  have hT : s.TypeIs (.ref a) "set" := ⟨o, ha, hx.1⟩
  refine wpAny_pyIter_slot hT F.slot_set_iter (wpAny_call_entry F.slot_set_iter hT entry_set_iter ?_ (F.args_set_iter_1 (.ref a)))
  show wpAny _ _ (Builtin.Frozenset.slot0 "__iter__" { pos := [.ref a] } >>= _) _ _ _
  refine wpAny_bind ?_
  show wpAny _ _ (Builtin.Frozenset.addrOf (.ref a)) _ _ _
  refine wpAny_pure ?_
  refine wpAny_bind (wpAny_bind (wpAny_setEntries_of ha hd hf (wpAny_pure ?_)))
  refine wpAny_bind ?_
  unfold setDrawn
  refine wpAny_bind (wpAny_setState_of ha hd hf ?_)
  dsimp only
  refine wpAny_bind (wpAny_bind (wpAny_askSetting (wpAny_pure (wpAny_pure ?_))))
  dsimp only
  split
  · rename_i hc
    have hc : (!(w.params.followText "set-order") && (!t.plain && decide (es.size > 1))) = true := hc
    refine wpAny_bind (drawOrderS es.size (List.range es.size) (by simp) fun ys d hy => ?_)
    have hyl : ys.length = es.size := by have := hy.length_eq; simpa using this
    refine wpAny_bind (wpAny_newTuple (s := { s with drawn := d }) ?_ (by rw [List.length_map, hyl]; exact hz))
    dsimp only
    have ha1 : (s.heap.push { cls := Value.type "tuple", data := Data.seq (List.map (fun (i : Nat) => rawInt ↑i) ys).toArray }).get? a = some o := Heap.get?_push_of_some _ ha
    refine wpAny_bind (wpAny_bind (wpAny_setState_of (s := { s with heap := s.heap.push { cls := Value.type "tuple", data := Data.seq (List.map (fun (i : Nat) => rawInt ↑i) ys).toArray }, drawn := d }) ha1 hd hf (wpAny_pure ?_)))
    dsimp only
    refine wpAny_bind (wpAny_newObj_type ?_ (hd := by show 5 ≤ sizeLine + 2; decide))
    generalize hp1 : s.heap.push { cls := Value.type "tuple", data := Data.seq (List.map (fun (i : Nat) => rawInt ↑i) ys).toArray } = g1 at ha1
    have z1 : g1.objs.size = s.heap.objs.size + 1 := by rw [← hp1]; exact Heap.size_push _ _
    have eT : g1.get? s.heap.objs.size = some { cls := Value.type "tuple", data := Data.seq (List.map (fun (i : Nat) => rawInt ↑i) ys).toArray } := by rw [← hp1]; exact Heap.get?_push_size _ rfl
    have k1 : ∀ b o, s.heap.get? b = some o → g1.get? b = some o := fun b o e => by rw [← hp1]; exact Heap.get?_push_of_some _ e
    have eI : (g1.push (siObj (.ref s.heap.objs.size) 0 a es.size ep)).get? g1.objs.size = some (siObj (.ref s.heap.objs.size) 0 a es.size ep) := Heap.get?_push_size _ rfl
    refine wpAny_pure ⟨_, rfl, "set_iterator", _, ⟨_, eI, rfl⟩, slot_si_next.lookup, ?_⟩
    have szE : (g1.push (siObj (.ref s.heap.objs.size) 0 a es.size ep)).objs.size = s.heap.objs.size + 2 := by rw [Heap.size_push, z1]
    refine hQ g1.objs.size [s.heap.objs.size] (ys.map fun k => ((es[k]?).getD (0, .none)).2) _ d (by rw [z1]; exact Nat.le_succ _) (fun T hT => by rw [List.mem_singleton.mp hT, z1]; exact ⟨Nat.le_refl _, Nat.ne_of_lt (Nat.lt_succ_self _)⟩) (fun b hb => ?_) (fun b o e => Heap.get?_push_of_some _ (k1 b o e)) ?_ ⟨⟨o, Heap.get?_push_of_some _ ha1, hd⟩, .inl ⟨_, ys, rfl, eI, Heap.get?_push_of_some _ eT, rfl, hyl, fun k hk => by have := hy.mem_iff.mp hk; simpa using this⟩⟩
    · rw [Heap.size_push]
      rcases List.mem_cons.mp hb with rfl | hb
      · exact Nat.lt_succ_self _
      · rw [List.mem_singleton.mp hb]
        show s.heap.objs.size < g1.objs.size + 1
        rw [z1]; exact Nat.lt_succ_of_lt (Nat.lt_succ_self _)
    · refine (hy.map _).trans ?_
      have e : List.map (fun k => ((es[k]?).getD (0, Value.none)).2) (List.range es.size) = es.toList.map (·.2) := by
        apply List.ext_getElem
        · simp
        · intro i h1 h2
          simp only [List.length_map, List.length_range] at h1
          simp [Array.getElem?_eq_getElem h1]
      rw [e]
  · rename_i hc
    have hc : ¬ ((!(w.params.followText "set-order") && (!t.plain && decide (es.size > 1))) = true) := hc
    refine wpAny_bind (wpAny_pure ?_)
    refine wpAny_bind (wpAny_bind (wpAny_setState_of ha hd hf (wpAny_pure ?_)))
    dsimp only
    refine wpAny_bind (wpAny_newObj_type ?_ (hd := by show 5 ≤ sizeLine + 2; decide))
    have eI : (s.heap.push (siObj (.int 0 0) 0 a es.size ep)).get? s.heap.objs.size = some (siObj (.int 0 0) 0 a es.size ep) := Heap.get?_push_size _ rfl
    refine wpAny_pure ⟨_, rfl, "set_iterator", _, ⟨_, eI, rfl⟩, slot_si_next.lookup, ?_⟩
    have szE : (s.heap.push (siObj (.int 0 0) 0 a es.size ep)).objs.size = s.heap.objs.size + 1 := Heap.size_push _ _
    by_cases hb : w.params.followText "set-order" = true
    · refine hQ s.heap.objs.size [] ((pickOrder (w.params.setOrder a ep) es).toList.map (·.2)) _ s.drawn (Nat.le_refl _) (fun T hT => absurd hT (by simp)) (fun b hb => by rw [List.mem_singleton.mp hb, Heap.size_push]; exact Nat.lt_succ_self _) (fun b o e => Heap.get?_push_of_some _ e) ((pickOrder_perm _ _).map _) ⟨⟨o, Heap.get?_push_of_some _ ha, hd⟩, .inr (.inl ⟨rfl, hb, eI, rfl⟩)⟩
    · have hb' : w.params.followText "set-order" = false := by simpa using hb
      have hsz : es.size ≤ 1 := by
        rcases hp with hp | hp
        · rw [hb', hp] at hc
          simp at hc
          exact hc
        · exact hp
      refine hQ s.heap.objs.size [] (es.toList.map (·.2)) _ s.drawn (Nat.le_refl _) (fun T hT => absurd hT (by simp)) (fun b hb => by rw [List.mem_singleton.mp hb, Heap.size_push]; exact Nat.lt_succ_self _) (fun b o e => Heap.get?_push_of_some _ e) (.refl _) ⟨⟨o, Heap.get?_push_of_some _ ha, hd⟩, .inr (.inr ⟨rfl, hb', hsz, by rw [hl, hb']; rfl, rfl, 0, eI, fun _ => rfl, fun z => absurd z (by decide)⟩)⟩
end
end L2
set_option Elab.async false
set_option linter.all false
set_option maxRecDepth 100000
set_option maxHeartbeats 2000000
namespace L2
open PySem PySem.Spec PyProof.Rows Ken
section
variable {P : Program} {w : World} {A : Around} {E : Value → Shared → Prop} {s : Shared}
theorem split_set_len : splitId "set.__len__" = some ("set", "__len__") := by decide +kernel
theorem hint_set {a : Addr} {Q : Bool → Shared → Prop} (hT : s.TypeIs (.ref a) "set") (h : Q false s) : wpAny (model P w) A (Builtin.List.listLengthHint (.ref a)) Q E s := by
  unfold Builtin.List.listLengthHint
  refine wpAny_bind (wpAny_specialOf hT F.slot_set_len.lookup ?_)
  dsimp only
  rw [split_set_len]
  dsimp only
  refine wpAny_bind (wpAny_isInstance hT sub_set_self ?_)
  rw [if_neg (by decide)]
  refine wpAny_ite_split (fun _ => wpAny_bind (wpAny_typeOf hT (wpAny_pure h))) fun hz => absurd (by first | rfl | decide +kernel) hz
theorem extend_set {a S : Addr} {o : Obj} {es : Array (Int × Value)} {ep : Nat} {t : SetTable} {R : Result → Shared → Prop} {res : Value} {c₀ : Nat} (hh : A.handled = none) (ha : s.heap.get? a = some o) (hx : o.ExactSet) (hd : o.data = .set es ep t) (hf : t.fits es.size = true) (hl : t.led = !(w.params.followText "set-order")) (hp : t.plain = false ∨ es.size ≤ 1) (hz : es.size ≤ sizeLine)
    (hS : s.heap.get? S = some { cls := .type "list", data := .seq #[] c₀ })
    (hR : ∀ (h' : Heap) (tk : Nat) (d : Drawn) (vs : List Value) (c' : Nat), (∀ b o, b ≠ S → s.heap.get? b = some o → h'.get? b = some o) → h'.get? S = some { cls := .type "list", data := .seq vs.toArray c' } → List.Perm vs (es.toList.map (·.2)) → R (.ok (.ret res)) { s with heap := h', toks := tk, drawn := d }) :
    wpAny (model P w) A.in1 (Builtin.List.listExtendWith (.ref S) (.ref a) res) (fun fin s' => match fin with
      | Fin.done f => R (.ok f) s'
      | Fin.again c' => c'.quiet = true ∧ codeAny (model P w) A c' R s') (fun e s' => R (.error e) s') s := by
  have hT : s.TypeIs (.ref a) "set" := ⟨o, ha, hx.1⟩
  have hSa : S ≠ a := fun z => by
    rw [z, ha] at hS
    cases hS
    cases hd
  unfold Builtin.List.listExtendWith
  refine wpAny_bind (wpAny_typeOf hT ?_)
  rw [if_neg (show ¬ ((Builtin.List.listSameRef (.ref S) (.ref a) || Value.type "set" == Value.type "list" || Value.type "set" == Value.type "tuple") = true) from by
    rw [show Builtin.List.listSameRef (.ref S) (.ref a) = false from by
      show (S == a) = false
      simpa using hSa]
    decide)]
  refine wpAny_bind (iter_set ha hx hd hf hl hp hz fun I fs ord h1 d hI hfs hlt k1 hperm st => ?_)
  have ol : ord.length = es.size := by have := hperm.length_eq; simpa using this
  have haI : a ≠ I := Nat.ne_of_lt (Nat.lt_of_lt_of_le (Heap.lt_size ha) hI)
  have hSI : S ≠ I := Nat.ne_of_lt (Nat.lt_of_lt_of_le (Heap.lt_size hS) hI)
  have hSf : S ∉ I :: a :: fs := fun z => by
    rcases List.mem_cons.mp z with z | z
    · exact hSI z
    rcases List.mem_cons.mp z with z | z
    · exact hSa z
    · exact Nat.ne_of_lt (Nat.lt_of_lt_of_le (Heap.lt_size hS) (hfs S z).1) rfl
  have hS1 := k1 S _ hS
  have hT1 : ({ s with heap := h1, drawn := d } : Shared).TypeIs (.ref a) "set" := ⟨o, k1 a _ ha, hx.1⟩
  have W := walks_set (P := P) (w := w) (A := A.in1) (I := I) (a := a) (es := es) (ep := ep) (t := t) (ord := ord) (fs := fs) hh hf haI fun T hT' => (hfs T hT').2
  have key : ∀ (h : Heap) (c₁ tk : Nat), SiAt w I a es ep t ord fs 0 h → (∀ b o, b ≠ S → s.heap.get? b = some o → h.get? b = some o) → h.get? S = some { cls := .type "list", data := .seq #[] c₁ } →
      codeAny (model P w) A (Code.builtin "list.extend.loop" { pos := [.ref S, .ref I, res] }) R { s with heap := h, toks := tk, drawn := d } := fun h c₁ tk hst hk hS₁ =>
    codeAny_extend_loopS (Walks.toS W) hz S hSf res es.size 0 { s with heap := h, toks := tk, drawn := d } #[] c₁ rfl (Nat.zero_le _) hst hS₁ (ItemsOf.nil _) fun s' acc' c' hm hS' hacc => by
      rw [Moved.eq_with hm]
      refine hR s'.heap s'.toks d acc'.toList c' (fun b o hb e => hm.heap b o (fun hmem => ?_) (hk b o hb e)) (by simpa using hS') ?_
      · rcases List.mem_cons.mp hmem with z | z
        · exact hb z
        · have z' : b = I := List.mem_singleton.mp z
          exact absurd (Heap.lt_size e) (by rw [z']; exact Nat.not_lt.mpr hI)
      · have e : acc'.toList = ord := by
          apply List.ext_getElem?
          intro j
          cases q : acc'.toList[j]? with
          | none =>
            have : acc'.toList.length ≤ j := List.getElem?_eq_none_iff.mp q
            rw [List.getElem?_eq_none (by rw [ol]; have := hacc.1; rw [Array.length_toList] at *; omega)]
          | some v => exact (hacc.2 j v (by simpa using q)).symm
        rw [e]
        exact hperm
  refine wpAny_bind (wpAny_holding (hint_set hT1 ?_))
  refine wpAny_ite_split (fun _ => ?_) fun _ => ?_
  · refine wpAny_bind (wpAny_rule (wpAny_bind ?_))
    have hS2 := Heap.get?_update_self (Obj.mapSeq fun x => x.push Value.none) hS1 rfl
    have hS3 := Heap.get?_update_self (Obj.mapSeq fun x => x.pop) hS2 rfl
    have k3 : ∀ b ob, b ≠ S → h1.get? b = some ob → ((h1.update S (Obj.mapSeq fun x => x.push Value.none)).update S (Obj.mapSeq fun x => x.pop)).get? b = some ob := fun b ob hb e =>
      ((Heap.SameBut.update _ S _).2 b hb).trans (((Heap.SameBut.update _ S _).2 b hb).trans e)
    refine wpAny_bind (wpAny_updateSeq hS1 rfl ?_)
    refine wpAny_updateSeq hS2 rfl ?_
    exact wpAny_pure ⟨plainId_quiet F.plain_extend_loop _, key _ _ s.toks (st.keep fun b hb ob e => k3 b ob (fun z => hSf (z ▸ hb)) e) (fun b ob hb e => k3 b ob hb (k1 b ob e)) hS3⟩
  · exact wpAny_pure ⟨plainId_quiet F.plain_extend_loop _, key h1 c₀ s.toks st (fun b o _ e => k1 b o e) hS1⟩
theorem collect_set {a : Addr} {o : Obj} {es : Array (Int × Value)} {ep : Nat} {t : SetTable} {Q : List Value → Shared → Prop} (hh : A.handled = none) (ha : s.heap.get? a = some o) (hx : o.ExactSet) (hd : o.data = .set es ep t) (hf : t.fits es.size = true) (hl : t.led = !(w.params.followText "set-order")) (hp : t.plain = false ∨ es.size ≤ 1) (hz : es.size ≤ sizeLine)
    (hQ : ∀ (h' : Heap) (tk : Nat) (d : Drawn) (vs : List Value), s.heap.objs.size < h'.objs.size → (∀ b o, s.heap.get? b = some o → h'.get? b = some o) → List.Perm vs (es.toList.map (·.2)) → Q vs { s with heap := h', toks := tk, drawn := d }) :
    wpAny (model P w) A (collect (.ref a)) Q E s := by
  refine wpAny_bind (wpAny_runValue (codeAny_builtin entry_proto_collect' ?_))
  rw [Around.under_plainId F.plain_proto_collect { pos := [Value.ref a] }]
  refine wpAny_bind (wpAny_newObj_type (wpAny_pure ⟨plainId_quiet F.plain_list_iadd _, codeAny_builtin entry_list_iadd' ?_⟩))
  rw [Around.under_plainId F.plain_list_iadd { pos := [Value.ref s.heap.objs.size, Value.ref a] }]
  show wpAny _ _ (Builtin.List.listExtendWith (.ref s.heap.objs.size) (.ref a) (.ref s.heap.objs.size)) _ _ _
  have hS : (s.heap.push { cls := Value.type "list", data := Data.seq ([] : List Value).toArray }).get? s.heap.objs.size = some { cls := Value.type "list", data := Data.seq #[] 0 } := Heap.get?_push_size _ rfl
  refine extend_set (P := P) (w := w) (s := { s with heap := s.heap.push { cls := Value.type "list", data := Data.seq ([] : List Value).toArray } }) (R := fun r s' => match r with
    | .ok (.ret v) => wpAny (model P w) A (match v with
      | .ref a => do
        let o ← load a
        match o.data with
          | .seq xs _ => pure xs.toList
          | _ => unsupported "internal:collect"
      | _ => unsupported "internal:collect") Q E s'
    | .ok _ => False
    | .error e => E e s') hh (Heap.get?_push_of_some _ ha) hx hd hf hl hp hz hS fun h' tk d vs c' k hv hperm => ?_
  refine wpAny_bind (wpAny_load hv (wpAny_pure ?_))
  exact hQ h' tk d vs (Heap.lt_size hv) (fun b ob e => k b ob (Nat.ne_of_lt (Heap.lt_size e)) (Heap.get?_push_of_some _ e)) hperm
theorem strs_paired {es : List (Int × Value)} {ys : List Str} (h : Paired (fun (e : Int × Value) (x : Str) => ∃ tk, e.2 = .str x tk) es ys) : StrsAre (es.map (·.2)) ys := by
  induction h with
  | nil => exact .nil
  | cons hx _ ih =>
    obtain ⟨tk, e⟩ := hx
    rw [List.map_cons, e]
    exact .cons _ tk ih
theorem strs_perm {us vs : List Value} {ys : List Str} (p : List.Perm us vs) (h : StrsAre us ys) : ∃ zs, List.Perm ys zs ∧ StrsAre vs zs := by
  induction p generalizing ys with
  | nil => cases h; exact ⟨[], .nil, .nil⟩
  | cons x _ ih =>
    cases h with
    | cons n tk t =>
      obtain ⟨zs, p', q'⟩ := ih t
      exact ⟨_ :: zs, .cons _ p', .cons _ tk q'⟩
  | swap x y l =>
    cases h with
    | cons n tk t =>
      cases t with
      | cons n2 tk2 t => exact ⟨_, .swap _ _ _, .cons _ tk2 (.cons _ tk t)⟩
  | trans _ _ ih1 ih2 =>
    obtain ⟨m1, p1, q1⟩ := ih1 h
    obtain ⟨m2, p2, q2⟩ := ih2 q1
    exact ⟨m2, p1.trans p2, q2⟩
theorem sorted_set {a : Addr} {xs : List Str} {Q : Value → Shared → Prop} (hh : A.handled = none) (st : SetAt P w s.heap a xs) (h64 : xs.length < 64)
    (hQ : ∀ (D : Addr) (h' : Heap) (tk : Nat) (d : Drawn) (out : List Value) (c : Nat) (ys : List Str), s.heap.objs.size ≤ D → (∀ b o, s.heap.get? b = some o → h'.get? b = some o) → h'.get? D = some { cls := .type "list", data := .seq out.toArray c } → StrsAre out ys → List.Perm ys xs → sortedS ys = true → Q (.ref D) { s with heap := h', toks := tk, drawn := d }) :
    wpAny (model P w) A (call (.builtin "sorted") [.ref a]) Q E s := by
  obtain ⟨o, es, ep, t, ys, h1, h2, h3, h4, h5, h6, h7, h8, h9, h10, h11⟩ := st
  have hlen : es.size = xs.length := by have := Paired.length h5; have := h6.length_eq; rw [← Array.length_toList]; omega
  refine Calls.call_function_entry kind_sorted plain_sorted entry_sorted (args_sorted1 (.ref a)) ?_
  show wpAny _ _ (pure () >>= _) _ _ _
  refine wpAny_bind (wpAny_pure (wpAny_bind (collect_set (A := A.in1) hh h1 h2 h3 h9 h10 (h11.imp id fun z => by rw [hlen, z]; exact Nat.zero_le _) (by rw [hlen]; exact Nat.le_trans (Nat.le_of_lt h64) (by decide)) fun h' tk d vs hlt k hperm => ?_)))
  obtain ⟨zs, pz, sz⟩ := strs_perm hperm.symm (strs_paired h5)
  have hvl : vs.length = xs.length := by have := hperm.length_eq; rw [List.length_map] at this; have e := Array.length_toList (xs := es); omega
  refine wpAny_bind (wpAny_newList ?_ (by rw [hvl]; exact Nat.le_trans (Nat.le_of_lt h64) (by decide)))
  have hoL : (h'.push (seqObj "list" vs.toArray 0)).get? h'.objs.size = some (seqObj "list" vs.toArray 0) := Heap.get?_push_size _ rfl
  refine wpAny_bind (wpAny_holding (wpAny_call_entry slot_list_sort ⟨_, hoL, rfl⟩ entry_list_sort ?_ (args_list_sort (.ref h'.objs.size))))
  refine list_sort_treeK strKind_oneLt hoL (StrsAre.keysOf sz) (fun v₁ v₂ rest e => keyKind_strs (e ▸ sz)) (by rw [hvl]; exact h64) fun st' a1 a2 => ?_
  obtain ⟨ss', b1, b2, b3⟩ := sorted_out_str sz a1 a2
  obtain ⟨c, hc⟩ := sortedHeap_at (out := Array.map (fun x => x.snd) (arrOf st')) hoL
  refine ⟨.none, rfl, wpAny_pure ⟨_, rfl, ?_⟩⟩
  have hsz : s.heap.objs.size ≤ h'.objs.size := Nat.le_of_lt hlt
  exact hQ h'.objs.size _ tk d _ c ss' hsz (fun b ob e => by
    have hb := k b ob e
    rw [sortedHeap_old (Nat.ne_of_lt (Heap.lt_size hb)) (by rw [Heap.size_push]; exact Nat.lt_succ_of_lt (Heap.lt_size hb))]
    exact Heap.get?_push_of_some _ hb) (hc.trans (by rw [Array.toArray_toList])) b1 (b2.trans (pz.symm.trans h6)) b3
end
end L2
set_option Elab.async false
set_option linter.all false
set_option maxRecDepth 100000
set_option maxHeartbeats 2000000
namespace L2
open PySem PySem.Spec PyProof.Rows Ken
theorem cxOf_prog (CX : CXT) (P : Program) (w : World) (K : PySem.W.Frag) (mg : Str → Option Value) (base : Heap) (N : List Str) (qual : Str) (scope : Scope) (f : Addr) (cd : Value) (A : Around) (outer : List Env) (s : Shared) (H : Hp) (E : XK) : (cxOf CX P w K mg base N qual scope f cd A outer s H E).prog = P := rfl
theorem cxOf_w (CX : CXT) (P : Program) (w : World) (K : PySem.W.Frag) (mg : Str → Option Value) (base : Heap) (N : List Str) (qual : Str) (scope : Scope) (f : Addr) (cd : Value) (A : Around) (outer : List Env) (s : Shared) (H : Hp) (E : XK) : (cxOf CX P w K mg base N qual scope f cd A outer s H E).w = w := rfl
theorem blk_prog (X : Cx) (N' : List Str) (scope : Scope) (cl : List (Str × Addr)) (s : Shared) (H : Hp) (C : Addr) (ex : List Addr) : (blk X N' scope cl s H C ex).prog = X.prog := rfl
theorem blk_w (X : Cx) (N' : List Str) (scope : Scope) (cl : List (Str × Addr)) (s : Shared) (H : Hp) (C : Addr) (ex : List Addr) : (blk X N' scope cl s H C ex).w = X.w := rfl
section
variable {X : Cx}
theorem call_sortedS {P : Program} {w : World} (hP : X.prog = P) (hw : X.w = w) (hc : X.calm = true) : CallR X (.builtin "sorted") (fun vs H Q => ∃ (a : Addr) (xs : List Str), vs = [.ref a] ∧ H a = some (setO P w a xs) ∧ xs.length < 64 ∧ ∀ l ys, H l = none → List.Perm ys xs → sortedS ys = true → Q (.ref l) (upd H l (.lst (ys.map V.str)))) := by
  subst hP hw
  intro pins s σ H vs us Q I r h
  obtain ⟨a, xs, rfl, ha, hn, q⟩ := h
  obtain ⟨u, rfl, ru⟩ := vals1 r
  cases ru
  refine sorted_set (I.ok.hd hc) (setO_at I.hok ha) hn fun D h' tk d out c ys hD k hD' hs hp hso => ?_
  have hl : H D = none := I.hok.fresh hD
  have yl : ys.length < 64 := by rw [hp.length_eq]; exact hn
  have ok : ObjOk X.prog X.w (upd H D (.lst (ys.map V.str))) h' D (.lst (ys.map V.str)) := ⟨by rw [List.length_map]; exact Nat.le_trans (Nat.le_of_lt yl) (by decide), out, c, vals_of_strs hs, hD'⟩
  exact ⟨.ref D, _, I.call (g' := s.gens) (t' := tk) (d' := d) (ch := []) (Un.laid k hD hl) (I.hok.laid k hD ok) I.bare (fun b z => absurd z (by simp)), rfl, q D ys hl hp hso⟩
end
end L2
namespace Ken
open PySem L2 PyProof.Rows
def Tm.ltrs : Tm → List Str
  | .low => []
  | .ltr w => [w]
  | .nd _ a b => a.ltrs ++ b.ltrs
def Tm.here : Tm → List Str
  | .ltr w => [w]
  | _ => []
theorem pre_here : ∀ t : Tm, t.pre.flatMap Tm.here = t.ltrs
  | .low => rfl
  | .ltr w => rfl
  | .nd k a b => by
    show [] ++ (a.pre ++ b.pre).flatMap Tm.here = a.ltrs ++ b.ltrs
    rw [List.nil_append, List.flatMap_append, pre_here a, pre_here b]
theorem ltrs_inW {ws : List Str} : ∀ {t : Tm}, t.inW ws → ∀ x ∈ t.ltrs, x ∈ ws
  | .low, _, x, h => absurd h (by simp [Tm.ltrs])
  | .ltr w, h, x, hx => by rw [List.mem_singleton.mp hx]; exact h
  | .nd k a b, h, x, hx => (List.mem_append.mp hx).elim (ltrs_inW h.1 x) (ltrs_inW h.2 x)
def sp_letters (K : PySem.W.Frag) : Sp := fun vs H Q _ => ∃ (v : V) (t : Tm) (ws : List Str), vs = [v] ∧ IsT K H v t ∧ t.parts ≤ 300 ∧ t.inW ws ∧ ws.length ≤ 40 ∧
  ∀ (r : Addr) (H' : Hp) (ys : List Str), Same H H' → H r = none → H' r = some (.lst (ys.map V.str)) → ys.Nodup → sortedS ys = true → (∀ x, x ∈ ys ↔ x ∈ t.ltrs) → Q (.ref r) H'
theorem len_le_sub : ∀ {xs ws : List Str}, xs.Nodup → (∀ x ∈ xs, x ∈ ws) → xs.length ≤ ws.length
  | [], _, _, _ => Nat.zero_le _
  | x :: xs, ws, nd, h => by
    have hx := h x List.mem_cons_self
    have ih := len_le_sub (xs := xs) (ws := ws.erase x) (List.nodup_cons.mp nd).2 fun y hy => (List.mem_erase_of_ne (show y ≠ x from fun z => (List.nodup_cons.mp nd).1 (by rw [← z]; exact hy))).mpr (h y (List.mem_cons_of_mem _ hy))
    have := List.length_erase_of_mem hx
    have : 0 < ws.length := List.length_pos_of_mem hx
    rw [List.length_cons]
    omega
end Ken
set_option Elab.async false
set_option linter.all false
set_option maxRecDepth 100000
set_option maxHeartbeats 2000000
namespace L2
open PySem PySem.Spec PyProof.Rows
theorem lookup_out {α : Type} {x : Str} : ∀ {l : List (Str × α)}, (∀ v, (x, v) ∉ l) → l.lookup x = none
  | [], _ => rfl
  | (y, v) :: l, h => by
    have hy : x ≠ y := fun e => h v (by rw [e]; exact List.mem_cons_self)
    rw [List.lookup_cons, show (x == y) = false from by simpa using hy]
    exact lookup_out fun v hv => h v (List.mem_cons_of_mem _ hv)
theorem lookup_rev_zip : ∀ {ps : List Str} {us : List Value} {i : Nat} {x : Str} {u : Value}, ps.Nodup → ps[i]? = some x → us[i]? = some u → (ps.zip us).reverse.lookup x = some u
  | [], _, _, _, _, _, h, _ => by simp at h
  | _ :: _, [], _, _, _, _, _, h => by simp at h
  | p :: ps, w :: us, 0, x, u, nd, h1, h2 => by
    simp at h1 h2
    subst h1; subst h2
    rw [List.zip_cons_cons, List.reverse_cons, List.lookup_append, lookup_out (fun v hv => (List.nodup_cons.mp nd).1 (List.of_mem_zip (List.mem_reverse.mp hv)).1)]
    simp
  | p :: ps, w :: us, i + 1, x, u, nd, h1, h2 => by
    have ih := lookup_rev_zip (List.nodup_cons.mp nd).2 (show ps[i]? = some x by simpa using h1) (show us[i]? = some u by simpa using h2)
    rw [List.zip_cons_cons, List.reverse_cons, List.lookup_append, ih]
    rfl
structure FnScopeC (N ps fv : List Str) (sc : Scope) : Prop where
  kind : sc.kind = .function
  co : sc.isCoroutine = false
  gen : sc.isGenerator = false
  nd : N.Nodup
  pre : N.take (ps ++ fv).length = ps ++ fv
  par : ∀ x ∈ ps, sc.names.lookup x = some .local
  fr : ∀ x ∈ fv, sc.names.lookup x = some .free
  nocell : ∀ y ∈ sc.names, y.2 ≠ .cell
structure Caught (K : PySem.W.Frag) (sc : Scope) (cl : List (Str × Addr)) (fv : List Str) (frv : List V) : Prop where
  len : frv.length = fv.length
  cell : ∀ (i : Nat) (x : Str) (v : V), fv[i]? = some x → frv[i]? = some v → ∃ c o u, cl.lookup x = some c ∧ K.lookup c = some o ∧ o.data = .cell (some u) ∧ RelV v u
  all : ∀ x c, cl.lookup x = some c → ∃ o v, K.lookup c = some o ∧ o.data = .cell v
  inj : ∀ x y c, cl.lookup x = some c → cl.lookup y = some c → x = y
  has : ∀ x, sc.names.lookup x = some .free → ∃ c, cl.lookup x = some c
def cxC (CX : CXT) (P : Program) (w : World) (K : PySem.W.Frag) (mg : Str → Option Value) (base : Heap) (N : List Str) (qual : Str) (scope : Scope) (f : Addr) (cd : Value) (cl : List (Str × Addr)) (A : Around) (outer : List Env) (s : Shared) (H : Hp) (E : XK) : Cx where
  prog := P
  w := w
  K := K
  mg := mg
  base := base
  A := A.deeper (PySem.W.envX qual scope s.heap.objs.size f cd cl)
  N := N
  s₀ := s
  H₀ := H
  env := PySem.W.envX qual scope s.heap.objs.size f cd cl
  outer := outer
  stack := PySem.W.envX qual scope s.heap.objs.size f cd cl :: outer
  ex := []
  calm := true
  fn := fun _ => false
  pn := []
  xe := fun e s' => wpAny (model P w) (A.deeper (PySem.W.envX qual scope s.heap.objs.size f cd cl)) (leaving (PySem.W.envX qual scope s.heap.objs.size f cd cl) e) (fun _ s'' => CX outer H s E e s'') (fun e' s'' => CX outer H s E e' s'') s'
theorem cxC_K (CX : CXT) (P : Program) (w : World) (K : PySem.W.Frag) (mg : Str → Option Value) (base : Heap) (N : List Str) (qual : Str) (scope : Scope) (f : Addr) (cd : Value) (cl : List (Str × Addr)) (A : Around) (outer : List Env) (s : Shared) (H : Hp) (E : XK) : (cxC CX P w K mg base N qual scope f cd cl A outer s H E).K = K := rfl
theorem inv_startC {CX : CXT} {P : Program} {w : World} {K : PySem.W.Frag} {mg : Str → Option Value} {base : Heap} {N ps fv : List Str} {qual : Str} {scope : Scope} {f : Addr} {cd : Value} {cl : List (Str × Addr)} {A : Around} {outer : List Env} {s : Shared} {H : Hp} {E : XK} {us : List Value} {vs frv : List V} {h1 : Heap} {tk : Nat}
    (S : FnScopeC N ps fv scope) (C : Caught K scope cl fv frv) (hd : A.handled = none) (e0 : Env0 P w K mg base A outer s H) (hl : vs.length = ps.length) (r : Vals vs us)
    (ns : h1.Ns s.heap.objs.size fun x => (ps.zip us).reverse.lookup x) (hk : ∀ b o, s.heap.get? b = some o → h1.get? b = some o) :
    Inv (cxC CX P w K mg base N qual scope f cd cl A outer s H E) [] (start N (vs ++ frv)) H { s with heap := h1, toks := tk } := by
  have hpl : (ps ++ fv).length ≤ N.length := by have := congrArg List.length S.pre; rw [List.length_take] at this; omega
  have noA : ∀ b : Addr, b ∉ (cxC CX P w K mg base N qual scope f cd cl A outer s H E).ex := fun b z => absurd (show b ∈ ([] : List Addr) from z) (by simp)
  have hlen : (vs ++ frv).length = (ps ++ fv).length := by rw [List.length_append, List.length_append, hl, C.len]
  have kin : ∀ c o, K.lookup c = some o → s.heap.get? c = some o ∧ H c = none := fun c o e => e0.bs c o (e0.mod.kin c o e)
  refine ⟨⟨e0.mod, S.kind, rfl, rfl, Nat.le_refl _, C.inj, fun y hy => ?_, fun y c z _ => (nomatch (show false = true from z)), fun _ => hd, Around.frames_deeper e0.frames, .inr ⟨rfl, rfl⟩, fun b z => absurd z (noA b), e0.bs, e0.bsz, fun b _ _ => noA b, fun b z => absurd z (noA b), e0.funs, e0.frf⟩,
    rfl, e0.bare, Un.kept hk, ⟨_, ns, fun i y v h1 h2 h3 => ?_⟩, fun y c h => ?_, e0.hok.fresh (Nat.le_refl _), fun y c h => ?_, fun p hp => absurd (show p ∈ ([] : List (Addr × Obj)) from hp) (by simp), e0.hok.kept hk, ?_⟩
  · have hy : scope.names.lookup y = some .cell ∨ scope.names.lookup y = some .free := hy
    rcases hy with hy | hy
    · exact absurd rfl (S.nocell _ (PySem.mem_of_lookup hy))
    · exact C.has y hy
  · have hi : i < (vs ++ frv).length := by
      unfold start at h2
      by_cases hi : i < (vs ++ frv).length
      · exact hi
      · rw [List.getElem?_append_right (by simpa using hi)] at h2
        rw [List.getElem?_replicate] at h2
        split at h2 <;> cases h2
    have ha : (vs ++ frv)[i]? = some v := by
      unfold start at h2
      rw [List.getElem?_append_left (by simpa using hi), List.getElem?_map] at h2
      cases e : (vs ++ frv)[i]? with
      | none => rw [e] at h2; cases h2
      | some a => rw [e] at h2; cases h2; rfl
    have hp : (ps ++ fv)[i]? = some y := by
      rw [← S.pre, List.getElem?_take_of_lt (by omega)]; exact h1
    have ndP : (ps ++ fv).Nodup := by rw [← S.pre]; exact S.nd.sublist (List.take_sublist _ _)
    by_cases hv : i < vs.length
    · rw [List.getElem?_append_left hv] at ha
      rw [List.getElem?_append_left (by omega)] at hp
      obtain ⟨u, hu, rv⟩ := r.get ha
      exact ⟨u, rv, .inl ⟨S.par y (List.mem_of_getElem? hp), lookup_rev_zip (ndP.sublist (List.sublist_append_left _ _)) hp hu⟩⟩
    · rw [List.getElem?_append_right (by omega)] at ha
      rw [List.getElem?_append_right (by omega), ← hl] at hp
      obtain ⟨c, o, u, e1, e2, e3, rv⟩ := C.cell _ y v hp ha
      refine ⟨u, rv, .inr ⟨.inr (S.fr y (List.mem_of_getElem? hp)), c, e1, o, hk c o (kin c o e2).1, e3⟩⟩
  · obtain ⟨o, v, e1, e2⟩ := C.all y c h
    exact ⟨v, o, hk c o (kin c o e1).1, e2⟩
  · obtain ⟨o, v, e1, e2⟩ := C.all y c h
    exact (kin c o e1).2
  · unfold start
    show _ = N.length
    rw [List.length_append, List.length_map, List.length_replicate]
    omega
theorem fn_ofC {CX : CXT} {P : Program} {w : World} {K : PySem.W.Frag} {mg : Str → Option Value} {base : Heap} {k : Nat} {f : Addr} {name qual : Str} {params : Arguments} {body : List Stmt} {scope : Scope} {cl : List (Str × Addr)} {doc pm cdv ct oc : Value} {od : Option Addr}
    {osl : Array (Option Value)} {N ps fv : List Str} {frv : List V} {sp : Sp} (lk : K.lookup f = some ⟨oc, od, .func (PySem.W.fnX name qual params body scope cl .none .none doc pm none cdv ct), osl⟩) (hcd : PySem.W.codeIn K cdv qual = true) (S : FnScopeC N ps fv scope) (C : Caught K scope cl fv frv)
    (len : ∀ vs H Q E, sp vs H Q E → vs.length = ps.length)
    (hbody : ∀ (A : Around) (outer : List Env) (s : Shared) (H : Hp) (vs : List V) (Q : VK) (E : XK), Room k (A.deeper (PySem.W.envX qual scope s.heap.objs.size f cdv cl)) → sp vs H Q E →
      ∃ t, PSs (cxC CX P w K mg base N qual scope f cdv cl A outer s H E) body t ∧ t { nx := fun _ H' => Q .non H', rt := Q } (start N (vs ++ frv)) H) :
    FnOk P w K mg base CX (k + 1) f (PySem.W.fnX name qual params body scope cl .none .none doc pm none cdv ct) ps sp := by
  refine ⟨len, fun A outer s H args us vs Q E hr e0 hb r hsp => ?_⟩
  have hl := len _ _ _ _ hsp
  have KX : K.In s.heap := e0.mod.kin.keeps fun b o e => (e0.bs b o e).1
  have lim : s.heap.NoLimit := e0.mod.nolimit.keeps fun b o e => (e0.bs b o e).1
  refine codeAny_call_function hr.depth (KX _ _ lk) rfl S.co S.gen rfl (PySem.W.codeRec_of KX hcd) (hb _ _ _ _ ?_)
  refine wpAny_newFunctionEnv S.nocell (fun ⟨n, v⟩ hy => S.par n (List.of_mem_zip hy).1) (fun h1 ns sb => ?_) S.kind
  have hk : ∀ b o, s.heap.get? b = some o → h1.get? b = some o := fun b o e => by
    rw [sb.2 b (Nat.ne_of_lt (Heap.lt_size e))]
    exact Heap.get?_push_of_some _ e
  refine ⟨lim.keeps hk, codeAny_func ?_⟩
  obtain ⟨t, ht, hq⟩ := hbody A outer s H vs Q E (hr.deeper _) hsp
  have I : Inv (cxC CX P w K mg base N qual scope f cdv cl A outer s H E) [] (start N (vs ++ frv)) H { s with heap := h1, toks := s.toks + (ps.zip us).length } := inv_startC S C hr.hd e0 hl r ns hk
  refine wpAny_mono (ht [] _ (start N (vs ++ frv)) H _ I hq) (fun fl s' hs => ?_) fun e s' hs => hs
  have fin : ∀ {σ' : St} {H' : Hp} {v : V} {u : Value}, Inv (cxC CX P w K mg base N qual scope f cdv cl A outer s H E) [] σ' H' s' → RelV v u → Q v H' → CE outer P w H s Q u s' :=
    fun {σ' H' v u} J rv q => ⟨v, H', J.os, J.bare, J.base, J.hok, rv, q⟩
  cases fl with
  | ret u =>
    obtain ⟨v, σ', H', J, rv, q⟩ := hs
    exact fin J rv q
  | next =>
    obtain ⟨σ', H', J, q⟩ := hs
    exact fin (v := V.non) (u := Value.none) J rfl q
  | brk =>
    obtain ⟨_, _, _, q⟩ := hs
    exact False.elim q
  | cont =>
    obtain ⟨_, _, _, q⟩ := hs
    exact False.elim q
end L2
set_option Elab.async false
set_option linter.all false
set_option maxRecDepth 100000
set_option maxHeartbeats 2000000
namespace L2
open PySem PySem.Spec PyProof.Rows
abbrev FZ (o : Obj) : HO := .frz o (.ext fun _ => True)
def SameT (H H' : Hp) : Prop := ∀ b o, (∀ ps, o ≠ .tbl ps) → H b = some o → H' b = some o
theorem SameT.refl (H : Hp) : SameT H H := fun _ _ _ h => h
theorem SameT.trans {H H1 H2 : Hp} (a : SameT H H1) (b : SameT H1 H2) : SameT H H2 := fun c o n h => b c o n (a c o n h)
theorem Same.toT {H H' : Hp} (a : Same H H') : SameT H H' := fun c o _ h => a c o h
structure SameU (P : Addr) (H H' : Hp) : Prop where
  toT : SameT H H'
  off : ∀ b o, b ≠ P → H b = some o → H' b = some o
  tab : ∀ o, H P = some o → ∃ o', H' P = some o'
theorem SameU.trans {P : Addr} {H H1 H2 : Hp} (a : SameU P H H1) (b : SameU P H1 H2) : SameU P H H2 :=
  ⟨a.toT.trans b.toT, fun c o n h => b.off c o n (a.off c o n h), fun o h => by obtain ⟨o', h'⟩ := a.tab o h; exact b.tab o' h'⟩
theorem Same.toU {P : Addr} {H H' : Hp} (a : Same H H') : SameU P H H' := ⟨a.toT, fun c o _ h => a c o h, fun o h => ⟨o, a _ _ h⟩⟩
theorem SameU.free {P : Addr} {H H' : Hp} (a : SameU P H H') {l : Addr} (h : H' l = Option.none) : H l = Option.none := by
  cases e : H l with
  | none => rfl
  | some o =>
    by_cases z : l = P
    · subst z
      obtain ⟨o', e'⟩ := a.tab o e
      rw [h] at e'; cases e'
    · have := a.off l o z e
      rw [h] at this; cases this
theorem SameU.write {P : Addr} {H0 H : Hp} {l : Addr} {o : HO} (e : SameU P H0 H) (h : H0 l = Option.none) : SameU P H0 (upd H l o) := by
  have ne : ∀ {b u}, H0 b = some u → b ≠ l := fun {b u} q z => by rw [z, h] at q; cases q
  refine ⟨fun b u n q => ?_, fun b u n q => ?_, fun u q => ?_⟩
  · rw [upd_ne (ne q)]; exact e.toT b u n q
  · rw [upd_ne (ne q)]; exact e.off b u n q
  · obtain ⟨u', h'⟩ := e.tab u q
    exact ⟨u', by rw [upd_ne (ne q)]; exact h'⟩
def CodeFz (H : Hp) (cv : Value) (q : Str) : Prop := ∃ c o vs t, cv = .ref c ∧ H c = some (FZ o) ∧ o.data = .fields vs ∧ vs[1]? = some (.str q t)
theorem CodeFz.keep {H H' : Hp} {cv : Value} {q : Str} (h : CodeFz H cv q) (k : SameT H H') : CodeFz H' cv q := by
  obtain ⟨c, o, vs, t, h1, h2, h3, h4⟩ := h
  exact ⟨c, o, vs, t, h1, k c _ (fun _ z => nomatch z) h2, h3, h4⟩
def TabOk (H : Hp) (P : Addr) (ds : List (Pos × Str)) : Prop :=
  ∃ ps, H P = some (.tbl ps) ∧ TriplesOk ps.toList ∧ ∀ d ∈ ds, ∀ cv, codeAmong d.1 ps.toList = some cv → CodeFz H cv d.2
theorem TabOk.keep {H H' : Hp} {P : Addr} {ds : List (Pos × Str)} (h : TabOk H P ds) (k : Same H H') : TabOk H' P ds := by
  obtain ⟨ps, h1, h2, h3⟩ := h
  exact ⟨ps, k _ _ h1, h2, fun d hd cv e => (h3 d hd cv e).keep k.toT⟩
theorem TabOk.new {H : Hp} {P : Addr} {ds : List (Pos × Str)} (h : H P = some (.tbl #[])) : TabOk H P ds :=
  ⟨#[], h, trivial, fun d _ cv e => by
    have e' : (none : Option Value) = some cv := e
    cases e'⟩
def FnFz (H : Hp) (f : Addr) (name qual : Str) (params : Arguments) (body : List Stmt) (scope : Scope) (cl : List (Str × Addr)) : Prop :=
  ∃ doc pm ct cv, H f = some (FZ { cls := .type "function", data := .func (PySem.W.fnX name qual params body scope cl .none .none doc pm none cv ct) }) ∧ CodeFz H cv qual
theorem FnFz.keep {H H' : Hp} {f : Addr} {name qual : Str} {params : Arguments} {body : List Stmt} {scope : Scope} {cl : List (Str × Addr)} (h : FnFz H f name qual params body scope cl) (k : SameT H H') : FnFz H' f name qual params body scope cl := by
  obtain ⟨doc, pm, ct, cv, h1, h2⟩ := h
  exact ⟨doc, pm, ct, cv, k _ _ (fun _ z => nomatch z) h1, h2.keep k⟩
theorem triples_app : ∀ {l m : List Value}, TriplesOk l → TriplesOk m → TriplesOk (l ++ m)
  | [], m, _, h => h
  | .int i a :: .int j b :: c :: r, m, h, h' => by
    show TriplesOk (.int i a :: .int j b :: c :: (r ++ m))
    exact triples_app (l := r) h h'
theorem codeAmong_app {pos : Pos} : ∀ {l m : List Value}, TriplesOk l → codeAmong pos (l ++ m) = (codeAmong pos l).or (codeAmong pos m)
  | [], m, _ => by simp [codeAmong]
  | .int i a :: .int j b :: c :: r, m, h => by
    show codeAmong pos (.int i a :: .int j b :: c :: (r ++ m)) = _
    rw [codeAmong, codeAmong]
    split
    · rfl
    · exact codeAmong_app (l := r) h
theorem fz_ok {P : Program} {w : World} {H : Hp} {h : Heap} {a : Addr} {o : Obj} (e : h.get? a = some o) : ObjOk P w H h a (FZ o) := ⟨e, trivial, ⟨o, e⟩, fun _ _ _ _ => trivial⟩
def tDef (i : Nat) (name qual : Str) (params : Arguments) (body : List Stmt) (scope : Scope) (cl : List (Str × Addr)) (P : Addr) (ds : List (Pos × Str)) : TS := fun D σ H =>
  TabOk H P ds ∧ ∀ f H', H f = none → SameU P H H' → TabOk H' P ds → FnFz H' f name qual params body scope cl → D.nx (σ.set i (some (.ref f))) H'
theorem ps_def {X : Cx} {i : Nat} {name qual : Str} {params : Arguments} {body : List Stmt} {scope : Scope} {pos : Pos} {cl : List (Str × Addr)} {c P : Addr} {ds : List (Pos × Str)}
    (hN : X.N.Nodup) (hi : X.N[i]? = some name) (hx : Loc X.env.scope name) (hcl : closureFor scope X.env = pure cl) (hc : X.env.code = .ref c) (hC : ∀ h, X.K.In h → PySem.W.CodeHd h c P) (hB : ∀ h, X.K.In h → h.BuiltinsAt X.mg P) (hP : mainGlobals ≠ P)
    (hq : qualnameIn X.env name name = qual) (hd : (pos, qual) ∈ ds) (hds : ∀ d ∈ ds, d.1.line = pos.line → d.1.col = pos.col → d.2 = qual)
    (h1 : params.defaults = []) (h2 : params.kw_defaults = []) (h3 : annTrees params none X.env = [])
    (hf : X.fn name = true ∨ X.env.scope.names.lookup name = some .local := by first | exact .inl rfl | exact .inr rfl | assumption) :
    PS X (.FunctionDef name params body [] none [] scope none name pos) (tDef i name qual params body scope cl P ds) := by
  intro pins s σ H D I h
  obtain ⟨⟨ps, hp, ht, hcs⟩, q⟩ := h
  refine PySem.W.nestDef_K h1 h2 h3 ?_
  rw [hq]
  have kX := I.kIn
  have hPs : s.heap.get? P = some (PySem.W.tabObj ps) := I.hok P _ hp
  have mgs : s.heap.Ns mainGlobals X.mg := by
    obtain ⟨o, es, ep, e, d, r⟩ := I.ok.mod.glob
    exact ⟨o, es, ep, I.bk _ _ e, d, r⟩
  have fin : ∀ {H' : Hp} {s' : Shared} {f : Addr}, Inv X pins σ H' s' → H f = none → SameU P H H' → TabOk H' P ds → FnFz H' f name qual params body scope cl →
      wpAny (model X.prog X.w) X.A (storeName X.env name (.ref f)) (fun _ s'' => SP X pins D .next s'') X.xe s' := fun {H' s' f} J g1 g2 g3 g4 =>
    store_ok (v := .ref f) J hN hi hx rfl (fun s'' J' => ⟨_, _, J', q f H' g1 g2 g3 g4⟩) hf
  cases hm : codeAmong pos ps.toList with
  | some cv =>
    refine PySem.W.makeFunction_hit hcl I.ok.glob mgs hc (hC _ kX) hPs ht hm (hB _ kX) fun ctv doc h' tk hk hsz => ?_
    have kk : ∀ b o, s.heap.get? b = some o → (h'.push { cls := Value.type "function", data := Data.func (PySem.W.fnX name qual params body scope cl Value.none Value.none doc ((X.mg (Str.ofString "__name__")).getD Value.none) none cv ctv) }).get? b = some o :=
      fun b o e => Heap.get?_push_of_some _ (hk b o e)
    have hn : H h'.objs.size = none := I.hok.fresh hsz
    have J := I.laid (a := h'.objs.size) (o := FZ _) (t' := tk) kk hsz (fz_ok (Heap.get?_push_size _ rfl))
    have e1 : Same H (upd H h'.objs.size (FZ { cls := Value.type "function", data := Data.func (PySem.W.fnX name qual params body scope cl Value.none Value.none doc ((X.mg (Str.ofString "__name__")).getD Value.none) none cv ctv) })) := fun b u z => by rw [upd_ne (ne_of_none z hn)]; exact z
    exact fin J hn e1.toU (TabOk.keep ⟨ps, hp, ht, hcs⟩ e1) ⟨_, _, _, _, upd_same, (hcs _ hd cv hm).keep e1.toT⟩
  | none =>
    refine PySem.W.makeFunction_K hcl I.ok.glob mgs hc (hC _ kX) hPs ht hm hP (hB _ kX) fun c' ctv doc h' tk ext hc1 hc2 hcr htab => ?_
    obtain ⟨c2, co, vs, t, e1, e2, e3, e4⟩ := hcr
    cases e1
    have hPl : P < s.heap.objs.size := Heap.lt_size hPs
    have hsz : s.heap.objs.size ≤ h'.objs.size := by omega
    have nf : H h'.objs.size = none := I.hok.fresh hsz
    have nc : H c' = none := I.hok.fresh hc1
    have ncf : c' ≠ h'.objs.size := by omega
    have nPc : P ≠ c' := Nat.ne_of_lt (Nat.lt_of_lt_of_le hPl hc1)
    have nPf : P ≠ h'.objs.size := Nat.ne_of_lt (Nat.lt_of_lt_of_le hPl hsz)
    generalize hfo : ({ cls := Value.type "function", data := Data.func (PySem.W.fnX name qual params body scope cl Value.none Value.none doc ((X.mg (Str.ofString "__name__")).getD Value.none) none (Value.ref c') ctv) } : Obj) = fo
    generalize htr : ps ++ #[rawInt (pos.line : Int), rawInt (pos.col : Int), Value.ref c'] = ps'
    rw [htr] at htab
    have hps' : ps'.toList = ps.toList ++ [rawInt (pos.line : Int), rawInt (pos.col : Int), Value.ref c'] := by rw [← htr]; simp
    have gk : ∀ b o, b ≠ P → s.heap.get? b = some o → (h'.push fo).get? b = some o := fun b o hb e => Heap.get?_push_of_some _ (ext b o hb e)
    have oP : ∀ b, b ≠ P → b ≠ c' → b ≠ h'.objs.size → (upd (upd (upd H P (.tbl ps')) c' (FZ co)) h'.objs.size (FZ fo)) b = H b := fun b n1 n2 n3 => by rw [upd_ne n3, upd_ne n2, upd_ne n1]
    have oPP : (upd (upd (upd H P (.tbl ps')) c' (FZ co)) h'.objs.size (FZ fo)) P = some (.tbl ps') := by rw [upd_ne nPf, upd_ne nPc, upd_same]
    have oc : (upd (upd (upd H P (.tbl ps')) c' (FZ co)) h'.objs.size (FZ fo)) c' = some (FZ co) := by rw [upd_ne ncf, upd_same]
    have of' : (upd (upd (upd H P (.tbl ps')) c' (FZ co)) h'.objs.size (FZ fo)) h'.objs.size = some (FZ fo) := upd_same
    generalize (upd (upd (upd H P (.tbl ps')) c' (FZ co)) h'.objs.size (FZ fo)) = H' at oP oPP oc of'
    have tr : ∀ b u, (∀ ps, u ≠ HO.tbl ps) → H b = some u → H' b = some u := fun b u nu z => by
      rw [oP b (fun w => nu ps (by rw [w, hp] at z; exact (Option.some.inj z).symm)) (ne_of_none z nc) (ne_of_none z nf)]; exact z
    have hok : HOk X.prog X.w H' (h'.push fo) := fun b u z => by
      by_cases b1 : b = h'.objs.size
      · subst b1; rw [of'] at z; cases z; exact fz_ok (Heap.get?_push_size _ (by rw [← hfo]; rfl))
      by_cases b2 : b = c'
      · subst b2; rw [oc] at z; cases z; exact fz_ok (Heap.get?_push_of_some _ e2)
      by_cases b3 : b = P
      · subst b3; rw [oPP] at z; cases z; exact Heap.get?_push_of_some _ htab
      rw [oP b b3 b2 b1] at z
      refine (I.hok b u z).stay (fun d v hd e => gk d v (fun w => ?_) e) (fun d z => tr d _ (fun _ q => nomatch q) z) fun d xs z => tr d _ (fun _ q => nomatch q) z
      rcases hd with hd | hd
      · exact b3 (hd.symm.trans w)
      · rw [w, hp] at hd; cases hd
    have un : Un X.fs [] H H' s.heap (h'.push fo) := by
      refine ⟨fun b o e n _ _ => gk b o (fun w => by rw [w, hp] at n; cases n) e, fun b o e n _ _ => ⟨o.slots, gk b o (fun w => by rw [w, hp] at n; cases n) e⟩, fun b o e n _ => ?_, fun b o e _ => ?_, fun b xs z => tr b _ (fun _ q => nomatch q) z, fun b o u z => tr b _ (fun _ q => nomatch q) z, fun b ps2 z => ?_⟩
      · rw [oP b (fun w => by rw [w, hp] at n; cases n) (Nat.ne_of_lt (Nat.lt_of_lt_of_le (Heap.lt_size e) hc1)) (Nat.ne_of_lt (Nat.lt_of_lt_of_le (Heap.lt_size e) hsz))]; exact n
      · by_cases b3 : b = P
        · subst b3; exact ⟨_, Heap.get?_push_of_some _ htab⟩
        · exact ⟨o, gk b o b3 e⟩
      · by_cases b3 : b = P
        · subst b3
          rw [hp] at z
          cases z
          exact ⟨_, by rw [oPP, ← htr]⟩
        · refine ⟨#[], ?_⟩
          rw [oP b b3 (ne_of_none z nc) (ne_of_none z nf), z]; simp
    have J : Inv X pins σ H' { s with heap := h'.push fo, toks := tk } := I.un un hok
    have sT : SameT H H' := tr
    have sU : SameU P H H' := ⟨tr, fun b u hb z => by rw [oP b hb (ne_of_none z nc) (ne_of_none z nf)]; exact z, fun _ _ => ⟨_, oPP⟩⟩
    have cf : CodeFz H' (.ref c') qual := ⟨c', co, vs, t, rfl, oc, e3, e4⟩
    have tri : TriplesOk [rawInt (pos.line : Int), rawInt (pos.col : Int), Value.ref c'] := by
      unfold rawInt
      exact trivial
    have tab : TabOk H' P ds := by
      refine ⟨ps', oPP, by rw [hps']; exact triples_app ht tri, fun d hd' cv e => ?_⟩
      rw [hps', codeAmong_app ht] at e
      cases hm' : codeAmong d.1 ps.toList with
      | some cv2 =>
        rw [hm'] at e
        cases e
        exact (hcs d hd' cv hm').keep sT
      | none =>
        rw [hm', Option.none_or] at e
        unfold rawInt at e
        rw [codeAmong] at e
        split at e
        · rename_i hh
          cases e
          have hh' : d.1.line = pos.line ∧ d.1.col = pos.col := by
            have := hh
            simp only [Bool.and_eq_true, beq_iff_eq] at this
            omega
          rw [hds d hd' hh'.1 hh'.2]
          exact cf
        · simp [codeAmong] at e
    rw [show PySem.W.fnMade name qual params body scope cl doc ((X.mg (Str.ofString "__name__")).getD Value.none) c' ctv = fo from hfo]
    exact fin J nf sU tab ⟨doc, _, ctv, .ref c', by rw [of', ← hfo], cf⟩
end L2
set_option Elab.async false
set_option linter.all false
set_option maxRecDepth 100000
set_option maxHeartbeats 2000000
namespace L2
open PySem PySem.Spec PyProof.Rows
def KLe (K K' : PySem.W.Frag) : Prop := ∀ a o, K.lookup a = some o → K'.lookup a = some o
def remX (xs : List (Addr × Obj)) (H : Hp) : Hp := fun b => if b ∈ xs.map (·.1) then none else H b
def backX (xs : List (Addr × Obj)) (H H2 : Hp) : Hp := fun b => if b ∈ xs.map (·.1) then H b else H2 b
theorem remX_in {xs : List (Addr × Obj)} {H : Hp} {b : Addr} (h : b ∈ xs.map (·.1)) : remX xs H b = none := by unfold remX; rw [if_pos h]
theorem remX_out {xs : List (Addr × Obj)} {H : Hp} {b : Addr} (h : b ∉ xs.map (·.1)) : remX xs H b = H b := by unfold remX; rw [if_neg h]
theorem backX_in {xs : List (Addr × Obj)} {H H2 : Hp} {b : Addr} (h : b ∈ xs.map (·.1)) : backX xs H H2 b = H b := by unfold backX; rw [if_pos h]
theorem backX_out {xs : List (Addr × Obj)} {H H2 : Hp} {b : Addr} (h : b ∉ xs.map (·.1)) : backX xs H H2 b = H2 b := by unfold backX; rw [if_neg h]
theorem lookup_same : ∀ {l : List (Addr × Obj)} {p : Addr × Obj}, (∀ q ∈ l, q.1 = p.1 → q.2 = p.2) → p ∈ l → l.lookup p.1 = some p.2
  | [], _, _, h => absurd h (by simp)
  | q :: l, p, hc, h => by
    rw [show q :: l = (q.1, q.2) :: l from rfl, List.lookup_cons]
    by_cases e : q.1 = p.1
    · rw [show (p.1 == q.1) = true from by simp [e]]
      rw [hc q List.mem_cons_self e]
    · rw [show (p.1 == q.1) = false from by simpa using fun z => e z.symm]
      exact lookup_same (fun r hr => hc r (List.mem_cons_of_mem _ hr)) (by
        rcases List.mem_cons.mp h with z | z
        · exact absurd (by rw [z]) e
        · exact z)
theorem mem_of_lookupA : ∀ {l : List (Addr × Obj)} {a : Addr} {o : Obj}, l.lookup a = some o → (a, o) ∈ l
  | [], _, _, h => by cases h
  | (b, u) :: l, a, o, h => by
    rw [List.lookup_cons] at h
    split at h
    · rename_i e
      cases h
      rw [show a = b from by simpa using e]
      exact List.mem_cons_self
    · exact List.mem_cons_of_mem _ (mem_of_lookupA h)
theorem funFrames_base {h base base' : Heap} : ∀ {l : List Env}, h.FunFrames base l → (∀ b ∈ frs l, base'.get? b = none) → h.FunFrames base' l
  | [], _, _ => trivial
  | env :: r, ⟨hk, ⟨L, o, hf, hn, ho, hd⟩, hr⟩, g => by
    have e : frs (env :: r) = L :: frs r := by unfold frs; rw [List.filterMap_cons, hf]
    rw [e] at g
    exact ⟨hk, ⟨L, o, hf, g L List.mem_cons_self, ho, hd⟩, funFrames_base hr fun b hb => g b (List.mem_cons_of_mem _ hb)⟩
section
variable {X : Cx} {k : Nat} {f : Addr} {fd : FuncData} {ps : List Str} {sp : Sp}
theorem run_fnG {pins : List (Addr × Obj)} {σ : St} {H : Hp} {s : Shared} {Q : VK} {us : List Value} {vs : List V} (xs cs : List (Addr × Obj)) (I : Inv X pins σ H s) (hxs : ∀ p ∈ xs, H p.1 = some (FZ p.2))
    (hcs : ∀ p ∈ cs, s.heap.get? p.1 = some p.2 ∧ H p.1 = none ∧ p.1 ∉ frs X.stack) (F : ∀ base, FnOk X.prog X.w (X.K ++ (xs ++ cs)) X.mg base CX0 k f fd ps sp) (hr : Room k X.A) (hb : Binds X.K fd ps [])
    (r : Vals vs us) (h : sp vs (remX xs H) (fun v H2 => (∀ p ∈ xs, H2 p.1 = none) → Q v (backX xs H H2)) E0) : wpAny (model X.prog X.w) X.A (call (.ref f) us) (EP X pins σ Q) X.xe s := by
  have hx1 : ∀ p ∈ xs, s.heap.get? p.1 = some p.2 := fun p hp => (I.hok _ _ (hxs p hp)).1
  have good2 : ∀ p ∈ xs ++ cs, s.heap.get? p.1 = some p.2 := fun p hp => (List.mem_append.mp hp).elim (hx1 p) fun z => (hcs p z).1
  let good : Addr → Prop := fun b => (X.base.get? b).isSome = true ∨ b ∈ (xs ++ cs).map (·.1)
  have hdec : ∀ b, Decidable (good b) := fun b => by dsimp only [good]; infer_instance
  let hid : List Addr := (List.range s.heap.objs.size).filter fun b => !(decide ((X.base.get? b).isSome = true) || decide (b ∈ (xs ++ cs).map (·.1)))
  have notin : ∀ b, good b → b ∉ hid := fun b g hm => by
    have q := (List.mem_filter.mp hm).2
    rcases g with g | g
    · simp [g] at q
    · rw [decide_eq_true g] at q; simp at q
  have isin : ∀ b, ¬ good b → b < s.heap.objs.size → b ∈ hid := fun b g hl => by
    refine List.mem_filter.mpr ⟨List.mem_range.mpr hl, ?_⟩
    rw [decide_eq_false (fun z => g (.inl z)), decide_eq_false (fun z => g (.inr z))]; rfl
  let base' : Heap := PySem.W.hideAll s.heap hid
  have gget : ∀ b o, s.heap.get? b = some o → good b → base'.get? b = some o := fun b o e g => PySem.W.hideAll_get _ e (notin b g)
  have gof : ∀ b o, base'.get? b = some o → s.heap.get? b = some o ∧ good b := fun b o e => by
    have e' : s.heap.get? b = some o := PySem.W.of_hideAll hid e
    refine ⟨e', ?_⟩
    by_cases g : good b
    · exact g
    · have z : base'.get? b = none := PySem.W.hideAll_none hid (isin b g (Heap.lt_size e'))
      rw [z] at e; cases e
  have gb : ∀ b o, X.base.get? b = some o → base'.get? b = some o := fun b o e => gget b o (I.bk b o e) (.inl (by rw [e]; rfl))
  have goodH : ∀ b, good b → remX xs H b = none := fun b g => by
    rcases g with g | g
    · obtain ⟨o, e⟩ := Option.isSome_iff_exists.mp g
      by_cases z : b ∈ xs.map (·.1)
      · exact remX_in z
      · rw [remX_out z]; exact (I.bs b o e).2
    · rw [List.map_append] at g
      rcases List.mem_append.mp g with g | g
      · exact remX_in g
      · by_cases z : b ∈ xs.map (·.1)
        · exact remX_in z
        · rw [remX_out z]
          obtain ⟨p, hp, rfl⟩ := List.mem_map.mp g
          exact (hcs p hp).2.1
  have kin' : PySem.W.Frag.In (X.K ++ (xs ++ cs)) base' := fun a o e => by
    have e : List.lookup a (X.K ++ (xs ++ cs)) = some o := e
    rw [List.lookup_append] at e
    cases z : List.lookup a X.K with
    | some o' =>
      rw [z] at e
      cases e
      exact gb a o (I.ok.mod.kin a o z)
    | none =>
      rw [z, Option.none_or] at e
      have hm : (a, o) ∈ xs ++ cs := mem_of_lookupA e
      exact gget a o (good2 _ hm) (.inr (List.mem_map.mpr ⟨_, hm, rfl⟩))
  have nsB : ∀ {b : Addr} {m : Str → Option Value}, X.base.Ns b m → base'.Ns b m := fun {b m} ⟨o, es, ep, e, d, r⟩ => ⟨o, es, ep, gb b o e, d, r⟩
  have xfree : ∀ b, b ∈ xs.map (·.1) → ∃ o, H b = some (FZ o) ∧ s.heap.get? b = some o := fun b z => by
    obtain ⟨p, hp, rfl⟩ := List.mem_map.mp z
    exact ⟨p.2, hxs p hp, hx1 p hp⟩
  have frames : ∀ b ∈ frs X.stack, base'.get? b = none := fun b hb => by
    cases z : base'.get? b with
    | none => rfl
    | some o =>
      obtain ⟨e, g⟩ := gof b o z
      rcases g with g | g
      · have := (I.stack.mem hb).1
        rw [this] at g; simp at g
      · rw [List.map_append] at g
        rcases List.mem_append.mp g with g | g
        · obtain ⟨o', e', _⟩ := xfree b g
          rw [I.stkFree b hb] at e'; cases e'
        · obtain ⟨p, hp, rfl⟩ := List.mem_map.mp g
          exact absurd hb (hcs p hp).2.2
  have e0 : Env0 X.prog X.w (X.K ++ (xs ++ cs)) X.mg base' X.A X.stack s (remX xs H) := by
    refine ⟨I.ok.frames, ⟨kin', nsB I.ok.mod.glob, ?_, ?_⟩, fun b o e => ⟨(gof b o e).1, goodH b (gof b o e).2⟩, Nat.le_of_eq (PySem.W.hideAll_size _ _), funFrames_base I.stack frames, fun b hb => ?_, fun a o z => ?_, I.bare⟩
    · obtain ⟨mb, h1, h2⟩ := I.ok.mod.blt
      exact ⟨mb, nsB h1, h2⟩
    · obtain ⟨mc, h1, h2⟩ := I.ok.mod.nolimit
      exact ⟨mc, nsB h1, h2⟩
    · by_cases z : b ∈ xs.map (·.1)
      · exact remX_in z
      · rw [remX_out z]; exact I.stkFree b hb
    · by_cases y : a ∈ xs.map (·.1)
      · rw [remX_in y] at z; cases z
      · rw [remX_out y] at z
        refine (I.hok a o z).stay (fun b u _ e => e) (fun b q => ?_) fun b ys q => ?_
        · rw [remX_out fun y => by obtain ⟨o', e', _⟩ := xfree b y; rw [q] at e'; cases e']; exact q
        · rw [remX_out fun y => by obtain ⟨o', e', _⟩ := xfree b y; rw [q] at e'; cases e']; exact q
  have hl : us.length = ps.length := by rw [← r.length]; exact (F base').len _ _ _ _ h
  have hbd : BindsTo s fd ⟨us, []⟩ (ps.zip us) := by
    have := hb s us I.kIn (by rw [List.append_nil]; exact hl)
    rw [List.append_nil] at this
    exact this
  refine wpAny_call (codeAny_mono ((F base').run X.A X.stack s (remX xs H) ⟨us, []⟩ us vs _ E0 hr e0 hbd r h) fun rr s' hq => ?_)
  cases rr with
  | error e => exact False.elim hq
  | ok fl =>
    cases fl with
    | next => exact False.elim hq
    | brk => exact False.elim hq
    | cont => exact False.elim hq
    | ret u =>
      obtain ⟨v, H2, os, bare, un, hok2, rv, q⟩ := hq
      have none2 : ∀ b, b ∈ xs.map (·.1) → H2 b = none := fun b z => by
        obtain ⟨o, _, e⟩ := xfree b z
        exact un.free b o e (remX_in z) (by simp)
      have outX : ∀ {b : Addr} {u : HO}, H b = some u → (∀ o, u ≠ FZ o) → b ∉ xs.map (·.1) := fun {b u} e n z => by
        obtain ⟨o, e', _⟩ := xfree b z
        rw [e] at e'
        cases e'
        exact n o rfl
      refine ⟨v, backX xs H H2, I.call' (ch := []) os ⟨fun b o e n hb hx => un.keep b o e ?_ hb hx, fun b o e n hb hx => un.slot b o e ?_ hb hx, fun b o e n hx => ?_, un.there, fun b ys e => ?_, fun b o u e => ?_, fun b ys e => ?_⟩ (fun a o z => ?_) bare (fun b z => absurd z (by simp)), rv, q fun p hp => none2 p.1 (List.mem_map.mpr ⟨p, hp, rfl⟩)⟩
      · by_cases z : b ∈ xs.map (·.1)
        · exact remX_in z
        · rw [remX_out z]; exact n
      · by_cases z : b ∈ xs.map (·.1)
        · exact remX_in z
        · rw [remX_out z]; exact n
      · by_cases z : b ∈ xs.map (·.1)
        · rw [backX_in z]; exact n
        · rw [backX_out z]; exact un.free b o e (by rw [remX_out z]; exact n) hx
      · have z := outX e (fun _ q => nomatch q)
        rw [backX_out z]; exact un.tups b ys (by rw [remX_out z]; exact e)
      · by_cases z : b ∈ xs.map (·.1)
        · rw [backX_in z]; exact e
        · rw [backX_out z]; exact un.frzs b o u (by rw [remX_out z]; exact e)
      · have z := outX e (fun _ q => nomatch q)
        rw [backX_out z]; exact un.tbls b ys (by rw [remX_out z]; exact e)
      · by_cases y : a ∈ xs.map (·.1)
        · rw [backX_in y] at z
          obtain ⟨o', e', g⟩ := xfree a y
          rw [z] at e'
          cases e'
          exact fz_ok (un.keep a o' g (remX_in y) (fun hb => by rw [I.stkFree a hb] at z; cases z) (by simp))
        · rw [backX_out y] at z
          refine (hok2 a o z).stay (fun b u _ e => e) (fun b q => ?_) fun b ys q => ?_
          · rw [backX_out fun y => by rw [none2 b y] at q; cases q]; exact q
          · rw [backX_out fun y => by rw [none2 b y] at q; cases q]; exact q
theorem same_back {xs : List (Addr × Obj)} {H H2 : Hp} (h : Same (remX xs H) H2) : Same H (backX xs H H2) := fun b o e => by
  by_cases z : b ∈ xs.map (·.1)
  · rw [backX_in z]; exact e
  · rw [backX_out z]; exact h b o (by rw [remX_out z]; exact e)
def CellsAt (X : Cx) (σ : St) (ix : List Nat) (cs : List (Addr × Obj)) : Prop :=
  Paired (fun (i : Nat) (p : Addr × Obj) => ∃ x v u, X.N[i]? = some x ∧ σ[i]? = some (some v) ∧ X.env.cells.lookup x = some p.1 ∧ p.2.data = .cell (some u) ∧ RelV v u) ix cs
def tCallG (X : Cx) (k : Nat) (f : Addr) (fd : FuncData) (ps : List Str) (ix : List Nat) (t : TA) : TE := fun σ H Q => t σ H fun vs H1 => (∀ i ∈ ix, ∃ v, σ[i]? = some (some v)) ∧ ∃ xs : List (Addr × Obj), (∀ p ∈ xs, H1 p.1 = some (FZ p.2)) ∧
  ∀ (K' : PySem.W.Frag) (cs : List (Addr × Obj)), X.Ok → KLe X.K K' → (∀ a o, K'.lookup a = some o → X.K.lookup a = some o ∨ (a, o) ∈ xs ++ cs) → (∀ p ∈ xs ++ cs, K'.lookup p.1 = some p.2) → CellsAt X σ ix cs →
    ∃ sp : Sp, (∀ base, FnOk X.prog X.w K' X.mg base CX0 k f fd ps sp) ∧ sp vs (remX xs H1) (fun v H2 => (∀ p ∈ xs, H2 p.1 = none) → Q v (backX xs H1 H2)) E0
theorem Inv.cellsAt {pins : List (Addr × Obj)} {σ : St} {H : Hp} {s : Shared} (I : Inv X pins σ H s) : ∀ (ix : List Nat), (∀ i ∈ ix, ∃ x, X.N[i]? = some x ∧ X.env.scope.names.lookup x = some .cell ∧ X.fn x = true) → (∀ i ∈ ix, ∃ v, σ[i]? = some (some v)) →
    ∃ cs, CellsAt X σ ix cs ∧ ∀ p ∈ cs, s.heap.get? p.1 = some p.2 ∧ H p.1 = none ∧ p.1 ∉ frs X.stack ∧ X.K.lookup p.1 = none
  | [], _, _ => ⟨[], .nil, fun _ h => absurd h (by simp)⟩
  | i :: ix, h1, h2 => by
    obtain ⟨cs, g1, g2⟩ := I.cellsAt ix (fun j hj => h1 j (List.mem_cons_of_mem _ hj)) fun j hj => h2 j (List.mem_cons_of_mem _ hj)
    obtain ⟨x, e1, e2, e3⟩ := h1 i List.mem_cons_self
    obtain ⟨v, e4⟩ := h2 i List.mem_cons_self
    obtain ⟨m, _, hm⟩ := I.loc
    obtain ⟨u, rv, lk⟩ := hm i x v e1 e4 (.inr (.inl e2))
    rcases lk with ⟨lk, _⟩ | ⟨_, c, lk, o, ho, hd⟩
    · have lk' : X.env.scope.names.lookup x = some .local := lk
      rw [e2] at lk'; cases lk'
    · have hc := I.ok.cab x c e3 lk
      refine ⟨(c, o) :: cs, .cons ⟨x, v, u, e1, e4, lk, hd, rv⟩ g1, fun p hp => ?_⟩
      rcases List.mem_cons.mp hp with rfl | hp
      · refine ⟨ho, I.freeC x c lk, fun hb => ?_, ?_⟩
        · rcases List.mem_cons.mp (I.stkSub _ hb) with z | z
          · exact I.cne x c lk z
          · obtain ⟨_, o', ho', _⟩ := I.ok.funs.mem z
            exact absurd (Heap.lt_size ho') (Nat.not_lt.mpr hc)
        · cases z : X.K.lookup c with
          | none => rfl
          | some o' => exact absurd (Heap.lt_size (I.ok.bs c o' (I.ok.mod.kin c o' z)).1) (Nat.not_lt.mpr hc)
      · exact g2 p hp
theorem pe_callG {x : Str} {p pos : Pos} {e : Expr} {es : List Expr} {t : TA} {ix : List Nat} (hr : Room k X.A) (hg : Gl X x) (hm : X.mg x = some (.ref f)) (hk : PySem.W.keepIn X.K (.ref f) = true) (hb : Binds X.K fd ps [])
    (hix : ∀ i ∈ ix, ∃ x, X.N[i]? = some x ∧ X.env.scope.names.lookup x = some .cell ∧ X.fn x = true)
    (ha : PA X (e :: es) t) (hdb : (x == ("__debug__" : Str)) = false := by decide) (he : starEach (e :: es) X.env = (false, eval e X.env) :: starEach es X.env := by rfl) (hpl : (backTo pos (starEach es X.env)).any (·.1) = false := by rfl) :
    PE X (.Call (.Name x p) (e :: es) [] pos) (tCallG X k f fd ps ix t) := by
  intro pins s σ H Q I h
  refine wpAny_Call_Name_kw (ld_glob I hg hm ?_ hdb)
  refine PySem.W.callWith_K (h₀ := X.base) I.ok.mod.kin hk (thn (ha pos pins s σ H _ I h) fun us s1 ⟨vs, H1, I1, r, hσ, xs, hxs, q⟩ => ⟨I1.kIn, ?_⟩) he hpl
  obtain ⟨cs, g1, g2⟩ := I1.cellsAt ix hix hσ
  have hx1 : ∀ p ∈ xs, s1.heap.get? p.1 = some p.2 := fun p hp => (I1.hok _ _ (hxs p hp)).1
  have good2 : ∀ p ∈ xs ++ cs, s1.heap.get? p.1 = some p.2 := fun p hp => (List.mem_append.mp hp).elim (hx1 p) fun z => (g2 p z).1
  obtain ⟨sp, F, hs⟩ := q (X.K ++ (xs ++ cs)) cs I1.ok (fun a o z => by
      show List.lookup a (X.K ++ (xs ++ cs)) = some o
      rw [List.lookup_append, show List.lookup a X.K = some o from z]; rfl) (fun a o z => by
      have z : List.lookup a (X.K ++ (xs ++ cs)) = some o := z
      rw [List.lookup_append] at z
      cases y : List.lookup a X.K with
      | some o' =>
        rw [y] at z
        cases z
        exact .inl rfl
      | none =>
        rw [y, Option.none_or] at z
        exact .inr (mem_of_lookupA z)) (fun p hp => by
      have kn : X.K.lookup p.1 = none := by
        rcases List.mem_append.mp hp with z | z
        · cases y : X.K.lookup p.1 with
          | none => rfl
          | some o =>
            have := (I1.bs p.1 o (I1.ok.mod.kin _ _ y)).2
            rw [hxs p z] at this; cases this
        · exact (g2 p z).2.2.2
      show List.lookup p.1 (X.K ++ (xs ++ cs)) = some p.2
      rw [List.lookup_append, show List.lookup p.1 X.K = none from kn, Option.none_or]
      exact lookup_same (fun q hq e => by
        have h1 := good2 q hq
        rw [e, good2 p hp] at h1
        exact (Option.some.inj h1).symm) hp) g1
  exact run_fnG xs cs I1 hxs (fun p hp => ⟨(g2 p hp).1, (g2 p hp).2.1, (g2 p hp).2.2.1⟩) F hr hb r hs
end
end L2
set_option Elab.async false
set_option linter.all false
set_option maxRecDepth 100000
set_option maxHeartbeats 2000000
namespace L2
open PySem PySem.Spec PyProof.Rows
theorem lookup_outA : ∀ {l : List (Addr × Obj)} {a : Addr}, a ∉ l.map (·.1) → l.lookup a = none
  | [], _, _ => rfl
  | (b, u) :: l, a, h => by
    have hb : a ≠ b := fun z => h (by rw [z]; exact List.mem_cons_self)
    rw [List.lookup_cons, show (a == b) = false from by simpa using hb]
    exact lookup_outA fun z => h (List.mem_cons_of_mem _ z)
theorem law_callT {P : Program} {w : World} {K : PySem.W.Frag} {mg mb : Str → Option Value} {CX : CXT} {k : Nat} {fa a : Addr} {fd : FuncData} {x : Str} {sp : Sp} {s₁ : Shared} {vs : List Value} {ns : List Int} {ts : List Addr}
    (KX : K.In s₁.heap) (hns : s₁.heap.Ns mainGlobals mg) (hb : s₁.heap.Ns builtinsNs mb) (hbb : ∀ x : Str, x ≠ "__name__" → mb x = bootBuiltins x) (hlim : s₁.heap.NoLimit) (hg : s₁.gens = #[])
    (ha : s₁.heap.get? a = some { cls := .type "list", data := .seq vs.toArray }) (hi : IntsAre vs ns) (hl : ns.length ≤ sizeLine) (hr : Room k callerA)
    (hT : ∀ p ∈ ts, s₁.heap.get? p = some (PySem.W.tabObj #[])) (hTK : ∀ p ∈ ts, K.lookup p = none) (hTc : ∀ p ∈ ts, isCodeTable s₁.heap p)
    (F : ∀ base : Heap, K.In base → base.Ns mainGlobals mg → FnOk P w K mg base CX k fa fd [x] sp) (hbind : ∀ (s : Shared) (u : Value), BindsTo s fd ⟨[u], []⟩ [(x, u)])
    (hsp : ∀ H : Hp, (∀ p ∈ ts, H p = some (.tbl #[])) → SqL K H a (ns.map V.int) → sp [.ref a] H (fun v _ => v = .bl true) fun _ _ _ => False)
    (hCX : ∀ H e s', CX [] H s₁ (fun _ _ _ => False) e s' → False) :
    codeAny (model P w) callerA (.call (.ref fa) ⟨[.ref a], []⟩) (fun r s' => r = .ok (.ret (.bool true)) ∧ OldK s₁.heap s'.heap ∧ s'.os = s₁.os ∧ AllBare s'.gens) s₁ := by
  have rv := vals_ints hi
  have lenV := hi.length
  have core : ∀ H : Hp, (∀ b u, H b = some u → (b = a ∧ K.lookup a = none ∧ ∃ xs, u = .frz { cls := .type "list", data := .seq vs.toArray } (.lst xs)) ∨ (b ∈ ts ∧ u = .tbl #[])) → (∀ p ∈ ts, H p = some (.tbl #[])) → SqL K H a (ns.map V.int) → HOk P w H s₁.heap →
      codeAny (model P w) callerA (.call (.ref fa) ⟨[.ref a], []⟩) (fun r s' => r = .ok (.ret (.bool true)) ∧ OldK s₁.heap s'.heap ∧ s'.os = s₁.os ∧ AllBare s'.gens) s₁ := by
    intro H hA hTb hS hok
    have base_of : ∀ {b : Addr} {o : Obj}, s₁.heap.get? b = some o → H b = none → (hidT s₁.heap H).get? b = some o := fun e n => hidT_get e n
    have noA : ∀ {b : Addr} {o : Obj} {es : Array DictEntry} {ep : Nat}, s₁.heap.get? b = some o → o.data = .dict es ep → H b = none := fun {b o es ep} e d => by
      cases q : H b with
      | none => rfl
      | some u =>
        rcases hA b u q with ⟨rfl, _⟩ | ⟨hb, _⟩
        · rw [ha] at e; cases e
          have d' : Data.seq vs.toArray _ = Data.dict es ep := d
          cases d'
        · rw [hT b hb] at e; cases e
          have d' : Data.fields #[] = Data.dict es ep := d
          cases d'
    have nsK : ∀ {b : Addr} {m : Str → Option Value}, s₁.heap.Ns b m → (hidT s₁.heap H).Ns b m := fun {b m} ⟨o, es, ep, e, d, r⟩ => ⟨o, es, ep, base_of e (noA e d), d, r⟩
    have hKb : K.In (hidT s₁.heap H) := fun b o e => base_of (KX b o e) (by
      cases q : H b with
      | none => rfl
      | some u =>
        rcases hA b u q with ⟨rfl, hk, _⟩ | ⟨hb, _⟩
        · rw [hk] at e; cases e
        · rw [hTK b hb] at e; cases e)
    have hM : Mod K mg (hidT s₁.heap H) := ⟨hKb, nsK hns, ⟨mb, nsK hb, hbb⟩, let ⟨mc, h1, h2⟩ := hlim; ⟨mc, nsK h1, h2⟩⟩
    have e0 : Env0 P w K mg (hidT s₁.heap H) callerA [] s₁ H := ⟨rfl, hM, fun b o e => of_hidT e, Nat.le_of_eq (hidT_size _ _), trivial, fun b hb => absurd (show b ∈ ([] : List Addr) from hb) (by simp), hok, .of_eq hg⟩
    refine codeAny_mono ((F _ hKb (nsK hns)).run callerA [] s₁ H ⟨[.ref a], []⟩ [.ref a] [.ref a] _ _ hr e0 (hbind s₁ (.ref a)) (.cons rfl .nil) (hsp H hTb hS)) fun r s' h => ?_
    cases r with
    | error e => exact (hCX H e s' h).elim
    | ok fl =>
      cases fl with
      | next => exact False.elim h
      | brk => exact False.elim h
      | cont => exact False.elim h
      | ret u =>
        obtain ⟨v, H', os, bare, un, hok', r', q⟩ := h
        have q' : v = .bl true := q
        subst q'
        obtain rfl : u = Value.bool true := r'
        refine ⟨rfl, ⟨fun b o e => ?_, fun b o e => un.there b o e (by simp)⟩, os, bare⟩
        cases q : H b with
        | none => exact .inl (un.keep b o e q (by intro z; exact absurd (show b ∈ ([] : List Addr) from z) (by simp)) (by simp))
        | some u =>
          rcases hA b u q with ⟨rfl, _, xs, rfl⟩ | ⟨hb, rfl⟩
          · have z2 := un.frzs b _ _ q
            obtain ⟨e1, _⟩ := hok b _ q
            obtain ⟨e2, _⟩ := hok' b _ z2
            rw [e] at e1; cases e1
            exact .inl e2
          · obtain ⟨more, z2⟩ := un.tbls b _ q
            have e2 := hok' b _ z2
            rw [hT b hb] at e
            cases e
            exact .inr (.inl ⟨hTc b hb, rfl, #[], more, rfl, e2⟩)
  have naT : a ∉ ts := fun z => by
    have := hT a z
    rw [ha] at this
    have h2 := congrArg Obj.cls (Option.some.inj this)
    cases h2
  cases hk : K.lookup a with
  | some o =>
    have e := KX a o hk
    rw [ha] at e
    cases e
    refine core (fun b => if b ∈ ts then some (.tbl #[]) else none) (fun b u z => ?_) (fun p hp => if_pos hp) (.inr ⟨_, vs.toArray, _, hk, rfl, rfl, rfl, by rw [List.size_toArray, lenV]; exact hl, by simpa using rv⟩) (fun b u z => ?_)
    · by_cases hb : b ∈ ts
      · have z' := (if_pos hb).symm.trans z
        cases z'
        exact .inr ⟨hb, rfl⟩
      · have z' := (if_neg hb).symm.trans z
        cases z'
    · by_cases hb : b ∈ ts
      · have z' := (if_pos hb).symm.trans z
        cases z'
        exact hT b hb
      · have z' := (if_neg hb).symm.trans z
        cases z'
  | none =>
    refine core (fun b => if b ∈ ts then some (.tbl #[]) else if b = a then some (.frz { cls := .type "list", data := .seq vs.toArray } (.lst (ns.map V.int))) else none) (fun b u z => ?_) (fun p hp => if_pos hp) (.inl (.inr ⟨{ cls := .type "list", data := .seq vs.toArray }, (if_neg naT).trans (if_pos rfl)⟩)) (fun b u z => ?_)
    · by_cases hb : b ∈ ts
      · have z' := (if_pos hb).symm.trans z
        cases z'
        exact .inr ⟨hb, rfl⟩
      · have z' := (if_neg hb).symm.trans z
        by_cases hba : b = a
        · rw [if_pos hba] at z'
          cases z'
          exact .inl ⟨hba, hk, _, rfl⟩
        · rw [if_neg hba] at z'
          cases z'
    · by_cases hb : b ∈ ts
      · have z' := (if_pos hb).symm.trans z
        cases z'
        exact hT b hb
      · have z' := (if_neg hb).symm.trans z
        by_cases hba : b = a
        · rw [if_pos hba] at z'
          cases z'
          subst hba
          exact ⟨ha, by rw [List.length_map]; exact hl, vs, _, rv, ha⟩
        · rw [if_neg hba] at z'
          cases z'
structure BltK (K : PySem.W.Frag) (mg : Str → Option Value) (bm : Addr) : Prop where
  m : mg (Str.ofString "__builtins__") = some (.ref bm)
  l : ∃ ob, K.lookup bm = some ob ∧ ob.cls = .type "module" ∧ ob.dict = some builtinsNs ∧ ob.data = .plain
  n1 : bm ≠ builtinsNs
  n2 : bm ≠ mainGlobals
theorem BltK.at {K : PySem.W.Frag} {mg : Str → Option Value} {bm : Addr} (b : BltK K mg bm) {T : Addr} (n : bm ≠ T) (h : Heap) (k : K.In h) : h.BuiltinsAt mg T := by
  obtain ⟨ob, l, c, d, e⟩ := b.l
  exact ⟨bm, ob, b.m, b.n1, b.n2, n, k _ _ l, c, d, e⟩
theorem walk_ofT {l : PySem.W.OpenLaw} {n k : Nat} {q : Program} {loose : List Str} {XP : (Str → Option Value) → Heap → Prop} {d : DefRec} {K : Params → PySem.W.Frag} {as ts : List Addr} {ee : ∀ (P : Params), as = List.map (fun x => x.fst) (K P)} {CX : CXT} {sp : PySem.W.Frag → Sp} {x : Str}
    (hn : l.most = some n) (hn2 : n ≤ sizeLine) (hdf : d.params.defaults = []) (hr : Room k callerA) (hts : ∀ p ∈ ts, p ∉ as)
    (hct : ∀ (w : World) (h : Heap), (K w.params).In h → ∀ p ∈ ts, isCodeTable h p)
    (F : ∀ (w : World) (mg : Str → Option Value) (fa : Addr) (h : Heap) (K' : PySem.W.Frag) (bm : Addr), (K w.params).In h → h.Ns mainGlobals mg → mg d.name = some (.ref fa) → (∀ a o, (K w.params).lookup a = some o → K'.lookup a = some o) → BltK K' mg bm → (∀ p ∈ ts, bm ≠ p) →
      ∃ fd : FuncData, (∀ (s : Shared) (u : Value), BindsTo s fd ⟨[u], []⟩ [(x, u)]) ∧
        ∀ base : Heap, K'.In base → base.Ns mainGlobals mg → FnOk l.prog w K' mg base CX k fa fd [x] (sp K'))
    (hsp : ∀ (K : PySem.W.Frag) (H : Hp) (a : Addr) (ns : List Int), ns.length ≤ n → (∀ p ∈ ts, H p = some (.tbl #[])) → SqL K H a (ns.map V.int) → sp K [.ref a] H (fun v _ => v = .bl true) fun _ _ _ => False)
    (hCX : ∀ (H : Hp) (s : Shared) (e : Value) (s' : Shared), CX [] H s (fun _ _ _ => False) e s' → False) :
    PySem.W.WalkO q loose XP (PySem.W.kmHook K as ee ts).says l.row.toRowW d [] (fun f vs => PySem.call f vs) := by
  refine Att.attach_call hn hdf fun w s₀ s₁ mg mb fa o pm cd doc a vs ns G Y ho hd hcd hmg hobj hints hlen hg => ?_
  have KX : (K w.params).In s₁.heap := PySem.W.km_in_of Y
  have TX := PySem.W.km_tabs_of Y
  obtain ⟨bm, ob, b1, b2, b3, b4, b5, b6⟩ := G.T.bmain
  have KX' : PySem.W.Frag.In (K w.params ++ [(bm, ob)]) s₁.heap := fun b u e => by
    have e : List.lookup b (K w.params ++ [(bm, ob)]) = some u := e
    rw [List.lookup_append] at e
    cases z : List.lookup b (K w.params) with
    | some u' =>
      rw [z] at e
      cases e
      exact KX b u z
    | none =>
      rw [z, Option.none_or] at e
      have hm := mem_of_lookupA e
      rcases List.mem_singleton.mp hm with h
      cases h
      exact b3
  have lb : List.lookup bm (K w.params ++ [(bm, ob)]) = some ob := by
    rw [List.lookup_append]
    cases z : List.lookup bm (K w.params) with
    | some u' =>
      have := KX bm u' z
      rw [b3] at this
      cases this
      rfl
    | none => simp
  have nT : ∀ p ∈ ts, bm ≠ p := fun p hp z => by
    have := TX p hp
    rw [← z, b3] at this
    cases this
    cases b4
  have nM : bm ≠ mainGlobals := fun z => by
    obtain ⟨o', es, ep, e, d', _⟩ := G.T.g
    rw [← z, b3] at e
    cases e
    rw [b6] at d'
    cases d'
  obtain ⟨fd, hb, hF⟩ := F w mg fa _ (K w.params ++ [(bm, ob)]) bm KX G.T.g hmg (fun b u e => by
    show List.lookup b (K w.params ++ [(bm, ob)]) = some u
    rw [List.lookup_append, show List.lookup b (K w.params) = some u from e]; rfl) ⟨b1, ⟨ob, lb, b4, b5, b6⟩, b2, nM⟩ nT
  exact law_callT KX' G.T.g G.T.b G.T.builtins G.T.nolimit hg hobj hints (Nat.le_trans hlen hn2) hr TX (fun p hp => by
    show List.lookup p (K w.params ++ [(bm, ob)]) = none
    rw [List.lookup_append, show List.lookup p (K w.params) = none from lookup_outA (by rw [← ee w.params]; exact hts p hp), Option.none_or]
    exact lookup_outA (by
      intro z
      have : p = bm := by simpa using z
      exact nT p hp this.symm)) (hct w _ KX) hF hb (fun H hO hS => hsp _ H a ns hlen hO hS) fun H e s' => hCX H s₁ e s'
end L2
set_option Elab.async false
set_option linter.all false
set_option maxRecDepth 100000
set_option maxHeartbeats 2000000
namespace Ken
open PySem L2
theorem pre_drop : ∀ (t : Tm) (j : Nat), j < t.pre.length → ∃ s rest, t.pre[j]? = some s ∧ t.pre.drop j = s.pre ++ rest ∧ s.parts ≤ t.parts
  | .low, j, h => by
    have : j = 0 := by have h' : j < 1 := h; omega
    subst this
    exact ⟨.low, [], rfl, rfl, Nat.le_refl _⟩
  | .ltr w, j, h => by
    have : j = 0 := by have h' : j < 1 := h; omega
    subst this
    exact ⟨.ltr w, [], rfl, rfl, Nat.le_refl _⟩
  | .nd k a b, 0, h => ⟨.nd k a b, [], rfl, by rw [List.append_nil]; rfl, Nat.le_refl _⟩
  | .nd k a b, j + 1, h => by
    have e1 : (Tm.nd k a b).pre = .nd k a b :: (a.pre ++ b.pre) := rfl
    have e2 : (Tm.nd k a b).parts = 1 + a.parts + b.parts := rfl
    rw [e1] at h ⊢
    rw [List.length_cons, List.length_append] at h
    rw [List.getElem?_cons_succ, List.drop_succ_cons, e2]
    by_cases hj : j < a.pre.length
    · obtain ⟨s, rest, h1, h2, h3⟩ := pre_drop a j hj
      refine ⟨s, rest ++ b.pre, by rw [List.getElem?_append_left hj]; exact h1, ?_, by omega⟩
      rw [List.drop_append_of_le_length (Nat.le_of_lt hj), h2, List.append_assoc]
    · obtain ⟨s, rest, h1, h2, h3⟩ := pre_drop b (j - a.pre.length) (by omega)
      refine ⟨s, rest, by rw [List.getElem?_append_right (by omega)]; exact h1, ?_, by omega⟩
      rw [List.drop_append, List.drop_of_length_le (by omega), List.nil_append]; exact h2
theorem pre_head (t : Tm) : ∃ l, t.pre = t :: l := ⟨_, t.pre_eq⟩
theorem forest_head {fs : List Tm} {a : Tm} {rest : List Tm} (h : fs.flatMap Tm.pre = a.pre ++ rest) : ∃ fs', fs = a :: fs' ∧ fs'.flatMap Tm.pre = rest := by
  cases fs with
  | nil =>
    obtain ⟨l, e⟩ := pre_head a
    rw [e] at h; cases h
  | cons f fs =>
    obtain ⟨l, e⟩ := pre_head f
    obtain ⟨m, e'⟩ := pre_head a
    have h' := h
    rw [List.flatMap_cons, e, e'] at h'
    have ef : f = a := (List.cons.inj h').1
    subst ef
    rw [List.flatMap_cons] at h
    exact ⟨fs, rfl, List.append_cancel_left h⟩
theorem forest_nil {fs : List Tm} (h : fs.flatMap Tm.pre = []) : fs = [] := by
  cases fs with
  | nil => rfl
  | cons f fs =>
    obtain ⟨l, e⟩ := pre_head f
    rw [List.flatMap_cons, e] at h; cases h
end Ken
set_option Elab.async false
set_option linter.all false
set_option maxRecDepth 100000
set_option maxHeartbeats 2000000
namespace L2
open PySem PySem.Spec PyProof.Rows
def posOf (s : Stmt) : Pos := match s with
  | .FunctionDef _ _ _ _ _ _ _ _ _ p => p
  | _ => ⟨0, 0, 0, 0⟩
def inDef (s : Stmt) (j : Nat) : Stmt := (defBody s).getD j (.Pass ⟨0, 0, 0, 0⟩)
theorem ps_defS {X : Cx} {i : Nat} {name qual : Str} {st : Stmt} {cl : List (Str × Addr)} {c P : Addr} {ds : List (Pos × Str)}
    (hst : st = .FunctionDef name (defArgs st) (defBody st) [] none [] (defScope st) none name (posOf st))
    (hN : X.N.Nodup) (hi : X.N[i]? = some name) (hx : Loc X.env.scope name) (hcl : closureFor (defScope st) X.env = pure cl) (hc : X.env.code = .ref c) (hC : ∀ h, X.K.In h → PySem.W.CodeHd h c P) (hB : ∀ h, X.K.In h → h.BuiltinsAt X.mg P) (hP : mainGlobals ≠ P)
    (hq : qualnameIn X.env name name = qual) (hd : (posOf st, qual) ∈ ds) (hds : ∀ d ∈ ds, d.1.line = (posOf st).line → d.1.col = (posOf st).col → d.2 = qual)
    (h1 : (defArgs st).defaults = []) (h2 : (defArgs st).kw_defaults = []) (h3 : annTrees (defArgs st) none X.env = [])
    (hf : X.fn name = true ∨ X.env.scope.names.lookup name = some .local := by first | exact .inl rfl | exact .inr rfl | assumption) :
    PS X st (tDef i name qual (defArgs st) (defBody st) (defScope st) cl P ds) := by
  have h := ps_def (X := X) (pos := posOf st) (body := defBody st) hN hi hx hcl hc hC hB hP hq hd hds h1 h2 h3 hf
  rw [← hst] at h
  exact h
theorem codeIn_of {K : PySem.W.Frag} {c : Addr} {o : Obj} {vs : Array Value} {q : Str} {t : Tok} (h : K.lookup c = some o) (hd : o.data = .fields vs) (hv : vs[1]? = some (.str q t)) : PySem.W.codeIn K (.ref c) q = true := by
  obtain ⟨cls, dict, data, slots⟩ := o
  have hd : data = .fields vs := hd
  subst hd
  unfold PySem.W.codeIn
  dsimp only
  rw [show List.lookup c K = _ from h]
  obtain ⟨l⟩ := vs
  have hv : l[1]? = some (.str q t) := by simpa using hv
  match l, hv with
  | a :: b :: r, hv =>
    have hb : b = .str q t := by simpa using hv
    subst hb
    show (q == q) = true
    simp
theorem keepIn_fn {K : PySem.W.Frag} {f : Addr} {oc : Value} {od : Option Addr} {fd : FuncData} {sl : Array (Option Value)} (h : K.lookup f = some ⟨oc, od, .func fd, sl⟩) : PySem.W.keepIn K (.ref f) = true := by
  unfold PySem.W.keepIn
  dsimp only
  rw [show List.lookup f K = _ from h]
theorem codeIn_le {K K' : PySem.W.Frag} (k : KLe K K') {cd : Value} {q : Str} (h : PySem.W.codeIn K cd q = true) : PySem.W.codeIn K' cd q = true := by
  cases cd with
  | ref c =>
    unfold PySem.W.codeIn at h ⊢
    dsimp only at h ⊢
    cases z : List.lookup c K with
    | none => rw [z] at h; cases h
    | some o =>
      rw [z] at h
      rw [show List.lookup c K' = some o from k c o z]
      exact h
  | _ => exact absurd h (by simp [PySem.W.codeIn])
theorem Fun.le {K K' : PySem.W.Frag} (k : KLe K K') {x qual : Str} {st : Stmt} {f : Addr} {fd : FuncData} (F : Fun K x qual st f fd) : Fun K' x qual st f fd := by
  obtain ⟨⟨oc, od, kV, doc, pm, an, cdv, ct, osl, e, lk, hcd⟩, kp⟩ := F
  exact ⟨⟨oc, od, kV, doc, pm, an, cdv, ct, osl, e, k _ _ lk, codeIn_le k hcd⟩, keepIn_fn (k _ _ lk)⟩
theorem Binds.le {K K' : PySem.W.Frag} (k : KLe K K') {fd : FuncData} {ps : List Str} {ds : List Value} (b : Binds K fd ps ds) : Binds K' fd ps ds := fun s us h hl => b s us (fun a o e => h a o (k a o e)) hl
theorem SqT.le {K K' : PySem.W.Frag} (k : KLe K K') {H : Hp} {a : Addr} {xs : List V} (h : SqT K H a xs) : SqT K' H a xs := by
  rcases h with h | ⟨o, its, n, e, r⟩
  · exact .inl h
  · exact .inr ⟨o, its, n, k a o e, r⟩
structure FunT (K : PySem.W.Frag) (x qual : Str) (st : Stmt) (f : Addr) (fd : FuncData) (P : Addr) : Prop where
  ex : ∃ (oc : Value) (od : Option Addr) (kV doc pm : Value) (an : Option Addr) (c : Addr) (ct : Value) (osl : Array (Option Value)),
    fd = PySem.W.fnOf x qual (defArgs st) (defBody st) (defScope st) .none kV doc pm an (.ref c) ct ∧ K.lookup f = some ⟨oc, od, .func fd, osl⟩ ∧ PySem.W.codeIn K (.ref c) qual = true ∧ ∀ h, K.In h → PySem.W.CodeHd h c P
  kp : PySem.W.keepIn K (.ref f) = true
theorem FunT.ok {P : Program} {w : World} {K : PySem.W.Frag} {mg : Str → Option Value} {base : Heap} {x qual : Str} {st : Stmt} {f : Addr} {fd : FuncData} {T : Addr} {N ps : List Str} {k : Nat} {sp : Sp} (F : FunT K x qual st f fd T) (S : FnScope N ps (defScope st)) (len : ∀ vs H Q E, sp vs H Q E → vs.length = ps.length)
    (hbody : ∀ (c : Addr) (A : Around) (outer : List Env) (s : Shared) (H : Hp) (vs : List V) (Q : VK) (E : XK), (∀ h, K.In h → PySem.W.CodeHd h c T) → Room k (A.deeper (envOfC qual (defScope st) s.heap.objs.size f (.ref c))) → sp vs H Q E →
      ∃ t, PSs (cxOf CX0 P w K mg base N qual (defScope st) f (.ref c) A outer s H E).nox (defBody st) t ∧ t { nx := fun _ H' => Q .non H', rt := Q } (start N vs) H) : FnOk P w K mg base CX0 (k + 1) f fd ps sp := by
  obtain ⟨oc, od, kV, doc, pm, an, c, ct, osl, rfl, lk, hcd, hC⟩ := F.ex
  refine fn_of lk hcd S len fun A outer s H vs Q E hr hsp => ?_
  obtain ⟨t, h, q⟩ := hbody c A outer s H vs Q E hC hr hsp
  exact ⟨t, h.nox, q⟩
structure FunC (K : PySem.W.Frag) (x qual : Str) (st : Stmt) (cl : List (Str × Addr)) (f : Addr) (fd : FuncData) : Prop where
  ex : ∃ (oc : Value) (od : Option Addr) (doc pm cdv ct : Value) (osl : Array (Option Value)),
    fd = PySem.W.fnX x qual (defArgs st) (defBody st) (defScope st) cl .none .none doc pm none cdv ct ∧ K.lookup f = some ⟨oc, od, .func fd, osl⟩ ∧ PySem.W.codeIn K cdv qual = true
  kp : PySem.W.keepIn K (.ref f) = true
theorem FunC.ok {P : Program} {w : World} {K : PySem.W.Frag} {mg : Str → Option Value} {base : Heap} {x qual : Str} {st : Stmt} {cl : List (Str × Addr)} {f : Addr} {fd : FuncData} {N ps fv : List Str} {frv : List V} {k : Nat} {sp : Sp} (F : FunC K x qual st cl f fd) (S : FnScopeC N ps fv (defScope st)) (C : Caught K (defScope st) cl fv frv) (len : ∀ vs H Q E, sp vs H Q E → vs.length = ps.length)
    (hbody : ∀ (cdv : Value) (A : Around) (outer : List Env) (s : Shared) (H : Hp) (vs : List V) (Q : VK) (E : XK), Room k (A.deeper (PySem.W.envX qual (defScope st) s.heap.objs.size f cdv cl)) → sp vs H Q E →
      ∃ t, PSs (cxC CX0 P w K mg base N qual (defScope st) f cdv cl A outer s H E).nox (defBody st) t ∧ t { nx := fun _ H' => Q .non H', rt := Q } (start N (vs ++ frv)) H) : FnOk P w K mg base CX0 (k + 1) f fd ps sp := by
  obtain ⟨oc, od, doc, pm, cdv, ct, osl, rfl, lk, hcd⟩ := F.ex
  refine fn_ofC lk hcd S C len fun A outer s H vs Q E hr hsp => ?_
  obtain ⟨t, h, q⟩ := hbody cdv A outer s H vs Q E hr hsp
  exact ⟨t, h.nox, q⟩
theorem FunC.binds {K : PySem.W.Frag} {x qual : Str} {st : Stmt} {cl : List (Str × Addr)} {f : Addr} {fd : FuncData} {ps : List Str} (F : FunC K x qual st cl f fd)
    (h : ∀ (doc pm cdv ct : Value) (us : List Value), us.length = ps.length → bindArgs (PySem.W.fnX x qual (defArgs st) (defBody st) (defScope st) cl .none .none doc pm none cdv ct) ⟨us, []⟩ = pure (ps.zip us)) : Binds K fd ps [] := by
  obtain ⟨oc, od, doc, pm, cdv, ct, osl, rfl, lk, hcd⟩ := F.ex
  exact .all (h doc pm cdv ct)
theorem FnFz.objs {H : Hp} {f : Addr} {name qual : Str} {st : Stmt} {cl : List (Str × Addr)} (h : FnFz H f name qual (defArgs st) (defBody st) (defScope st) cl) :
    ∃ (o1 : Obj) (c : Addr) (o2 : Obj), H f = some (FZ o1) ∧ H c = some (FZ o2) ∧ (∀ its n, o1.data ≠ .seq its n) ∧ (∀ its n, o2.data ≠ .seq its n) ∧
      ∀ K : PySem.W.Frag, K.lookup f = some o1 → K.lookup c = some o2 → ∃ fd, FunC K name qual st cl f fd := by
  obtain ⟨doc, pm, ct, cv, h1, c, o, vs, t, rfl, h3, h4, h5⟩ := h
  refine ⟨_, c, o, h1, h3, ?_, ?_, fun K e1 e2 => ⟨_, ⟨_, _, doc, pm, _, ct, _, rfl, e1, codeIn_of e2 h4 h5⟩, keepIn_fn e1⟩⟩
  · intro its n z
    cases z
  · intro its n z
    rw [h4] at z; cases z
def CellIn (X : Cx) (K : PySem.W.Frag) (x : Str) (v : V) : Prop := ∃ c o u, X.env.cells.lookup x = some c ∧ K.lookup c = some o ∧ o.data = .cell (some u) ∧ RelV v u
theorem caught_of {X : Cx} {K : PySem.W.Frag} {sc : Scope} {fv : List Str} {frv : List V} (ok : X.Ok) (hlen : frv.length = fv.length) (h1 : ∀ y ∈ sc.names, y.2 = .free → y.1 ∈ fv) (h2 : ∀ x ∈ fv, (x, NameKind.free) ∈ sc.names)
    (hc : ∀ (i : Nat) (x : Str) (v : V), fv[i]? = some x → frv[i]? = some v → CellIn X K x v) : Caught K sc (closL X.env.cells sc.names []) fv frv := by
  have at' : ∀ x c, (closL X.env.cells sc.names []).lookup x = some c → x ∈ fv ∧ c = (X.env.cells.lookup x).getD 0 := fun x c e => by
    rcases closL_mem (PySem.mem_of_lookup e) with z | ⟨z1, z2⟩
    · exact absurd z (by simp)
    · exact ⟨h1 _ z1 rfl, z2⟩
  have val : ∀ x ∈ fv, ∃ i v, fv[i]? = some x ∧ frv[i]? = some v := fun x hx => by
    obtain ⟨i, hi, e⟩ := List.getElem_of_mem hx
    exact ⟨i, frv[i]'(by omega), by rw [List.getElem?_eq_getElem hi, e], List.getElem?_eq_getElem _⟩
  have lk : ∀ x, x ∈ fv → ∃ c, (closL X.env.cells sc.names []).lookup x = some c := fun x hx => by
    obtain ⟨c, hm⟩ := closL_has (cells := X.env.cells) (acc := []) (.inl (h2 x hx))
    exact lookup_of_mem hm
  refine ⟨hlen, fun i x v e1 e2 => ?_, fun x c e => ?_, fun x y c e1 e2 => ?_, fun x e => ?_⟩
  · obtain ⟨c, o, u, g1, g2, g3, g4⟩ := hc i x v e1 e2
    obtain ⟨c', e⟩ := lk x (List.mem_of_getElem? e1)
    have := (at' x c' e).2
    rw [g1] at this
    cases this
    exact ⟨c, o, u, e, g2, g3, g4⟩
  · obtain ⟨hx, hcv⟩ := at' x c e
    obtain ⟨i, v, e1, e2⟩ := val x hx
    obtain ⟨c', o, u, g1, g2, g3, g4⟩ := hc i x v e1 e2
    rw [g1] at hcv
    cases hcv
    exact ⟨o, _, g2, g3⟩
  · obtain ⟨hx, hcx⟩ := at' x c e1
    obtain ⟨hy, hcy⟩ := at' y c e2
    obtain ⟨i, v, i1, i2⟩ := val x hx
    obtain ⟨j, u, j1, j2⟩ := val y hy
    obtain ⟨c1, _, _, g1, _⟩ := hc i x v i1 i2
    obtain ⟨c2, _, _, g2, _⟩ := hc j y u j1 j2
    rw [g1] at hcx
    rw [g2] at hcy
    cases hcx
    cases hcy
    exact ok.inj x y _ g1 g2
  · exact lk x (h1 _ (PySem.mem_of_lookup e) rfl)
mutual
theorem Dn.moveT {K K' : PySem.W.Frag} {H H' : Hp} (k : ∀ a xs, SqT K H a xs → SqT K' H' a xs) : ∀ {d : PyData} {v : V}, noList d = true → Dn K H v d → Dn K' H' v d
  | .none, v, _, h => by rw [Dn] at h ⊢; exact h
  | .bool _, v, _, h => by rw [Dn] at h ⊢; exact h
  | .int _, v, _, h => by rw [Dn] at h ⊢; exact h
  | .str _, v, _, h => by rw [Dn] at h ⊢; exact h
  | .list _, v, n, h => by rw [noList] at n; cases n
  | .dict _, v, n, h => by rw [noList] at n; cases n
  | .tuple ds, v, n, h => by
    rw [Dn] at h ⊢
    rw [noList] at n
    obtain ⟨a, xs, e, hs, hd⟩ := h
    exact ⟨a, xs, e, k a xs hs, DnAll.moveT k n hd⟩
theorem DnAll.moveT {K K' : PySem.W.Frag} {H H' : Hp} (k : ∀ a xs, SqT K H a xs → SqT K' H' a xs) : ∀ {ds : List PyData} {xs : List V}, noLists ds = true → DnAll K H xs ds → DnAll K' H' xs ds
  | [], xs, _, h => by rw [DnAll] at h ⊢; exact h
  | d :: ds, xs, n, h => by
    rw [DnAll] at h ⊢
    rw [noLists, Bool.and_eq_true] at n
    obtain ⟨x, r, e, h1, h2⟩ := h
    exact ⟨x, r, e, Dn.moveT k n.1 h1, DnAll.moveT k n.2 h2⟩
end
theorem sqT_in {K K' : PySem.W.Frag} {H : Hp} {xs : List (Addr × Obj)} (hx : ∀ p ∈ xs, H p.1 = some (FZ p.2)) (k : KLe K K') (a : Addr) (ys : List V) (h : SqT K H a ys) : SqT K' (remX xs H) a ys := by
  have out : ∀ {b : Addr} {u : HO}, H b = some u → (∀ o, u ≠ FZ o) → b ∉ xs.map (·.1) := fun {b u} e n z => by
    obtain ⟨p, hp, rfl⟩ := List.mem_map.mp z
    rw [hx p hp] at e
    cases e
    exact n p.2 rfl
  rcases h with (h | ⟨o, h⟩) | ⟨o, its, n, e, r⟩
  · exact .inl (.inl (by rw [remX_out (out h fun _ z => nomatch z)]; exact h))
  · exact .inl (.inr ⟨o, by rw [remX_out (out h fun _ z => by cases z)]; exact h⟩)
  · exact .inr ⟨o, its, n, k a o e, r⟩
end L2
set_option Elab.async false
set_option linter.all false
set_option maxRecDepth 100000
set_option maxHeartbeats 2000000
namespace Ken
open PySem L2
def Tm.sub (t : Tm) (x : Str) (o : Tm) : Tm :=
  match t with
  | .low => .low
  | .ltr w => if w = x then o else .ltr w
  | .nd k a b => .nd k (a.sub x o) (b.sub x o)
theorem Tm.sub_self (x : Str) : ∀ t : Tm, t.sub x (.ltr x) = t
  | .low => rfl
  | .ltr w => by
    show (if w = x then Tm.ltr x else .ltr w) = _
    by_cases h : w = x
    · rw [if_pos h, h]
    · rw [if_neg h]
  | .nd k a b => by
    show Tm.nd k (a.sub x (.ltr x)) (b.sub x (.ltr x)) = _
    rw [a.sub_self, b.sub_self]
theorem SameT.keepT {K : PySem.W.Frag} {H H' : Hp} (e : SameT H H') : KeepT K H H' := fun a xs h => by
  rcases h with (h | ⟨o, h⟩) | h
  · exact .inl (.inl (e _ _ (fun _ z => nomatch z) h))
  · exact .inl (.inr ⟨o, e _ _ (fun _ z => nomatch z) h⟩)
  · exact .inr h
theorem SameT.seq {K : PySem.W.Frag} {H H' : Hp} {a : Addr} {xs : List V} (e : SameT H H') (h : SqL K H a xs) : SqL K H' a xs := by
  rcases h with (h | ⟨o, h⟩) | h
  · exact .inl (.inl (e _ _ (fun _ z => nomatch z) h))
  · exact .inl (.inr ⟨o, e _ _ (fun _ z => nomatch z) h⟩)
  · exact .inr h
end Ken
set_option Elab.async false
set_option linter.all false
set_option maxRecDepth 100000
set_option maxHeartbeats 2000000
namespace Ken
open PySem L2
section
variable {X : Cx} {pins : List (Addr × Obj)} {σ : St} {H : Hp} {s : Shared}
end
end Ken
namespace L2
open PySem PySem.Spec PyProof.Rows
section
variable {X : Cx}
def rInT (K : PySem.W.Frag) (neg : Bool) : R2 := fun x y H Q => ∃ (t : Ken.Tm) (p : Addr) (xs : List V) (ts : List Ken.Tm), Ken.IsT K H x t ∧ y = .ref p ∧ SqL K H p xs ∧ Paired (Ken.IsT K H) xs ts ∧ t.ok ∧ (∀ s ∈ ts, s.ok) ∧ t.deep ≤ 140 ∧ Q (.bl (if neg then !decide (t ∈ ts) else decide (t ∈ ts))) H
end
end L2
set_option Elab.async false
set_option linter.all false
set_option maxRecDepth 100000
set_option maxHeartbeats 2000000
namespace L2
open PySem PySem.Spec PyProof.Rows
def Itd (lo : Int) (n : Nat) : It := ⟨fun i _ => i < n, fun i H x H' => H' = H ∧ x = .int (lo - i), fun i _ => n ≤ i⟩
theorem turn_down {P : Program} {w : World} {K : PySem.W.Frag} {tg : Expr} (it : Addr) (lo : Int) (n : Nat) : Turn P w K tg (Itd lo n) [it] it (fun i h => IsRangeIter h it (lo + (i : Nat) * (-1)) ((n : Int) - (i : Nat)) (-1)) where
  mem := by simp
  obj := fun i h st b hb => by
    have e : b = it := by simpa using hb
    subst e
    exact ⟨_, st, fun v z => by
      have z' : Data.fields _ = Data.cell v := z
      cases z'⟩
  keep := fun i h h' st k => k it (by simp) _ st
  item := by
    intro X hP hw hK hc i pins s σ H E I hf st hg
    subst hP hw hK
    obtain ⟨f0, f1, f2, f3, f4, f5⟩ := hf it (by simp)
    have W := Walks.range (prog := X.prog) (w := X.w) (I.ok.hd hc) it lo (-1) n
    refine W.item i s _ _ hg st fun v h' tk hv st' kk => ?_
    obtain ⟨t, rfl⟩ := hv
    have I1 : Inv X pins σ H { s with heap := h', toks := tk } := I.turned (fun b o hb e => kk b o (by simpa using hb) e) f0 f1 f3 f4 f5
    refine ⟨_, rfl, go_of (s := { s with heap := h', toks := tk }) (n := "range_iterator") st' rfl rfl (by decide) ⟨.int (lo - i), H, I1, ⟨t, ?_⟩, ⟨rfl, rfl⟩, st', fun b hb => (hf b hb).1⟩⟩
    rw [show lo + (i : Int) * (-1) = lo - i by omega]
  done := by
    intro X hP hw hK hc i pins s σ H E I hf st hg
    subst hP hw hK
    obtain ⟨f0, f1, f2, f3, f4, f5⟩ := hf it (by simp)
    exact wpAny_pyNext_range_end (I.ok.hd hc) st (by have : n ≤ i := hg; omega) fun h' eb => ⟨rfl, I.turned (t' := s.toks) (fun b o hb e => eb b o hb e) f0 f1 f3 f4 f5⟩
  self := fun _ _ _ _ _ st h => wpAny_pyIter_rangeiter st h
theorem rangeSize_down (a b : Int) : Builtin.Range.rangeSize a b (-1) = if b < a then a - b else 0 := by
  unfold Builtin.Range.rangeSize
  rw [if_neg (show ¬ ((-1 : Int) > 0) by decide), show -(-1 : Int) = 1 by decide, Int.ediv_one]
  by_cases h : b < a
  · rw [if_pos h, if_pos h]; omega
  · rw [if_neg h, if_neg h]
theorem small_down {a b : Int} (ha : -(2 ^ 62) ≤ a) (ha' : a < 2 ^ 62) (hb : -(2 ^ 62) ≤ b) (hb' : b < 2 ^ 62) : Builtin.Range.small a b (-1) = true := by
  unfold Builtin.Range.small
  rw [rangeSize_down, if_neg (show ¬ ((-1 : Int) > 0) by decide)]
  simp only [Builtin.Range.rangeFitsLong, Bool.and_eq_true, Bool.or_eq_true, decide_eq_true_eq, beq_iff_eq]
  split <;> omega
section
variable {X : Cx} {tg : Expr}
theorem range_itd {pins : List (Addr × Obj)} {σ : St} {H : Hp} {s : Shared} {R : It → Hp → Prop} {E : Value → Shared → Prop} {lo hi : Int} {t u v : Tok} {tk : Nat} (I : Inv X pins σ H s) (h1 : -(2 ^ 62) ≤ lo) (h2 : lo < 2 ^ 62) (h3 : -(2 ^ 62) ≤ hi) (h4 : hi < 2 ^ 62)
    (q : R (Itd lo (lo - hi).toNat) H) : wpAny (model X.prog X.w) X.A (pyIter (.ref s.heap.objs.size)) (PIE X pins σ tg R) E { s with heap := s.heap.push { cls := .type "range", data := .fields #[.int lo t, .int hi u, .int (-1) v] }, toks := tk } := by
  refine wpAny_pyIter_range (IsRange.new ..) (small_down h1 h2 h3 h4) ?_
  have I1 : Inv X pins σ H { s with heap := s.heap.push { cls := .type "range", data := .fields #[.int lo t, .int hi u, .int (-1) v] }, toks := tk } := I.kept fun b o e => Heap.get?_push_of_some _ e
  refine ⟨(s.heap.push { cls := .type "range", data := .fields #[.int lo t, .int hi u, .int (-1) v] }).objs.size, [(s.heap.push { cls := .type "range", data := .fields #[.int lo t, .int hi u, .int (-1) v] }).objs.size], _, _, H, rfl,
    I1.kept (t' := tk) fun b o e => Heap.get?_push_of_some _ e, turn_down _ lo (lo - hi).toNat, ?_, fun b hb => ?_, q⟩
  · have e1 : lo + ((0 : Nat) : Int) * (-1) = lo := by simp
    have e2 : (((lo - hi).toNat : Nat) : Int) - ((0 : Nat) : Int) = Builtin.Range.rangeSize lo hi (-1) := by rw [rangeSize_down]; split <;> omega
    show IsRangeIter _ _ (lo + ((0 : Nat) : Int) * (-1)) ((((lo - hi).toNat : Nat) : Int) - ((0 : Nat) : Int)) (-1)
    rw [e1, e2]
    exact Heap.get?_push_size _ rfl
  · have e : b = (s.heap.push { cls := .type "range", data := .fields #[.int lo t, .int hi u, .int (-1) v] }).objs.size := by simpa using hb
    subst e
    exact I1.fpOk (Nat.le_refl _) (I1.hok.fresh (Nat.le_refl _))
def iRngD (ta : TA) : TI := fun σ H R => ta σ H fun vs H1 => ∃ i j : Int, vs = [.int i, .int j, .int (-1)] ∧ (-10000 ≤ i ∧ i < 10000 ∧ -10000 ≤ j ∧ j < 10000) ∧ R (Itd i (i - j).toNat) H1
theorem pi_range3 {a b c : Expr} {ta : TA} {p pos : Pos} (hg : Gl X "range") (hm : X.mg "range" = none) (ha : PA X [a, b, c] ta) (hs : starEach [a, b, c] X.env = [(false, eval a X.env), (false, eval b X.env), (false, eval c X.env)] := by rfl) (hs2 : starEach [b, c] X.env = [(false, eval b X.env), (false, eval c X.env)] := by rfl) :
    PI X tg (.Call (.Name "range" p) [a, b, c] [] pos) (iRngD ta) := by
  intro pins s σ H R I h
  refine Call_ (ld_blt I hg hm boot_range (PyProof.Rows.callWith_type1 (thn (ha pos pins s σ H _ I h) fun us s1 ⟨vs, H1, I1, r1, q1⟩ => ?_) (by rw [hs, hs2]) (by rw [hs2]; rfl)))
  obtain ⟨i, j, e, ⟨q1, q2, q3, q4⟩, q⟩ := q1
  subst e
  cases r1 with
  | cons r rr =>
    cases rr with
    | cons r' rr =>
      cases rr with
      | cons r'' rr =>
        cases rr
        obtain ⟨t, rfl⟩ := r
        obtain ⟨t', rfl⟩ := r'
        obtain ⟨t'', rfl⟩ := r''
        exact call_range_3 (by decide) (range_itd I1 (by omega) (by omega) (by omega) (by omega) q) (.inl (PyProof.noPylong_small (by omega)))
end
theorem for_down {lo : Int} {n : Nat} {g : TG} {tb : TS} {D : Ends} {σ : St} {H : Hp} (Pv : Nat → St → Hp → Prop) (h0 : Pv 0 σ H)
    (hs : ∀ i σ H, i < n → Pv i σ H → g (.int (lo - i)) σ H fun σ2 H2 => tb { D with nx := Pv (i + 1), ct := Pv (i + 1), bk := D.nx } σ2 H2) (hd : ∀ σ H, Pv n σ H → D.nx σ H) :
    ∃ W : Nat → Nat → St → Hp → Prop, (∃ m, W 0 m σ H) ∧ ∀ i m σ H, W i m σ H →
      ((Itd lo n).stop i H ∧ D.nx σ H) ∨ ((Itd lo n).go i H ∧ ∃ N : St → Hp → Prop, (∀ σ' H', N σ' H' → ∃ m', m' < m ∧ W (i + 1) m' σ' H') ∧ ∀ x H', (Itd lo n).yld i H x H' → g x σ H' fun σ2 H2 => tb { D with nx := N, ct := N, bk := D.nx } σ2 H2) := by
  refine ⟨fun i m σ H => m = n - i ∧ i ≤ n ∧ Pv i σ H, ⟨n, by simp, Nat.zero_le _, h0⟩, ?_⟩
  rintro i m σ H ⟨rfl, hi, p⟩
  by_cases hlt : i < n
  · refine .inr ⟨hlt, Pv (i + 1), fun σ' H' p' => ⟨n - (i + 1), by omega, rfl, hlt, p'⟩, fun x H' y => ?_⟩
    obtain ⟨rfl, rfl⟩ := y
    exact hs i σ H' hlt p
  · have : i = n := by omega
    subst this
    exact .inl ⟨Nat.le_refl _, hd σ H p⟩
section
variable {X : Cx}
def rIndexT (K : PySem.W.Frag) : V → List V → Hp → VK → Prop := fun x vs H Q => ∃ (y : V) (t : Ken.Tm) (p : Addr) (xs : List V) (ts : List Ken.Tm), x = .ref p ∧ vs = [y] ∧ Ken.IsT K H y t ∧ SqL K H p xs ∧ Paired (Ken.IsT K H) xs ts ∧ t.ok ∧ (∀ s ∈ ts, s.ok) ∧ t.deep ≤ 140 ∧ t ∈ ts ∧
  ∀ j : Nat, ts[j]? = some t → Q (.int (j : Nat)) H
end
end L2
set_option Elab.async false
set_option linter.all false
set_option maxRecDepth 100000
set_option maxHeartbeats 2000000
namespace L2
open PySem PySem.Spec PyProof.Rows
section
variable {X : Cx} {scope : Scope} {cl : List (Str × Addr)} {N' : List Str} {nt : Nat} {ci : List Nat} {pins : List (Addr × Obj)} {σ : St} {H : Hp} {s : Shared}
theorem dK_obj {P : Program} {w : World} (H : Hp) (h : Heap) (a : Addr) (e : h.get? a = some { cls := .type "dict", dict := none, data := .dict #[] }) (hb : sysModules < a) : ObjOk P w (upd H a (.dK [])) h a (.dK []) :=
  ⟨Nat.zero_le _, beq_eq_false_iff_ne.mpr (Ne.symm (Nat.ne_of_lt hb)), [], .nil, _, #[], 0, e, ⟨rfl, rfl, rfl⟩, rfl, fun _ he => by simp at he, Pairs.nil, List.nodup_nil⟩
theorem ps_setDCK {i : Nat} {x : Str} {ek ev tg iter : Expr} {ifs : List Expr} {gs : List Comprehension} {pos spos pos' p0 : Pos} {wi : TI} {g : TG} {tk : Addr → TK} {body : Addr → Env → Sem Unit} (hN : X.N.Nodup) (hi : X.N[i]? = some x) (hx : Loc X.env.scope x) (B : X.Ok → BlkOk X scope cl N' nt ci) (hc : X.calm = true) (hit : PI X tg iter wi)
    (hg : ∀ s H C ex, PG (blk X N' scope cl s H C ex) tg g) (htn : ∀ a env, TurnIs (.DictComp ek ev (⟨tg, iter, ifs, 0⟩ :: gs) scope pos) 0 tg p0 (.ref a) env (body a env))
    (hb : ∀ s H C ex a, PTn (blk X N' scope cl s H C ex) (body a (blk X N' scope cl s H C ex).env) (tk a)) (hsw : swapsWith (.DictComp ek ev (⟨tg, iter, ifs, 0⟩ :: gs) scope pos) (some (.Name x pos')) spos.line X.env = pure true)
    (hs : ∀ x, foldedSetIterable iter X.env x = pure x := by intro _; rfl) (hf : X.fn x = true ∨ X.env.scope.names.lookup x = some .local := by first | exact .inl rfl | exact .inr rfl | assumption) :
    PS X (.Assign [.Name x pos'] (.DictComp ek ev (⟨tg, iter, ifs, 0⟩ :: gs) scope pos) spos) (tAsg (tComp nt ci wi g tk (.dK [])) (gName i)) := by
  intro pins s σ H D I h
  rw [exec_Assign_Name_used _ _ _ _ hsw]
  refine wpAny_bind (wpAny_standAt (wpAny_bind ?_))
  rw [arm_evalThenUse_DictComp]
  refine wpAny_bind (cg_core (B I.ok) hc hit hg rfl (fun _ _ => den_D) htn hb (fun h => wpAny_newObj_type h) rfl dK_obj hs I h fun acc C s' H' I' q hm hfC ho => ?_)
  obtain ⟨f0, f1, f2, f3, f4, f5⟩ := hfC
  obtain ⟨m, hm⟩ := hm
  obtain ⟨o, e, d⟩ := ho
  have Ip : Inv X (pins ++ [(C, o)]) σ H' s' := I'.pins_of fun p hp => (List.mem_append.mp hp).elim (fun z => I'.pin p (List.mem_append_right _ z)) fun z => by
    have e' : p = (C, o) := by simpa using z
    subst e'
    exact ⟨e, f0, f1, f2, d⟩
  refine wpAny_assign_Name (store_ok Ip hN hi hx (show RelV (.ref acc) (Value.ref acc) from rfl) (fun s2 I2 => ?_) hf)
  have e2 := (I2.pin (C, o) (List.mem_append_right _ (List.mem_append_right _ (by simp)))).1
  obtain ⟨o', es, ep, h1, h2, h3⟩ := hm
  rw [e] at h1; cases h1
  refine ⟨m, ⟨o, es, ep, e2, h2, h3⟩, fun h' sb => wpAny_pure (wpAny_pure ?_)⟩
  have I3 : Inv X pins (σ.set i (some (.ref acc))) H' s2 := I2.unpinned
  exact ⟨_, H', I3.turned (t' := s2.toks) (fun b o hb e => (sb.2 b hb).trans e) f0 f1 f3 f4 f5, q⟩
end
end L2
set_option Elab.async false
set_option linter.all false
set_option maxRecDepth 100000
set_option maxHeartbeats 2000000
namespace Ken
open PySem L2
def tg (l : List Bool) (n : Nat) : Bool := l[n]?.getD true
def wStep (ws : List Wd) (l : List Bool) (n : Nat) : List Bool := if tg l n then l else match bef ws n with
  | some j => l.set j false
  | none => l
def wLoop (ws : List Wd) (l : List Bool) : Nat → List Bool
  | 0 => l
  | i + 1 => wStep ws (wLoop ws l i) (ws.length - 1 - i)
def wThen (ws : List Wd) (l : List Bool) : List Bool := wLoop ws l (ws.length - 1)
def ifs (a b : List Bool) : List Bool := List.zipWith (fun x y => !x || y) a b
def tr (ws : List Wd) : Tm → List Bool
  | .low => ws.map fun _ => false
  | .ltr x => ws.map fun w => decide (x ∈ w.2)
  | .nd .both a b => List.zipWith and (tr ws a) (tr ws b)
  | .nd .one a b => List.zipWith or (tr ws a) (tr ws b)
  | .nd .thn a b => wThen ws (ifs (tr ws a) (tr ws b))
theorem wStep_len (ws : List Wd) (l : List Bool) (n : Nat) : (wStep ws l n).length = l.length := by
  unfold wStep
  split
  · rfl
  · split
    · rw [List.length_set]
    · rfl
theorem wLoop_len (ws : List Wd) (l : List Bool) : ∀ i, (wLoop ws l i).length = l.length
  | 0 => rfl
  | i + 1 => by
    show (wStep ws _ _).length = _
    rw [wStep_len, wLoop_len ws l i]
theorem tr_len (ws : List Wd) : ∀ t : Tm, (tr ws t).length = ws.length
  | .low => by show (ws.map _).length = _; rw [List.length_map]
  | .ltr x => by show (ws.map _).length = _; rw [List.length_map]
  | .nd .both a b => by
    show (List.zipWith and (tr ws a) (tr ws b)).length = _
    rw [List.length_zipWith, tr_len ws a, tr_len ws b, Nat.min_self]
  | .nd .one a b => by
    show (List.zipWith or (tr ws a) (tr ws b)).length = _
    rw [List.length_zipWith, tr_len ws a, tr_len ws b, Nat.min_self]
  | .nd .thn a b => by
    show (wLoop ws (ifs (tr ws a) (tr ws b)) _).length = _
    rw [wLoop_len]
    show (List.zipWith _ (tr ws a) (tr ws b)).length = _
    rw [List.length_zipWith, tr_len ws a, tr_len ws b, Nat.min_self]
theorem tg_set {l : List Bool} {j n : Nat} (hj : j < l.length) : tg (l.set j false) n = if n = j then false else tg l n := by
  unfold tg
  rw [List.getElem?_set]
  by_cases h : j = n
  · subst h
    rw [if_pos rfl, if_pos hj, if_pos rfl]; rfl
  · rw [if_neg h, if_neg fun z => h z.symm]
theorem wLoop_inv {ws : List Wd} (hg : goodB ws) {l : List Bool} (hl : l.length = ws.length) : ∀ i, i ≤ ws.length - 1 → ∀ w, tg (wLoop ws l i) w = true ↔ tg l w = true ∧ ∀ n, ws.length - i ≤ n → n < ws.length → bef ws n = some w → tg (wLoop ws l i) n = true
  | 0, _, w => by
    show tg l w = true ↔ _
    exact ⟨fun h => ⟨h, fun n h1 h2 => by omega⟩, fun h => h.1⟩
  | i + 1, hi, w => by
    have ih := wLoop_inv hg hl i (by omega)
    have len := wLoop_len ws l i
    generalize hL : wLoop ws l i = L at ih len
    have eL : wLoop ws l (i + 1) = wStep ws L (ws.length - 1 - i) := by show wStep ws (wLoop ws l i) _ = _; rw [hL]
    have hm : ws.length - (i + 1) = ws.length - 1 - i := by omega
    rw [eL, hm]
    have hm0 : 0 < ws.length - 1 - i := by omega
    have hm1 : ws.length - 1 - i < ws.length := by omega
    have hmi : ws.length - i = ws.length - 1 - i + 1 := by omega
    rw [hmi] at ih
    generalize ws.length - 1 - i = m at ih hm0 hm1
    obtain ⟨j, ej', lj⟩ := (hg m ws[m] (List.getElem?_eq_getElem hm1)).2 hm0
    have ej : bef ws m = some j := by unfold bef; rw [List.getElem?_eq_getElem hm1]; exact ej'
    unfold wStep
    by_cases ht : tg L m = true
    · rw [if_pos ht, ih w]
      constructor
      · rintro ⟨h1, h2⟩
        refine ⟨h1, fun n n1 n2 eb => ?_⟩
        by_cases e : n = m
        · subst e; exact ht
        · exact h2 n (by omega) n2 eb
      · rintro ⟨h1, h2⟩
        exact ⟨h1, fun n n1 n2 eb => h2 n (by omega) n2 eb⟩
    · rw [if_neg ht, ej]
      show tg (L.set j false) w = true ↔ _
      have gs : ∀ n, tg (L.set j false) n = if n = j then false else tg L n := fun n => tg_set (by omega)
      by_cases hw : w = j
      · subst hw
        rw [gs, if_pos rfl]
        constructor
        · intro z; cases z
        · rintro ⟨h1, h2⟩
          have := h2 m (Nat.le_refl _) hm1 ej
          rw [gs, if_neg (by omega)] at this
          exact absurd this ht
      · rw [gs, if_neg hw, ih w]
        constructor
        · rintro ⟨h1, h2⟩
          refine ⟨h1, fun n n1 n2 eb => ?_⟩
          by_cases e : n = m
          · subst e; rw [ej] at eb; cases eb; exact absurd rfl hw
          · rw [gs, if_neg (by omega)]; exact h2 n (by omega) n2 eb
        · rintro ⟨h1, h2⟩
          refine ⟨h1, fun n n1 n2 eb => ?_⟩
          have := h2 n (by omega) n2 eb
          rw [gs, if_neg (by omega)] at this
          exact this
theorem wThen_iff {ws : List Wd} (hg : goodB ws) {l : List Bool} (hl : l.length = ws.length) (w : Nat) : tg (wThen ws l) w = true ↔ tg l w = true ∧ ∀ n, n < ws.length → bef ws n = some w → tg (wThen ws l) n = true := by
  have := wLoop_inv hg hl (ws.length - 1) (Nat.le_refl _) w
  show tg (wLoop ws l _) w = true ↔ _
  rw [this]
  refine and_congr Iff.rfl ⟨fun h n hn eb => ?_, fun h n _ hn eb => h n hn eb⟩
  by_cases h0 : n = 0
  · subst h0
    exfalso
    have z := (hg 0 ws[0] (List.getElem?_eq_getElem hn)).1 rfl
    unfold bef at eb
    rw [List.getElem?_eq_getElem hn] at eb
    have eb' : ws[0].1 = some w := eb
    rw [z] at eb'; cases eb'
  · exact h n (by omega) hn eb
theorem wThen_all {ws : List Wd} (hg : goodB ws) {l : List Bool} (hl : l.length = ws.length) (L : Nat → List Nat) (hL : ∀ w, w < ws.length → Closed ws w (L w)) : ∀ k w, ws.length - w ≤ k → w < ws.length → (tg (wThen ws l) w = true ↔ ∀ d ∈ L w, tg l d = true)
  | 0, w, h1, h2 => by omega
  | k + 1, w, h1, h2 => by
    have C := hL w h2
    have hw : w ∈ L w := List.mem_of_getElem? C.head
    have low : ∀ x ∈ L w, w ≤ x := fun x hx => by
      obtain ⟨i, hi, e⟩ := List.getElem_of_mem hx
      cases i with
      | zero =>
        have := C.head
        rw [List.getElem?_eq_getElem hi, e] at this
        cases this; exact Nat.le_refl _
      | succ i =>
        have r := List.pairwise_iff_getElem.mp C.rise 0 (i + 1) (by omega) hi (Nat.succ_pos _)
        have h0 := C.head
        rw [List.getElem?_eq_getElem (by omega)] at h0
        rw [Option.some.inj h0, e] at r
        omega
    constructor
    · intro ht
      have : ∀ m d, d ≤ m → d ∈ L w → tg (wThen ws l) d = true := by
        intro m
        induction m with
        | zero =>
          intro d hd hm
          have := low d hm
          have : d = w := by omega
          rw [this]; exact ht
        | succ m ih =>
          intro d hd hm
          have := low d hm
          by_cases e : d = w
          · rw [e]; exact ht
          · have hlt := C.low d hm
            obtain ⟨j, ej, hj⟩ := (C.mem d (by omega) hlt).mp hm
            obtain ⟨j', ej', lj⟩ := (hg d ws[d] (List.getElem?_eq_getElem hlt)).2 (by omega)
            have : bef ws d = some j' := by unfold bef; rw [List.getElem?_eq_getElem hlt]; exact ej'
            rw [← Option.some.inj (this.symm.trans ej)] at hj
            exact ((wThen_iff hg hl j').mp (ih j' (by omega) hj)).2 d hlt this
      exact fun d hd => ((wThen_iff hg hl d).mp (this d d (Nat.le_refl _) hd)).1
    · intro h
      refine (wThen_iff hg hl w).mpr ⟨h w hw, fun n hn eb => ?_⟩
      obtain ⟨j', ej', lj⟩ := (hg n ws[n] (List.getElem?_eq_getElem hn)).2 (by
        rcases Nat.eq_zero_or_pos n with z | z
        · subst z
          exfalso
          have z := (hg 0 ws[0] (List.getElem?_eq_getElem hn)).1 rfl
          unfold bef at eb
          rw [List.getElem?_eq_getElem hn] at eb
          have eb' : ws[0].1 = some w := eb
          rw [z] at eb'; cases eb'
        · exact z)
      have ebn : bef ws n = some j' := by unfold bef; rw [List.getElem?_eq_getElem hn]; exact ej'
      rw [eb] at ebn; cases ebn
      have hnw : n ∈ L w := (C.mem n lj hn).mpr ⟨w, eb, hw⟩
      refine (wThen_all hg hl L hL k n (by omega) hn).mpr fun d hd => h d ?_
      have Cn := hL n hn
      have lown : ∀ x ∈ L n, n ≤ x := fun x hx => by
        obtain ⟨i, hi, e⟩ := List.getElem_of_mem hx
        cases i with
        | zero =>
          have := Cn.head
          rw [List.getElem?_eq_getElem hi, e] at this
          cases this; exact Nat.le_refl _
        | succ i =>
          have r := List.pairwise_iff_getElem.mp Cn.rise 0 (i + 1) (by omega) hi (Nat.succ_pos _)
          have h0 := Cn.head
          rw [List.getElem?_eq_getElem (by omega)] at h0
          rw [Option.some.inj h0, e] at r
          omega
      have : ∀ m d, d ≤ m → d ∈ L n → d ∈ L w := by
        intro m
        induction m with
        | zero =>
          intro d hd hm
          have := lown d hm
          have : d = n := by omega
          rw [this]; exact hnw
        | succ m ih =>
          intro d hd hm
          have := lown d hm
          by_cases e : d = n
          · rw [e]; exact hnw
          · have hlt := Cn.low d hm
            obtain ⟨j, ej, hj⟩ := (Cn.mem d (by omega) hlt).mp hm
            obtain ⟨j', ej', lj'⟩ := (hg d ws[d] (List.getElem?_eq_getElem hlt)).2 (by omega)
            have eb' : bef ws d = some j' := by unfold bef; rw [List.getElem?_eq_getElem hlt]; exact ej'
            rw [← Option.some.inj (eb'.symm.trans ej)] at hj
            exact (C.mem d (by omega) hlt).mpr ⟨j', eb', ih j' (by omega) hj⟩
      exact this d d (Nat.le_refl _) hd
end Ken
set_option Elab.async false
set_option linter.all false
set_option maxRecDepth 100000
set_option maxHeartbeats 2000000
namespace L2
open PySem PySem.Spec PyProof.Rows
theorem tFor_of {wi : TI} {g : TG} {tb : TS} {D : Ends} {σ : St} {H : Hp} (h : wi σ H fun J H1 => ∃ W : Nat → Nat → St → Hp → Prop, (∃ m, W 0 m σ H1) ∧ ∀ i m σ H, W i m σ H →
  (J.stop i H ∧ D.nx σ H) ∨ (J.go i H ∧ ∃ N : St → Hp → Prop, (∀ σ' H', N σ' H' → ∃ m', m' < m ∧ W (i + 1) m' σ' H') ∧ ∀ x H', J.yld i H x H' → g x σ H' fun σ2 H2 => tb { D with nx := N, ct := N, bk := D.nx } σ2 H2)) : tFor wi g tb D σ H := h
theorem for_listT {K : PySem.W.Frag} {a : Addr} {xs : List V} {tl : TE} {g : TG} {tb : TS} {D : Ends} {σ : St} {H : Hp} (ht : ∀ Q : VK, Q (.ref a) H → tl σ H Q) (Pv : Nat → St → Hp → Prop) (h0 : Pv 0 σ H) (hl : ∀ i σ H, i ≤ xs.length → Pv i σ H → SqL K H a xs)
    (hs : ∀ i x σ H, xs[i]? = some x → Pv i σ H → g x σ H fun σ2 H2 => tb { D with nx := Pv (i + 1), ct := Pv (i + 1), bk := D.nx } σ2 H2) (hd : ∀ σ H, Pv xs.length σ H → D.nx σ H) : tFor (iList K tl) g tb D σ H :=
  ht _ ⟨a, rfl, ⟨xs, hl 0 σ H (Nat.zero_le _) h0⟩, for_list Pv h0 hl hs hd⟩
theorem lcW_zip {K : PySem.W.Frag} {σ0 : St} {a b : Addr} {xs ys : List V} {acc : Addr} {g : TG} {te : TE} {Q : VK} {H : Hp} (Pv : Nat → List V → Hp → Prop) (hxy : xs.length = ys.length) (h0 : Pv 0 [] (upd H acc (.lst []))) (hl : ∀ i zs H2, i ≤ xs.length → Pv i zs H2 → H2 acc = some (.lst zs) ∧ zs.length < sizeLine ∧ SqL K H2 a xs ∧ SqL K H2 b ys)
    (hs : ∀ i x y zs H2 T, xs[i]? = some x → ys[i]? = some y → H2 T = none → Pv i zs H2 → ∀ C : VK, (∀ z H5, H5 acc = some (.lst zs) → Pv (i + 1) (zs ++ [z]) (upd H5 acc (.lst (zs ++ [z]))) → C z H5) → g (.ref T) σ0 (upd H2 T (.tup [x, y])) fun σ4 H4 => Wk σ0 σ4 ∧ te σ4 H4 C) (hd : ∀ zs H2, Pv xs.length zs H2 → Q (.ref acc) H2) :
    ∃ W : Nat → Nat → List V → Hp → Prop, (∃ m, W 0 m [] (upd H acc (.lst []))) ∧ lcW K σ0 (Itz K a b) acc g te Q W := by
  refine ⟨fun i m zs H2 => m = xs.length - i ∧ i ≤ xs.length ∧ Pv i zs H2, ⟨xs.length, by simp, Nat.zero_le _, h0⟩, ?_⟩
  rintro i m zs H2 ⟨rfl, hi, p⟩
  obtain ⟨e1, e2, q1, q2⟩ := hl i zs H2 hi p
  refine ⟨e1, e2, ?_⟩
  by_cases hlt : i < xs.length
  · refine .inr ⟨⟨xs, ys, xs[i], ys[i], q1, q2, by simp [hlt], by simp [hxy ▸ hlt]⟩, fun v H3 z => ?_⟩
    obtain ⟨T, x, y, rfl, hT, rfl, z1, z2⟩ := z
    exact hs i x y zs H2 T (z1 xs q1) (z2 ys q2) hT p _ fun v H5 z1 z2 => ⟨z1, xs.length - (i + 1), by omega, rfl, hlt, z2⟩
  · have e : i = xs.length := by omega
    subst e
    exact .inl ⟨⟨xs, ys, q1, q2, .inl (Nat.le_refl _)⟩, hd zs H2 p⟩
end L2
namespace Ken
open PySem L2
theorem ixN_nat {n j : Nat} (h : j < n) : ixN n (j : Int) = some j := by
  unfold ixN
  simp
  omega
abbrev bls (l : List Bool) : List V := l.map V.bl
theorem take_snoc {α : Type} {l : List α} {i : Nat} {x : α} (h : l[i]? = some x) : l.take (i + 1) = l.take i ++ [x] := by
  rw [List.take_add_one, h]; rfl
theorem lcW_zipB {K : PySem.W.Frag} {σ0 : St} {a b acc : Addr} {g : TG} {te : TE} {Q : VK} {H : Hp} {as bs : List Bool} (f : Bool → Bool → Bool) (hab : as.length = bs.length) (hn : as.length ≤ 3000) (ha : SqL K H a (bls as)) (hb : SqL K H b (bls bs)) (hacc : H acc = none)
    (hs : ∀ x y T H2 (C : VK), SqT K H2 T [.bl x, .bl y] → C (.bl (f x y)) H2 → g (.ref T) σ0 H2 fun σ4 H4 => Wk σ0 σ4 ∧ te σ4 H4 C)
    (hd : ∀ H2, Same H H2 → H2 acc = some (.lst (bls (List.zipWith f as bs))) → Q (.ref acc) H2) :
    ∃ W : Nat → Nat → List V → Hp → Prop, (∃ m, W 0 m [] (upd H acc (.lst []))) ∧ lcW K σ0 (Itz K a b) acc g te Q W := by
  have l1 : (bls as).length = as.length := List.length_map _
  have lz : (List.zipWith f as bs).length = as.length := by rw [List.length_zipWith, hab, Nat.min_self]
  refine lcW_zip (xs := bls as) (ys := bls bs) (fun i zs H2 => Same H H2 ∧ H2 acc = some (.lst zs) ∧ zs = bls ((List.zipWith f as bs).take i)) (by rw [List.length_map, List.length_map, hab]) ⟨same_new hacc _, upd_same, rfl⟩ (fun i zs H2 hi ⟨e, h, z⟩ => ⟨h, ?_, e.seq ha, e.seq hb⟩) (fun i x y zs H2 T hx hy hT ⟨e, h, z⟩ C hC => ?_) (fun zs H2 ⟨e, h, z⟩ => hd H2 e ?_)
  · rw [z, List.length_map, List.length_take]
    exact small1M (by omega)
  · rw [List.getElem?_map] at hx hy
    cases ea : as[i]? with
    | none => rw [ea] at hx; cases hx
    | some u =>
      cases eb : bs[i]? with
      | none => rw [eb] at hy; cases hy
      | some v =>
        rw [ea] at hx; rw [eb] at hy
        cases hx; cases hy
        have sT := same_new hT (HO.tup [.bl u, .bl v])
        refine hs u v T _ C (.inl (.inl upd_same)) (hC _ _ (sT _ _ h) ⟨?_, upd_same, ?_⟩)
        · exact (e.trans sT).write hacc
        · rw [z, take_snoc (x := f u v) (by rw [List.getElem?_zipWith, ea, eb])]
          exact (List.map_append (f := V.bl) (l₁ := List.take i (List.zipWith f as bs)) (l₂ := [f u v])).symm
  · rw [h, z, l1, ← lz, List.take_length]
def wd2 (ws : List Wd) (m : Nat) : List Str := (ws[m]?.map (·.2)).getD []
def wl (n : Nat) (ws : List Wd) (i : Nat) (hs : List Str) (x : Str) : List Bool := (List.range n).map fun m => if m < i then decide (x ∈ wd2 ws m) else if m = i then decide (x ∈ hs) else false
theorem wl_get {n : Nat} {ws : List Wd} {i : Nat} {hs : List Str} {x : Str} (m : Nat) : (wl n ws i hs x)[m]? = if m < n then some (if m < i then decide (x ∈ wd2 ws m) else if m = i then decide (x ∈ hs) else false) else none := by
  unfold wl
  rw [List.getElem?_map]
  by_cases h : m < n
  · rw [if_pos h, List.getElem?_range h]; rfl
  · rw [if_neg h, List.getElem?_eq_none (by rw [List.length_range]; omega)]; rfl
theorem wl_len {n : Nat} {ws : List Wd} {i : Nat} {hs : List Str} {x : Str} : (wl n ws i hs x).length = n := by unfold wl; rw [List.length_map, List.length_range]
theorem wl_zero {n : Nat} {ws : List Wd} {x : Str} : wl n ws 0 [] x = List.replicate n false := by
  refine List.ext_getElem? fun m => ?_
  rw [wl_get, List.getElem?_replicate]
  by_cases h : m < n
  · rw [if_pos h, if_pos h, if_neg (Nat.not_lt_zero _)]
    by_cases e : m = 0
    · rw [if_pos e]; rfl
    · rw [if_neg e]
  · rw [if_neg h, if_neg h]
theorem wl_set {n : Nat} {ws : List Wd} {i : Nat} {hs : List Str} {x : Str} (hi : i < n) : (wl n ws i hs x).set i true = wl n ws i (hs ++ [x]) x := by
  refine List.ext_getElem? fun m => ?_
  rw [List.getElem?_set, wl_get, wl_get, wl_len]
  by_cases e : i = m
  · subst e
    rw [if_pos rfl, if_pos hi, if_pos hi, if_neg (Nat.lt_irrefl _), if_pos rfl, decide_eq_true (show x ∈ hs ++ [x] by simp)]
  · rw [if_neg e, if_neg (show ¬ m = i from fun z => e z.symm), if_neg (show ¬ m = i from fun z => e z.symm)]
theorem wl_other {n : Nat} {ws : List Wd} {i : Nat} {hs : List Str} {x y : Str} (h : x ≠ y) : wl n ws i (hs ++ [y]) x = wl n ws i hs x := by
  unfold wl
  congr 1
  funext m
  have : decide (x ∈ hs ++ [y]) = decide (x ∈ hs) := decide_eq_decide.mpr (by simp [h])
  rw [this]
theorem wl_next {n : Nat} {ws : List Wd} {i : Nat} {x : Str} : wl n ws (i + 1) [] x = wl n ws i (wd2 ws i) x := by
  unfold wl
  congr 1
  funext m
  by_cases h1 : m < i
  · rw [if_pos (show m < i + 1 by omega), if_pos h1]
  · by_cases h2 : m = i
    · subst h2
      rw [if_pos (Nat.lt_succ_self _), if_neg h1, if_pos rfl]
    · rw [if_neg (show ¬ m < i + 1 by omega), if_neg h1, if_neg h2]
      by_cases h3 : m = i + 1
      · rw [if_pos h3]; rfl
      · rw [if_neg h3]
theorem wl_end {ws : List Wd} {x : Str} : wl ws.length ws ws.length [] x = tr ws (.ltr x) := by
  refine List.ext_getElem? fun m => ?_
  show _ = (ws.map fun w => decide (x ∈ w.2))[m]?
  rw [wl_get, List.getElem?_map]
  by_cases h : m < ws.length
  · rw [if_pos h, if_pos h, List.getElem?_eq_getElem h]
    unfold wd2
    rw [List.getElem?_eq_getElem h]; rfl
  · rw [if_neg h, List.getElem?_eq_none (by omega)]; rfl
def sp_whereL (K : PySem.W.Frag) : Sp := fun vs H Q _ => ∃ (wa la : Addr) (xs : List V) (ws : List Wd) (ls : List Str), vs = [.ref wa, .ref la] ∧ H wa = some (.lst xs) ∧ AtWs K H xs ws ∧ ws.length ≤ 2000 ∧ SqL K H la (ls.map V.str) ∧ ls.Nodup ∧ ls.length ≤ 1000 ∧
  ∀ (d : Addr) (H' : Hp) (kvs : List (Key × V)) (ad : Str → Addr), Same H H' → H d = none → H' d = some (.dK kvs) → (∀ x ∈ ls, valV kvs (Sum.inr x) = some (.ref (ad x)) ∧ H (ad x) = none ∧ H' (ad x) = some (.lst (bls (tr ws (.ltr x))))) → Q (.ref d) H'
def sp_whereT (K : PySem.W.Frag) : Sp := fun vs H Q _ => ∃ (wa x y : Addr) (xs : List V) (ws : List Wd) (as bs : List Bool), vs = [.ref wa, .ref x, .ref y] ∧ H wa = some (.lst xs) ∧ AtWs K H xs ws ∧ goodB ws ∧ ws.length ≤ 2000 ∧ H x = some (.lst (bls as)) ∧ H y = some (.lst (bls bs)) ∧ as.length = ws.length ∧ bs.length = ws.length ∧
  ∀ (r : Addr) (H' : Hp), Same H H' → H r = none → H' r = some (.lst (bls (wThen ws (ifs as bs)))) → Q (.ref r) H'
def sp_of1L (K : PySem.W.Frag) (H0 : Hp) (A : Addr → Prop) (G : Tm → Prop) (tv : Tm → List Bool) : Sp := fun vs H Q _ => ∃ (v : V) (t : Tm), vs = [v] ∧ Same H0 H ∧ IsT K H v t ∧ t.kids = [] ∧ G t ∧ ∀ (a : Addr) (H' : Hp), Same H H' → H' a = some (.lst (bls (tv t))) → (A a ∨ H a = none) → Q (.ref a) H'
def sp_of2L (H0 : Hp) (tv : Tm → List Bool) : Sp := fun vs H Q _ => ∃ (k : Kd) (a b : Tm) (x y : Addr), vs = [.str k.str, .ref x, .ref y] ∧ Same H0 H ∧ H x = some (.lst (bls (tv a))) ∧ H y = some (.lst (bls (tv b))) ∧
  ∀ (r : Addr) (H' : Hp), Same H H' → H r = none → H' r = some (.lst (bls (tv (.nd k a b)))) → Q (.ref r) H'
def sp_foldedL (K : PySem.W.Frag) (H0 : Hp) (A : Addr → Prop) (G : Tm → Prop) (tv : Tm → List Bool) (fs fp : Addr) : Sp := fun vs H Q _ => ∃ (v : V) (t : Tm), vs = [v, .ref fs, .ref fp] ∧ H = H0 ∧ IsT K H v t ∧ (∀ s ∈ t.pre, s.kids = [] → G s) ∧ t.parts ≤ 400 ∧
  ∀ (a : Addr) (H' : Hp), Same H H' → H' a = some (.lst (bls (tv t))) → (A a ∨ H a = none) → Q (.ref a) H'
def sp_known (K : PySem.W.Frag) (T : Addr) (ds : List (Pos × Str)) : Sp := fun vs H Q _ => ∃ (wa : Addr) (v : V) (t : Tm) (xs : List V) (ws : List Wd) (us : List Str), vs = [.ref wa, v] ∧ H wa = some (.lst xs) ∧ AtWs K H xs ws ∧ goodB ws ∧ ws.length ≤ 2000 ∧ IsT K H v t ∧ t.ok ∧ t.parts ≤ 300 ∧ t.inW us ∧ us.length ≤ 40 ∧ TabOk H T ds ∧
  ∀ (r : Addr) (H' : Hp), SameU T H H' → TabOk H' T ds → H r = none → H' r = some (.lst (bls (tr ws t))) → Q (.ref r) H'
end Ken
set_option Elab.async false
set_option linter.all false
set_option maxRecDepth 100000
set_option maxHeartbeats 2000000
namespace Ken
open PySem L2
def lat (ws : List Wd) (w : Nat) : List Nat := latN ws w (ws.length - (w + 1))
def sp_laterL (K : PySem.W.Frag) : Sp := fun vs H Q _ => ∃ (a : Addr) (xs : List V) (ws : List Wd) (w : Nat), vs = [.ref a, .int (w : Nat)] ∧ H a = some (.lst xs) ∧ AtWs K H xs ws ∧ goodB ws ∧ w < ws.length ∧ ws.length ≤ 900 ∧
  ∀ (r : Addr) (H' : Hp), Same H H' → H r = none → H' r = some (.lst (natsV (lat ws w))) → Q (.ref r) H'
def sp_truths : Sp := fun vs H Q _ => ∃ (l : Addr) (bs : List Bool), vs = [.ref l, .int (bs.length : Nat)] ∧ H l = some (.lst (bls bs)) ∧ bs.length ≤ 3000 ∧ ∀ H', Same H H' → Q (.bl true) H'
theorem bls_at {l : List Bool} {n : Nat} (h : n < l.length) : atI (bls l) (n : Int) = some (.bl (tg l n)) := atI_nat (by
  rw [List.getElem?_map, List.getElem?_eq_getElem h]
  show some (V.bl l[n]) = some (V.bl (tg l n))
  unfold tg
  rw [List.getElem?_eq_getElem h]; rfl)
theorem tg_zip {f : Bool → Bool → Bool} {as bs : List Bool} {n : Nat} (h1 : n < as.length) (h2 : n < bs.length) : tg (List.zipWith f as bs) n = f (tg as n) (tg bs n) := by
  unfold tg
  rw [List.getElem?_zipWith, List.getElem?_eq_getElem h1, List.getElem?_eq_getElem h2]; rfl
theorem tg_map {ws : List Wd} {f : Wd → Bool} {n : Nat} {x : Wd} (h : ws[n]? = some x) : tg (ws.map f) n = f x := by
  unfold tg
  rw [List.getElem?_map, h]; rfl
end Ken
namespace Ken
open PySem L2
theorem AtWs.keepU {K : PySem.W.Frag} {T : Addr} {H H' : Hp} (e : SameU T H H') {vs : List V} {ws : List Wd} (h : AtWs K H vs ws) : AtWs K H' vs ws := Paired.mapP h fun _ _ ⟨p, q, e1, h1, h2⟩ => ⟨p, q, e1, SameT.keepT e.toT _ _ h1, e.toT _ _ (fun _ z => nomatch z) h2⟩
theorem bools_dn {K : PySem.W.Frag} {H : Hp} : ∀ L : List Bool, DnAll K H (bls L) (L.map PyData.bool)
  | [] => by show DnAll K H [] []; rw [DnAll]
  | n :: L => by
    show DnAll K H (.bl n :: bls L) (.bool n :: L.map PyData.bool)
    rw [DnAll]
    exact ⟨_, _, rfl, by rw [Dn], bools_dn L⟩
theorem bools_lay (L : List Bool) : (PyData.list (L.map PyData.bool)).canLay0 = true := canLay_list fun d hd => by
  obtain ⟨n, _, rfl⟩ := List.mem_map.mp hd
  rfl
theorem bools_self (L : List Bool) : PyData.eqv (.list (L.map PyData.bool)) (.list (L.map PyData.bool)) = true := eqvAll_self fun d hd => by
  obtain ⟨n, _, rfl⟩ := List.mem_map.mp hd
  cases n <;> rfl
theorem bools_depth (L : List Bool) : (PyData.list (L.map PyData.bool)).depth ≤ 1 := depth_list (n := 0) fun d hd => by
  obtain ⟨n, _, rfl⟩ := List.mem_map.mp hd
  exact Nat.le_refl _
theorem TabOk.write {H : Hp} {P : Addr} {ds : List (Pos × Str)} {l : Addr} {xs : List V} {o : HO} (h : TabOk H P ds) (hl : H l = some (.lst xs)) : TabOk (upd H l o) P ds := by
  obtain ⟨ps, h1, h2, h3⟩ := h
  refine ⟨ps, by rw [upd_ne (ne_of h1 hl (fun z => nomatch z))]; exact h1, h2, fun d hd cv e => ?_⟩
  obtain ⟨c, ob, vs, t, g1, g2, g3, g4⟩ := h3 d hd cv e
  exact ⟨c, ob, vs, t, g1, by rw [upd_ne (ne_of g2 hl (fun z => nomatch z))]; exact g2, g3, g4⟩
def Told (ws : List Wd) (B H : Hp) (lt : Addr) (r : V) (s : Tm) : Prop := ∃ a, r = .ref a ∧ a ≠ lt ∧ B a = none ∧ H a = some (.lst (bls (tr ws s)))
theorem Told.keepU {ws : List Wd} {T : Addr} {B H H' : Hp} {lt : Addr} {r : V} {s : Tm} (e : SameU T H H') (h : Told ws B H lt r s) : Told ws B H' lt r s := by
  obtain ⟨a, h1, h2, h3, h4⟩ := h
  exact ⟨a, h1, h2, h3, e.toT _ _ (fun _ z => nomatch z) h4⟩
theorem Told.write {ws : List Wd} {B H : Hp} {lt : Addr} {r : V} {s : Tm} {o : HO} (h : Told ws B H lt r s) : Told ws B (upd H lt o) lt r s := by
  obtain ⟨a, h1, h2, h3, h4⟩ := h
  exact ⟨a, h1, h2, h3, by rw [upd_ne h2]; exact h4⟩
end Ken
set_option Elab.async false
set_option linter.all false
set_option maxRecDepth 100000
set_option maxHeartbeats 2000000
namespace Ken
open PySem L2
def persB (ws : List Wd) : Prop := ∀ (n : Nat) (x : Wd), ws[n]? = some x → ∀ j : Nat, x.1 = some j → ∀ y : Wd, ws[j]? = some y → ∀ z ∈ y.2, z ∈ x.2
def sp_someP (K : PySem.W.Frag) : Sp := fun vs H Q _ => ∃ (c : Int) (a wa : Addr) (os ws : List Str), vs = [.int c, .ref a, .ref wa] ∧ SqL K H a (os.map V.str) ∧ SqL K H wa (ws.map V.str) ∧ Words ws ∧ os.Nodup ∧ (∀ y ∈ os, y ∈ ws) ∧
  ∀ (r : Addr) (H' : Hp) (out : List Str), Same H H' → H r = none → H' r = some (.lst (out.map V.str)) → out.Nodup → (∀ y ∈ out, y ∈ ws) → (∀ y ∈ os, y ∈ out) → Q (.ref r) H'
def sp_worldsP (K : PySem.W.Frag) : Sp := fun vs H Q _ => ∃ (a : Addr) (ns : List Int) (start most : Int) (wa : Addr) (us : List Str), vs = [.ref a, .int start, .int most, .ref wa] ∧ SqL K H a (ns.map V.int) ∧ ns.length ≤ 63 ∧ 0 ≤ start ∧ start ≤ 100 ∧ 1 ≤ most ∧ most ≤ 100 ∧ SqL K H wa (us.map V.str) ∧ Words us ∧
  ∀ (r : Addr) (H' : Hp) (vs : List V) (ws : List Wd), Same H H' → H r = none → H' r = some (.lst vs) → AtWs K H' vs ws → goodB ws → persB ws → inWs us ws → 1 ≤ ws.length → (ws.length : Int) ≤ most → Q (.ref r) H'
theorem bef_lt {ws : List Wd} (hg : goodB ws) {n j : Nat} (h : bef ws n = some j) : n < ws.length ∧ j < n := by
  unfold bef at h
  cases e : ws[n]? with
  | none => rw [e] at h; cases h
  | some x =>
    rw [e] at h
    have h' : x.1 = some j := h
    have hn := (List.getElem?_eq_some_iff.mp e).1
    refine ⟨hn, ?_⟩
    rcases Nat.eq_zero_or_pos n with z | z
    · subst z
      rw [(hg 0 x e).1 rfl] at h'; cases h'
    · obtain ⟨k, ek, lk⟩ := (hg n x e).2 z
      rw [ek] at h'; cases h'; exact lk
theorem stays {ws : List Wd} (hg : goodB ws) (hp : persB ws) : ∀ (t : Tm) {n j : Nat}, bef ws n = some j → tg (tr ws t) j = true → tg (tr ws t) n = true
  | .low, n, j, hb, h => by
    obtain ⟨h1, h2⟩ := bef_lt hg hb
    rw [show tr ws .low = ws.map fun _ => false from rfl, tg_map (List.getElem?_eq_getElem (show j < ws.length by omega))] at h
    cases h
  | .ltr x, n, j, hb, h => by
    obtain ⟨h1, h2⟩ := bef_lt hg hb
    have hj : j < ws.length := by omega
    rw [show tr ws (.ltr x) = ws.map fun w => decide (x ∈ w.2) from rfl, tg_map (List.getElem?_eq_getElem hj)] at h
    rw [show tr ws (.ltr x) = ws.map fun w => decide (x ∈ w.2) from rfl, tg_map (List.getElem?_eq_getElem h1)]
    unfold bef at hb
    rw [List.getElem?_eq_getElem h1] at hb
    exact decide_eq_true (hp n _ (List.getElem?_eq_getElem h1) j hb _ (List.getElem?_eq_getElem hj) x (of_decide_eq_true h))
  | .nd .both a b, n, j, hb, h => by
    obtain ⟨h1, h2⟩ := bef_lt hg hb
    have la := tr_len ws a
    have lb := tr_len ws b
    rw [show tr ws (.nd .both a b) = List.zipWith and (tr ws a) (tr ws b) from rfl, tg_zip (by omega) (by omega), Bool.and_eq_true] at h ⊢
    exact ⟨stays hg hp a hb h.1, stays hg hp b hb h.2⟩
  | .nd .one a b, n, j, hb, h => by
    obtain ⟨h1, h2⟩ := bef_lt hg hb
    have la := tr_len ws a
    have lb := tr_len ws b
    rw [show tr ws (.nd .one a b) = List.zipWith or (tr ws a) (tr ws b) from rfl, tg_zip (by omega) (by omega), Bool.or_eq_true] at h ⊢
    exact h.imp (stays hg hp a hb) (stays hg hp b hb)
  | .nd .thn a b, n, j, hb, h => by
    have li : (ifs (tr ws a) (tr ws b)).length = ws.length := by unfold ifs; rw [List.length_zipWith, tr_len, tr_len, Nat.min_self]
    exact ((wThen_iff hg li j).mp h).2 n (bef_lt hg hb).1 hb
theorem tr_not {ws : List Wd} (hg : goodB ws) (t : Tm) {n : Nat} (hn : n < ws.length) (h : tg (tr ws (.nd .thn t .low)) n = true) : tg (tr ws t) n = false := by
  have li : (ifs (tr ws t) (tr ws .low)).length = ws.length := by unfold ifs; rw [List.length_zipWith, tr_len, tr_len, Nat.min_self]
  have h1 := ((wThen_iff hg li n).mp h).1
  have la := tr_len ws t
  have lb := tr_len ws .low
  rw [show ifs (tr ws t) (tr ws .low) = List.zipWith (fun x y => !x || y) (tr ws t) (tr ws .low) from rfl, tg_zip (by omega) (by omega), show tg (tr ws .low) n = false from tg_map (List.getElem?_eq_getElem hn)] at h1
  cases z : tg (tr ws t) n with
  | false => rfl
  | true => rw [z] at h1; cases h1
theorem tr_twice {ws : List Wd} (hg : goodB ws) (hp : persB ws) (hl : ws.length ≤ 900) (t : Tm) {n : Nat} (hn : n < ws.length) (h : tg (tr ws t) n = true) : tg (tr ws (.nd .thn (.nd .thn t .low) .low)) n = true := by
  have li : (ifs (tr ws (.nd .thn t .low)) (tr ws .low)).length = ws.length := by unfold ifs; rw [List.length_zipWith, tr_len, tr_len, Nat.min_self]
  have C : ∀ v, v < ws.length → Closed ws v (lat ws v) := fun v hv => latN_closed hg hv hl
  refine (wThen_all hg li (lat ws) C (ws.length - n) n (Nat.le_refl _) hn).mpr fun d hd => ?_
  have dl := (C n hn).low d hd
  have st : ∀ m d, d ≤ m → d ∈ lat ws n → tg (tr ws t) d = true := by
    intro m
    induction m with
    | zero =>
      intro d h0 hd
      have := latN_le _ d hd
      have : d = n := by omega
      rw [this]; exact h
    | succ m ih =>
      intro d h0 hd
      have := latN_le _ d hd
      by_cases e : d = n
      · rw [e]; exact h
      · obtain ⟨j, ej, hj⟩ := ((C n hn).mem d (by omega) ((C n hn).low d hd)).mp hd
        have := (bef_lt hg ej).2
        exact stays hg hp t ej (ih j (by omega) hj)
  have ht := st d d (Nat.le_refl _) hd
  have la := tr_len ws (.nd .thn t .low)
  have lb := tr_len ws .low
  rw [show ifs (tr ws (.nd .thn t .low)) (tr ws .low) = List.zipWith (fun x y => !x || y) (tr ws (.nd .thn t .low)) (tr ws .low) from rfl, tg_zip (by omega) (by omega)]
  cases z : tg (tr ws (.nd .thn t .low)) d with
  | false => rfl
  | true => rw [tr_not hg t dl z] at ht; cases ht
structure Sub (ws ws' : List Wd) (L : List Nat) : Prop where
  len : ws'.length = L.length
  low : ∀ n ∈ L, n < ws.length
  nd : L.Nodup
  ltr : ∀ (i n : Nat) (x y : Wd), L[i]? = some n → ws[n]? = some x → ws'[i]? = some y → y.2 = x.2
  bef : ∀ (i k n m : Nat), L[i]? = some n → L[k]? = some m → (bef ws' k = some i ↔ bef ws m = some n)
  up : ∀ (i n m : Nat), L[i]? = some n → Ken.bef ws m = some n → m ∈ L
theorem sub_then {ws ws' : List Wd} {L : List Nat} (S : Sub ws ws' L) (hg : goodB ws) (hg' : goodB ws') {l l' : List Bool} (hl : l.length = ws.length) (hl' : l'.length = ws'.length) (h : ∀ i n, L[i]? = some n → tg l' i = tg l n) : ∀ k i n, ws'.length - i ≤ k → L[i]? = some n → tg (wThen ws' l') i = tg (wThen ws l) n
  | 0, i, n, h1, h2 => by
    have := (List.getElem?_eq_some_iff.mp h2).1
    have := S.len
    omega
  | k + 1, i, n, h1, h2 => by
    have hi : i < L.length := (List.getElem?_eq_some_iff.mp h2).1
    have hlen := S.len
    rw [Bool.eq_iff_iff, wThen_iff hg' hl' i, wThen_iff hg hl n, h i n h2]
    refine and_congr Iff.rfl ⟨fun hh m hm eb => ?_, fun hh m' hm' eb => ?_⟩
    · obtain ⟨j, hj, ej⟩ := List.getElem_of_mem (S.up i n m h2 eb)
      have hjL : L[j]? = some m := by rw [List.getElem?_eq_getElem hj, ej]
      have eb' := (S.bef i j n m h2 hjL).mpr eb
      have lt := (bef_lt hg' eb').2
      rw [← sub_then S hg hg' hl hl' h k j m (by omega) hjL]
      exact hh j (by omega) eb'
    · have hm2 : m' < L.length := by omega
      have hmL : L[m']? = some L[m'] := List.getElem?_eq_getElem hm2
      have eb' := (S.bef i m' n _ h2 hmL).mp eb
      have lt := (bef_lt hg' eb).2
      rw [sub_then S hg hg' hl hl' h k m' _ (by omega) hmL]
      exact hh _ (S.low _ (List.mem_of_getElem? hmL)) eb'
theorem sub_tr {ws ws' : List Wd} {L : List Nat} (S : Sub ws ws' L) (hg : goodB ws) (hg' : goodB ws') : ∀ (t : Tm) (i n : Nat), L[i]? = some n → tg (tr ws' t) i = tg (tr ws t) n
  | .low, i, n, h => by
    have hi : i < ws'.length := by rw [S.len]; exact (List.getElem?_eq_some_iff.mp h).1
    have hn := S.low n (List.mem_of_getElem? h)
    rw [show tg (tr ws' .low) i = false from tg_map (List.getElem?_eq_getElem hi), show tg (tr ws .low) n = false from tg_map (List.getElem?_eq_getElem hn)]
  | .ltr x, i, n, h => by
    have hi : i < ws'.length := by rw [S.len]; exact (List.getElem?_eq_some_iff.mp h).1
    have hn := S.low n (List.mem_of_getElem? h)
    rw [show tg (tr ws' (.ltr x)) i = decide (x ∈ ws'[i].2) from tg_map (List.getElem?_eq_getElem hi), show tg (tr ws (.ltr x)) n = decide (x ∈ ws[n].2) from tg_map (List.getElem?_eq_getElem hn), S.ltr i n _ _ h (List.getElem?_eq_getElem hn) (List.getElem?_eq_getElem hi)]
  | .nd .both a b, i, n, h => by
    have hi : i < ws'.length := by rw [S.len]; exact (List.getElem?_eq_some_iff.mp h).1
    have hn := S.low n (List.mem_of_getElem? h)
    have l1 := tr_len ws a; have l2 := tr_len ws b; have l3 := tr_len ws' a; have l4 := tr_len ws' b
    show tg (List.zipWith and _ _) i = tg (List.zipWith and _ _) n
    rw [tg_zip (by omega) (by omega), tg_zip (by omega) (by omega), sub_tr S hg hg' a i n h, sub_tr S hg hg' b i n h]
  | .nd .one a b, i, n, h => by
    have hi : i < ws'.length := by rw [S.len]; exact (List.getElem?_eq_some_iff.mp h).1
    have hn := S.low n (List.mem_of_getElem? h)
    have l1 := tr_len ws a; have l2 := tr_len ws b; have l3 := tr_len ws' a; have l4 := tr_len ws' b
    show tg (List.zipWith or _ _) i = tg (List.zipWith or _ _) n
    rw [tg_zip (by omega) (by omega), tg_zip (by omega) (by omega), sub_tr S hg hg' a i n h, sub_tr S hg hg' b i n h]
  | .nd .thn a b, i, n, h => by
    have l1 := tr_len ws a; have l2 := tr_len ws b; have l3 := tr_len ws' a; have l4 := tr_len ws' b
    have li : (ifs (tr ws a) (tr ws b)).length = ws.length := by unfold ifs; rw [List.length_zipWith, l1, l2, Nat.min_self]
    have li' : (ifs (tr ws' a) (tr ws' b)).length = ws'.length := by unfold ifs; rw [List.length_zipWith, l3, l4, Nat.min_self]
    refine sub_then S hg hg' li li' (fun j m hj => ?_) _ i n (Nat.le_refl _) h
    have hi : j < ws'.length := by rw [S.len]; exact (List.getElem?_eq_some_iff.mp hj).1
    have hn := S.low m (List.mem_of_getElem? hj)
    show tg (List.zipWith _ _ _) j = tg (List.zipWith _ _ _) m
    rw [tg_zip (by omega) (by omega), tg_zip (by omega) (by omega), sub_tr S hg hg' a j m hj, sub_tr S hg hg' b j m hj]
def sp_later2 (K : PySem.W.Frag) : Sp := fun vs H Q _ => ∃ (a : Addr) (xs : List V) (ws : List Wd) (w : Nat), vs = [.ref a, .int (w : Nat)] ∧ H a = some (.lst xs) ∧ AtWs K H xs ws ∧ goodB ws ∧ w < ws.length ∧ ws.length ≤ 2000 ∧
  ∀ (r : Addr) (H' : Hp), Same H H' → H r = none → H' r = some (.lst (natsV (latN ws w (ws.length - (w + 1))))) → Q (.ref r) H'
def chW (f s k : Nat) : Wd := (if k = 0 then none else some (k - 1), (if f ≤ k then [("a" : Str)] else []) ++ (if s ≤ k then [("b" : Str)] else []))
def chain (f s n : Nat) : List Wd := (List.range n).map (chW f s)
theorem chain_len (f s n : Nat) : (chain f s n).length = n := by unfold chain; rw [List.length_map, List.length_range]
theorem chain_get {f s n k : Nat} (h : k < n) : (chain f s n)[k]? = some (chW f s k) := by unfold chain; rw [List.getElem?_map, List.getElem?_range h]; rfl
theorem chain_bef {f s n k : Nat} (h : k < n) : bef (chain f s n) k = if k = 0 then none else some (k - 1) := by unfold bef; rw [chain_get h]; rfl
theorem chain_snoc (f s n : Nat) : chain f s (n + 1) = chain f s n ++ [chW f s n] := by unfold chain; rw [List.range_succ, List.map_append]; rfl
theorem chain_good (f s n : Nat) : goodB (chain f s n) := fun k x hx => by
  have hk : k < n := by have := (List.getElem?_eq_some_iff.mp hx).1; rw [chain_len] at this; exact this
  rw [chain_get hk] at hx
  cases hx
  refine ⟨fun z => by show (if k = 0 then none else some (k - 1)) = none; rw [if_pos z], fun z => ⟨k - 1, by show (if k = 0 then none else some (k - 1)) = _; rw [if_neg (by omega)], by omega⟩⟩
theorem chain_lat {f s n w : Nat} : ∀ m, w + m < n → latN (chain f s n) w m = List.range' w (m + 1)
  | 0, _ => rfl
  | m + 1, h => by
    have ih := chain_lat (f := f) (s := s) (n := n) (w := w) m (by omega)
    have eg : goes (chain f s n) (latN (chain f s n) w m) (w + 1 + m) = true := by
      unfold goes
      rw [chain_bef (by omega), if_neg (by omega)]
      show decide (w + 1 + m - 1 ∈ _) = true
      rw [ih]
      exact decide_eq_true (by rw [List.mem_range'_1]; omega)
    show (if goes (chain f s n) (latN (chain f s n) w m) (w + 1 + m) = true then latN (chain f s n) w m ++ [w + 1 + m] else latN (chain f s n) w m) = _
    have cc : List.range' w ((m + 1) + 1) = List.range' w (m + 1) ++ [w + 1 * (m + 1)] := List.range'_concat
    rw [eg, if_pos rfl, ih, cc, Nat.one_mul, show w + 1 + m = w + (m + 1) by omega]
theorem chain_then {f s n : Nat} {l : List Bool} (hl : l.length = n) : ∀ j k, n - k ≤ j → k < n → (tg (wThen (chain f s n) l) k = true ↔ ∀ d, k ≤ d → d < n → tg l d = true)
  | 0, k, h1, h2 => by omega
  | j + 1, k, h1, h2 => by
    rw [wThen_iff (chain_good f s n) (by rw [chain_len]; exact hl) k]
    constructor
    · rintro ⟨a1, a2⟩ d hd hn
      by_cases e : d = k
      · rw [e]; exact a1
      · have := a2 (k + 1) (by rw [chain_len]; omega) (by rw [chain_bef (by omega), if_neg (by omega)]; rfl)
        exact (chain_then hl j (k + 1) (by omega) (by omega)).mp this d (by omega) hn
    · intro h
      refine ⟨h k (Nat.le_refl _) h2, fun m hm eb => ?_⟩
      rw [chain_len] at hm
      rw [chain_bef hm] at eb
      by_cases z : m = 0
      · rw [if_pos z] at eb; cases eb
      · rw [if_neg z] at eb
        have em : m = k + 1 := by cases eb; omega
        subst em
        exact (chain_then hl j (k + 1) (by omega) (by omega)).mpr fun d hd hn => h d (by omega) hn
def bools (n : Nat) (p : Nat → Bool) : List Bool := (List.range n).map p
theorem bools_ext {l : List Bool} {n : Nat} {p : Nat → Bool} (hl : l.length = n) (h : ∀ k, k < n → tg l k = p k) : l = bools n p := by
  refine List.ext_getElem? fun k => ?_
  unfold bools
  rw [List.getElem?_map]
  by_cases hk : k < n
  · rw [List.getElem?_range hk, List.getElem?_eq_getElem (by omega)]
    have := h k hk
    unfold tg at this
    rw [List.getElem?_eq_getElem (by omega)] at this
    show some _ = some (p k)
    rw [← this]; rfl
  · rw [List.getElem?_eq_none (by omega), List.getElem?_eq_none (by rw [List.length_range]; omega)]; rfl
theorem mem_a {f s k : Nat} : ("a" : Str) ∈ (chW f s k).2 ↔ f ≤ k := by
  show ("a" : Str) ∈ (if f ≤ k then [("a" : Str)] else []) ++ (if s ≤ k then [("b" : Str)] else []) ↔ _
  rw [List.mem_append]
  have hab : ¬ ("a" : Str) = ("b" : Str) := by decide
  by_cases h1 : f ≤ k <;> by_cases h2 : s ≤ k <;> simp [h1, h2, hab]
theorem mem_b {f s k : Nat} : ("b" : Str) ∈ (chW f s k).2 ↔ s ≤ k := by
  show ("b" : Str) ∈ (if f ≤ k then [("a" : Str)] else []) ++ (if s ≤ k then [("b" : Str)] else []) ↔ _
  rw [List.mem_append]
  have hab : ¬ ("b" : Str) = ("a" : Str) := by decide
  by_cases h1 : f ≤ k <;> by_cases h2 : s ≤ k <;> simp [h1, h2, hab]
theorem chain_a (f s n : Nat) : tr (chain f s n) (.ltr "a") = bools n fun k => decide (f ≤ k) := bools_ext (by rw [tr_len, chain_len]) fun k hk => by
  rw [show tg (tr (chain f s n) (.ltr "a")) k = decide (("a" : Str) ∈ (chW f s k).2) from tg_map (chain_get hk)]
  exact decide_eq_decide.mpr mem_a
theorem chain_b (f s n : Nat) : tr (chain f s n) (.ltr "b") = bools n fun k => decide (s ≤ k) := bools_ext (by rw [tr_len, chain_len]) fun k hk => by
  rw [show tg (tr (chain f s n) (.ltr "b")) k = decide (("b" : Str) ∈ (chW f s k).2) from tg_map (chain_get hk)]
  exact decide_eq_decide.mpr mem_b
theorem tg_bools {n k : Nat} {p : Nat → Bool} (h : k < n) : tg (bools n p) k = p k := by
  unfold tg bools
  rw [List.getElem?_map, List.getElem?_range h]; rfl
theorem chain_if {f s n : Nat} (hf : f < n) : tr (chain f s n) (.nd .thn (.ltr "a") (.ltr "b")) = bools n fun k => decide (s ≤ max k f) := by
  refine bools_ext (by rw [tr_len, chain_len]) fun k hk => ?_
  have la : (ifs (tr (chain f s n) (.ltr "a")) (tr (chain f s n) (.ltr "b"))).length = n := by unfold ifs; rw [List.length_zipWith, tr_len, tr_len, chain_len, Nat.min_self]
  have key := chain_then (f := f) (s := s) la (n - k) k (Nat.le_refl _) hk
  rw [Bool.eq_iff_iff]
  show tg (wThen _ _) k = true ↔ _
  rw [key]
  have ex : ∀ d, d < n → (tg (ifs (tr (chain f s n) (.ltr "a")) (tr (chain f s n) (.ltr "b"))) d = true ↔ (f ≤ d → s ≤ d)) := fun d hd => by
    rw [show ifs (tr (chain f s n) (.ltr "a")) (tr (chain f s n) (.ltr "b")) = List.zipWith (fun x y => !x || y) (tr (chain f s n) (.ltr "a")) (tr (chain f s n) (.ltr "b")) from rfl, tg_zip (by rw [tr_len, chain_len]; exact hd) (by rw [tr_len, chain_len]; exact hd), chain_a, chain_b, tg_bools hd, tg_bools hd]
    by_cases h1 : f ≤ d <;> by_cases h2 : s ≤ d <;> simp [h1, h2]
  rw [decide_eq_true_iff]
  constructor
  · intro h
    have := (ex (max k f) (by omega)).mp (h (max k f) (by omega) (by omega)) (by omega)
    exact this
  · intro h d h1 h2
    exact (ex d h2).mpr fun h3 => by omega
end Ken
set_option Elab.async false
set_option linter.all false
set_option maxRecDepth 100000
set_option maxHeartbeats 2000000
namespace L2
open PySem PySem.Spec PyProof.Rows
section
variable {prog : Program} {w : World} {A : Around} {E : Value → Shared → Prop} {s : Shared}
end
end L2
set_option Elab.async false
set_option linter.all false
set_option maxRecDepth 100000
set_option maxHeartbeats 2000000
namespace L2
open PySem PySem.Spec PyProof.Rows
section
variable {prog : Program} {w : World} {A : Around} {E : Value → Shared → Prop} {s : Shared}
end
end L2
set_option Elab.async false
set_option linter.all false
set_option maxRecDepth 100000
set_option maxHeartbeats 2000000
namespace L2
open PySem PySem.Spec PyProof.Rows
def ItzT (K : PySem.W.Frag) (a b : Addr) : It :=
  ⟨fun i H => ∃ xs ys x y, SqT K H a xs ∧ SqT K H b ys ∧ xs[i]? = some x ∧ ys[i]? = some y,
   fun i H v H' => ∃ T x y, v = .ref T ∧ H T = none ∧ H' = upd H T (.tup [x, y]) ∧ (∀ xs, SqT K H a xs → xs[i]? = some x) ∧ ∀ ys, SqT K H b ys → ys[i]? = some y,
   fun i H => ∃ xs ys, SqT K H a xs ∧ SqT K H b ys ∧ xs.length ≤ i⟩
section
variable {X : Cx}
def iZipT (K : PySem.W.Frag) (ta : TA) : TI := fun σ H R => ta σ H fun vs H1 => ∃ a b, vs = [.ref a, .ref b] ∧ (∃ xs, SqT K H1 a xs) ∧ (∃ ys, SqT K H1 b ys) ∧ R (ItzT K a b) H1
end
end L2
set_option Elab.async false
set_option linter.all false
set_option maxRecDepth 100000
set_option maxHeartbeats 4000000
namespace L2
open PySem PySem.Spec PyProof.Rows Ken
def metS (xs : List Str) : Nat → List Str
  | 0 => []
  | i + 1 => match xs[i]? with
    | some x => if x ∈ metS xs i then metS xs i else metS xs i ++ [x]
    | none => metS xs i
section
variable {P : Program} {w : World} {A : Around} {RR : Result → Shared → Prop} {J : Addr} {fps ws : List Addr} {GG : Array GenState → Array GenState → Prop} {n : Nat} {PP : Nat → Value → Prop} {SS : Nat → Shared → Prop}
end
section
variable {P : Program} {w : World} {A : Around} {E : Value → Shared → Prop} {s : Shared}
end
section
variable {X : Cx}
def rSetOf (K : PySem.W.Frag) (P : Program) (w : World) : List V → Hp → VK → Prop := fun vs H Q => ∃ (l : Addr) (xs : List Str), vs = [.ref l] ∧ SqL K H l (xs.map V.str) ∧ xs.length < 4000 ∧ ∀ a, H a = none → Q (.ref a) (upd H a (setO P w a (metS xs xs.length)))
end
end L2
set_option Elab.async false
set_option linter.all false
set_option maxRecDepth 100000
set_option maxHeartbeats 2000000
namespace L2
open PySem PySem.Spec PyProof.Rows
theorem TabOk.keepU {H H' : Hp} {T T2 : Addr} {ds : List (Pos × Str)} (h : TabOk H T2 ds) (k : SameU T H H') (n : T2 ≠ T) : TabOk H' T2 ds := by
  obtain ⟨ps, h1, h2, h3⟩ := h
  exact ⟨ps, k.off _ _ n h1, h2, fun d hd cv e => (h3 d hd cv e).keep k.toT⟩
section
variable {X : Cx}
def rInsert : V → List V → Hp → VK → Prop := fun x vs H Q => ∃ (l : Addr) (xs : List V) (k : Nat) (y : V), x = .ref l ∧ vs = [.int (k : Nat), y] ∧ H l = some (.lst xs) ∧ k ≤ xs.length ∧ xs.length < 1000000 ∧ Q .non (upd H l (.lst (xs.take k ++ y :: xs.drop k)))
end
end L2
namespace Ken
open PySem L2
def pl (ts : List Str) : Tm → Bool
  | .low => false
  | .ltr x => decide (x ∈ ts)
  | .nd .both a b => pl ts a && pl ts b
  | .nd .one a b => pl ts a || pl ts b
  | .nd .thn a b => !pl ts a || pl ts b
end Ken
namespace Ken
open PySem L2
end Ken
namespace Ken
open PySem L2
end Ken
set_option Elab.async false
set_option linter.all false
set_option maxRecDepth 100000
set_option maxHeartbeats 4000000
namespace PySem.SeqAt
open PySem PySem.MeetsSeq L2 PyProof.Rows
end PySem.SeqAt
namespace L2
open PySem PySem.Spec PyProof.Rows
section
variable {X : Cx}
end
end L2
set_option Elab.async false
set_option linter.all false
set_option maxRecDepth 100000
set_option maxHeartbeats 2000000
namespace Ken
open PySem L2
def cmpT (a b : Tm) : Int := if a = b then 0 else if lexT a.spell b.spell = true then -1 else 1
def lefts (ps : List (Tm × Tm)) : List Str := ps.flatMap fun p => p.1.spell
def rights (ps : List (Tm × Tm)) : List Str := ps.flatMap fun p => p.2.spell
theorem lefts_cons (p : Tm × Tm) (ps : List (Tm × Tm)) : lefts (p :: ps) = p.1.spell ++ lefts ps := List.flatMap_cons
theorem rights_cons (p : Tm × Tm) (ps : List (Tm × Tm)) : rights (p :: ps) = p.2.spell ++ rights ps := List.flatMap_cons
def CmpI (a b : Tm) (ps : List (Tm × Tm)) : Prop := lexT a.spell b.spell = lexT (lefts ps) (rights ps) ∧ (a = b ↔ lefts ps = rights ps)
theorem CmpI.start (a b : Tm) : CmpI a b [(a, b)] := by
  unfold CmpI
  rw [lefts_cons, rights_cons]
  show lexT a.spell b.spell = lexT (a.spell ++ []) (b.spell ++ []) ∧ (a = b ↔ a.spell ++ [] = b.spell ++ [])
  rw [List.append_nil, List.append_nil]
  exact ⟨rfl, ⟨fun e => by rw [e], spell_inj⟩⟩
theorem CmpI.done {a b : Tm} (h : CmpI a b []) : cmpT a b = 0 := by
  unfold cmpT
  rw [if_pos (h.2.mpr rfl)]
def IsP (K : PySem.W.Frag) (H : Hp) (v : V) (p : Tm × Tm) : Prop := ∃ q x y, v = .ref q ∧ SqT K H q [x, y] ∧ IsT K H x p.1 ∧ IsT K H y p.2
theorem IsP.keep {K : PySem.W.Frag} {H H' : Hp} {v : V} {p : Tm × Tm} (h : IsP K H v p) (k : KeepT K H H') : IsP K H' v p := by
  obtain ⟨q, x, y, e, hs, hx, hy⟩ := h
  exact ⟨q, x, y, e, k _ _ hs, hx.keep k, hy.keep k⟩
end Ken
set_option Elab.async false
set_option linter.all false
set_option maxRecDepth 100000
set_option maxHeartbeats 4000000
namespace PySem.SeqAt
open PySem PySem.MeetsSeq L2 PyProof.Rows
end PySem.SeqAt
namespace Ken
open PySem L2 PySem.SeqAt
section
variable {X : Cx} {pins : List (Addr × Obj)} {σ : St} {H : Hp} {s : Shared}
end
end Ken
namespace L2
open PySem PySem.Spec PyProof.Rows
section
variable {X : Cx}
def rLtTm (K : PySem.W.Frag) : R2 := fun x y H Q => ∃ a b : Ken.Tm, Ken.IsT K H x a ∧ Ken.IsT K H y b ∧ a.ok ∧ b.ok ∧ a ≠ b ∧ a.deep ≤ 140 ∧ Q (.bl (lexT a.spell b.spell)) H
end
end L2
set_option Elab.async false
set_option linter.all false
set_option maxRecDepth 100000
set_option maxHeartbeats 2000000
namespace L2
open PySem PySem.Spec PyProof.Rows Ken
theorem rng_vals {a n : Nat} {acc : Array Value} (h : ItemsOf (fun i v => ∃ t, v = Value.int (((a : Nat) : Int) + i * 1) t) acc n) : Vals (natsV (List.range' a n)) acc.toList := by
  obtain ⟨h1, h2⟩ := h
  have gen : ∀ (us : List Value) (b m : Nat), us.length = m → (∀ i v, us[i]? = some v → ∃ t, v = Value.int (((b + i : Nat) : Nat) : Int) t) → Vals (natsV (List.range' b m)) us := by
    intro us
    induction us with
    | nil => intro b m hm _; subst hm; exact .nil
    | cons u us ih =>
      intro b m hm hv
      cases m with
      | zero => cases hm
      | succ m =>
        obtain ⟨t, e⟩ := hv 0 u rfl
        show Vals (V.int ((b : Nat) : Int) :: natsV (List.range' (b + 1) m)) (u :: us)
        refine .cons ⟨t, e⟩ (ih (b + 1) m (by rw [List.length_cons] at hm; omega) fun i v hi => ?_)
        obtain ⟨t', e'⟩ := hv (i + 1) v hi
        exact ⟨t', by rw [e', show b + 1 + i = b + (i + 1) by omega]⟩
  refine gen acc.toList a n (by rw [Array.length_toList]; exact h1) fun i v hi => ?_
  obtain ⟨t, e⟩ := h2 i v (by simpa using hi)
  exact ⟨t, by rw [e]; congr 1; omega⟩
section
variable {X : Cx}
def rListR1 : List V → Hp → VK → Prop := fun vs H Q => ∃ n : Nat, vs = [.int (n : Nat)] ∧ n ≤ 100000 ∧ ∀ l, H l = none → Q (.ref l) (upd H l (.lst (natsV (List.range' 0 n))))
def rListR2 : List V → Hp → VK → Prop := fun vs H Q => ∃ a b : Nat, vs = [.int (a : Nat), .int (b : Nat)] ∧ a ≤ b ∧ b ≤ 100000 ∧ ∀ l, H l = none → Q (.ref l) (upd H l (.lst (natsV (List.range' a (b - a)))))
theorem list_rng {pins : List (Addr × Obj)} {σ : St} {H : Hp} {s : Shared} {Q : VK} {a b : Nat} {t u v : Tok} {tk : Nat} (hc : X.calm = true) (I : Inv X pins σ H s) (hab : a ≤ b) (hb : b ≤ 100000)
    (q : ∀ l, H l = none → Q (.ref l) (upd H l (.lst (natsV (List.range' a (b - a)))))) :
    wpAny (model X.prog X.w) X.A (call (.type "list") [.ref s.heap.objs.size]) (EP X pins σ Q) X.xe { s with heap := s.heap.push { cls := .type "range", data := .fields #[.int ((a : Nat) : Int) t, .int ((b : Nat) : Int) u, .int 1 v] }, toks := tk } := by
  have sz : (s.heap.push { cls := .type "range", data := .fields #[.int ((a : Nat) : Int) t, .int ((b : Nat) : Int) u, .int 1 v] }).objs.size = s.heap.objs.size + 1 := Heap.size_push ..
  refine call_list_range (n := b - a) (I.ok.hd hc) (IsRange.new ..) (small_one (by omega) (by omega) (by omega) (by omega)) (by rw [rangeSize_one]; split <;> omega) (by omega) fun h' tk' acc' c' kp e hi => ?_
  have kp' : ∀ b o, s.heap.get? b = some o → h'.get? b = some o := fun b o z => kp b o (Heap.get?_push_of_some _ z)
  have vs := rng_vals hi
  have hsz : s.heap.objs.size ≤ (s.heap.push { cls := .type "range", data := .fields #[.int ((a : Nat) : Int) t, .int ((b : Nat) : Int) u, .int 1 v] }).objs.size := by rw [sz]; omega
  refine ⟨.ref _, _, I.laid (a := (s.heap.push { cls := .type "range", data := .fields #[.int ((a : Nat) : Int) t, .int ((b : Nat) : Int) u, .int 1 v] }).objs.size) (o := .lst (natsV (List.range' a (b - a)))) (t' := tk') kp' hsz ⟨?_, acc'.toList, c', vs, ?_⟩, rfl, q _ (I.hok.fresh hsz)⟩
  · rw [natsV_len, List.length_range']; exact Nat.le_of_lt (small1M (by omega))
  · rw [Array.toArray_toList]; exact e
theorem pe_listR1 {e : Expr} {t : TA} {p1 p2 pos1 pos2 : Pos} (hc : X.calm = true) (hg1 : Gl X "list") (hm1 : X.mg "list" = none) (hg2 : Gl X "range") (hm2 : X.mg "range" = none) (ha : PA X [e] t)
    (he : starEach [e] X.env = [(false, eval e X.env)] := by rfl) (he2 : starEach [.Call (.Name "range" p2) [e] [] pos2] X.env = [(false, eval (.Call (.Name "range" p2) [e] [] pos2) X.env)] := by rfl) :
    PE X (.Call (.Name "list" p1) [.Call (.Name "range" p2) [e] [] pos2] [] pos1) (tCB rListR1 t) := by
  intro pins s σ H Q I h
  refine wpAny_Call_Name_kw (ld_blt I hg1 hm1 (by first | exact PySem.boot_list | rfl) ?_)
  refine PyProof.Rows.callWith_type1 ?_ he2 rfl
  rw [he2]
  show wpAny _ _ (spliced ((false, eval (.Call (.Name "range" p2) [e] [] pos2) X.env) :: backTo pos1 (starEach [] X.env))) _ _ s
  refine Calls.spliced_cons (wpAny_Call_Name_kw (ld_blt I hg2 hm2 PyProof.Rows.boot_range ?_))
  refine PyProof.Rows.callWith_type1 (thn (ha pos2 pins s σ H _ I h) fun us s1 ⟨vs, H1, I1, r1, q1⟩ => ?_) he rfl
  obtain ⟨n, rfl, hn, q⟩ := q1
  cases r1 with
  | cons r rr =>
    cases rr
    obtain ⟨tk, rfl⟩ := r
    refine call_range_1 (Calls.spliced_nil ?_)
    exact list_rng (a := 0) (b := n) hc I1 (Nat.zero_le _) hn (by rw [Nat.sub_zero]; exact q)
theorem pe_listR2 {e e' : Expr} {t : TA} {p1 p2 pos1 pos2 : Pos} (hc : X.calm = true) (hg1 : Gl X "list") (hm1 : X.mg "list" = none) (hg2 : Gl X "range") (hm2 : X.mg "range" = none) (ha : PA X [e, e'] t)
    (hs : starEach [e, e'] X.env = [(false, eval e X.env), (false, eval e' X.env)] := by rfl) (hs2 : starEach [e'] X.env = [(false, eval e' X.env)] := by rfl) (he2 : starEach [.Call (.Name "range" p2) [e, e'] [] pos2] X.env = [(false, eval (.Call (.Name "range" p2) [e, e'] [] pos2) X.env)] := by rfl) :
    PE X (.Call (.Name "list" p1) [.Call (.Name "range" p2) [e, e'] [] pos2] [] pos1) (tCB rListR2 t) := by
  intro pins s σ H Q I h
  refine wpAny_Call_Name_kw (ld_blt I hg1 hm1 (by first | exact PySem.boot_list | rfl) ?_)
  refine PyProof.Rows.callWith_type1 ?_ he2 rfl
  rw [he2]
  show wpAny _ _ (spliced ((false, eval (.Call (.Name "range" p2) [e, e'] [] pos2) X.env) :: backTo pos1 (starEach [] X.env))) _ _ s
  refine Calls.spliced_cons (wpAny_Call_Name_kw (ld_blt I hg2 hm2 PyProof.Rows.boot_range ?_))
  refine PyProof.Rows.callWith_type1 (thn (ha pos2 pins s σ H _ I h) fun us s1 ⟨vs, H1, I1, r1, q1⟩ => ?_) (by rw [hs, hs2]) (by rw [hs2]; rfl)
  obtain ⟨a, b, rfl, hab, hb, q⟩ := q1
  cases r1 with
  | cons r rr =>
    cases rr with
    | cons r' rr =>
      cases rr
      obtain ⟨tk, rfl⟩ := r
      obtain ⟨tk', rfl⟩ := r'
      refine call_range_2 (Calls.spliced_nil ?_)
      exact list_rng hc I1 hab hb q
def rIndexN (K : PySem.W.Frag) : V → List V → Hp → VK → Prop := fun x vs H Q => ∃ (p : Addr) (L : List Nat) (j : Nat), x = .ref p ∧ vs = [.int (j : Nat)] ∧ SqL K H p (natsV L) ∧ j ∈ L ∧ ∀ i : Nat, L[i]? = some j → Q (.int (i : Nat)) H
theorem mt_indexN : MtR X "list.index" (rIndexN X.K) := by
  intro pins s σ H x vs v us Q I rx rv h
  obtain ⟨p, L, j, rfl, rfl, hq, hm, q⟩ := h
  cases rx
  obtain ⟨u, rfl, ru⟩ := rv.one
  obtain ⟨t, rfl⟩ := ru
  obtain ⟨its, r, pl, hz⟩ := I.list hq
  have ia : IntsAre its (L.map fun n => ((n : Nat) : Int)) := intsAre_of (by rw [List.map_map]; exact r)
  obtain ⟨⟨cls, dd, data, sl⟩, ho', hc, n, hd'⟩ := id pl.isList
  simp only at hc hd'
  subst hc hd'
  have l2 := r.length
  rw [natsV_len] at l2 hz
  have hf : ∃ i, ∃ h : i < L.length, L[i] = j ∧ ∀ m (hm : m < L.length), m < i → L[m] ≠ j := by
    clear hq r ia hz l2 q
    induction L with
    | nil => cases hm
    | cons b L ih =>
      by_cases hb : b = j
      · exact ⟨0, by simp, hb, fun m _ h => absurd h (Nat.not_lt_zero _)⟩
      · rcases List.mem_cons.mp hm with z | z
        · exact absurd z.symm hb
        · obtain ⟨i, h1, h2, h3⟩ := ih z
          refine ⟨i + 1, by rw [List.length_cons]; omega, by simpa using h2, fun m hm hlt => ?_⟩
          cases m with
          | zero => simpa using hb
          | succ m => simpa using h3 m (by rw [List.length_cons] at hm; omega) (by omega)
  obtain ⟨i, hi, e1, e2⟩ := hf
  have at' : ∀ m (h1 : m < its.length), isInt ((j : Nat) : Int) its[m] = decide (L[m]'(by omega) = j) := fun m h1 => by
    rw [isInt_at ((j : Nat) : Int) ia m h1 (by rw [List.length_map]; omega), List.getElem_map]
    rw [Bool.eq_iff_iff, beq_iff_eq, decide_eq_true_iff]
    omega
  refine call_meets PySem.F.slot_list_index ⟨_, ho', rfl⟩ PySem.F.entry_list_index (PySem.F.args_list_index_2 _ _)
    (SeqAt.list_indexAt p its.toArray n dd sl (.int ((j : Nat) : Int) t) (isInt ((j : Nat) : Int)) i (by rw [List.size_toArray]; omega) (by exact Int.lt_of_lt_of_le (show (i : Int) < (sizeLine : Int) by omega) (by decide)) ?_ ?_) ⟨ho', fun z hz => (eq_isInt _ t ia z (by simpa using hz)).at _ _, ?_⟩
  · have := at' i (by omega)
    rw [decide_eq_true e1] at this
    simpa using this
  · intro m hm hlt
    have hm' : m < its.length := by simpa using hm
    have := at' m hm'
    rw [decide_eq_false (e2 m (by omega) hlt)] at this
    simpa using this
  · exact ⟨.int (i : Nat), H, I.kept (h' := s.heap) (t' := s.toks + 1) fun b o e => e, ⟨_, rfl⟩, q i (by rw [List.getElem?_eq_getElem hi, e1])⟩
end
end L2
set_option Elab.async false
set_option linter.all false
set_option maxRecDepth 100000
set_option maxHeartbeats 2000000
namespace Ken
open PySem L2
structure AloneI (ws : List Wd) (L : List Nat) (i : Nat) (ws' : List Wd) : Prop where
  len : ws'.length = i
  at_ : ∀ (k n : Nat) (x : Wd), k < i → L[k]? = some n → ws[n]? = some x → ∃ b, ws'[k]? = some (b, x.2) ∧ (k = 0 → b = none) ∧ (0 < k → ∃ j m, x.1 = some j ∧ L[m]? = some j ∧ b = some m ∧ m < k)
theorem AloneI.nil (ws : List Wd) (L : List Nat) : AloneI ws L 0 [] := ⟨rfl, fun k _ _ h => absurd h (Nat.not_lt_zero _)⟩
theorem AloneI.snoc {ws : List Wd} {L : List Nat} {i : Nat} {ws' : List Wd} (A : AloneI ws L i ws') {n : Nat} {x : Wd} {b : Option Nat} (h1 : L[i]? = some n) (h2 : ws[n]? = some x) (h3 : i = 0 → b = none) (h4 : 0 < i → ∃ j m, x.1 = some j ∧ L[m]? = some j ∧ b = some m ∧ m < i) : AloneI ws L (i + 1) (ws' ++ [(b, x.2)]) := by
  have hl := A.len
  refine ⟨by rw [List.length_append, List.length_singleton, hl], fun k m y hk g1 g2 => ?_⟩
  by_cases e : k = i
  · subst e
    rw [h1] at g1; cases g1
    rw [h2] at g2; cases g2
    exact ⟨b, by rw [List.getElem?_append_right (by omega), hl, Nat.sub_self]; rfl, h3, h4⟩
  · obtain ⟨c, z1, z2, z3⟩ := A.at_ k m y (by omega) g1 g2
    exact ⟨c, by rw [List.getElem?_append_left (by omega)]; exact z1, z2, z3⟩
theorem nodup_get {L : List Nat} (h : L.Pairwise (· < ·)) {i k n : Nat} (h1 : L[i]? = some n) (h2 : L[k]? = some n) : i = k := by
  obtain ⟨a1, b1⟩ := List.getElem?_eq_some_iff.mp h1
  obtain ⟨a2, b2⟩ := List.getElem?_eq_some_iff.mp h2
  have hp := List.pairwise_iff_getElem.mp h
  rcases Nat.lt_trichotomy i k with z | z | z
  · have := hp i k a1 a2 z; omega
  · exact z
  · have := hp k i a2 a1 z; omega
theorem lt_get {L : List Nat} (h : L.Pairwise (· < ·)) {i k n m : Nat} (h1 : L[i]? = some n) (h2 : L[k]? = some m) (hl : n < m) : i < k := by
  obtain ⟨a1, b1⟩ := List.getElem?_eq_some_iff.mp h1
  obtain ⟨a2, b2⟩ := List.getElem?_eq_some_iff.mp h2
  have hp := List.pairwise_iff_getElem.mp h
  rcases Nat.lt_trichotomy i k with z | z | z
  · exact z
  · subst z; rw [h1] at h2; cases h2; omega
  · have := hp k i a2 a1 z; omega
theorem alone_good {ws ws' : List Wd} {L : List Nat} {w : Nat} (A : AloneI ws L L.length ws') (C : Closed ws w L) : goodB ws' := fun k x hx => by
  have hk : k < L.length := by have := (List.getElem?_eq_some_iff.mp hx).1; rw [A.len] at this; exact this
  have h1 : L[k]? = some L[k] := List.getElem?_eq_getElem hk
  have h2 := C.low _ (List.mem_of_getElem? h1)
  obtain ⟨b, z1, z2, z3⟩ := A.at_ k _ _ hk h1 (List.getElem?_eq_getElem h2)
  rw [hx] at z1; cases z1
  exact ⟨z2, fun z => by obtain ⟨j, m, _, _, e, lt⟩ := z3 z; exact ⟨m, e, lt⟩⟩
theorem alone_sub {ws ws' : List Wd} {L : List Nat} {w : Nat} (hg : goodB ws) (A : AloneI ws L L.length ws') (C : Closed ws w L) (hw : ∀ x ∈ L, w ≤ x) : Sub ws ws' L := by
  refine ⟨A.len, C.low, C.rise.imp (fun h => Nat.ne_of_lt h), fun i n x y h1 h2 h3 => ?_, fun i k n m h1 h2 => ?_, fun i n m h1 h2 => ?_⟩
  · obtain ⟨b, z1, _⟩ := A.at_ i n x (List.getElem?_eq_some_iff.mp h1).1 h1 h2
    rw [h3] at z1; cases z1; rfl
  · have hm := C.low m (List.mem_of_getElem? h2)
    obtain ⟨b, z1, z2, z3⟩ := A.at_ k m _ (List.getElem?_eq_some_iff.mp h2).1 h2 (List.getElem?_eq_getElem hm)
    have e1 : Ken.bef ws' k = b := by unfold Ken.bef; rw [z1]; rfl
    have e2 : Ken.bef ws m = (ws[m]).1 := by unfold Ken.bef; rw [List.getElem?_eq_getElem hm]; rfl
    rcases Nat.eq_zero_or_pos k with z | z
    · subst z
      have hh := C.head
      rw [h2] at hh; cases hh
      rw [e1, z2 rfl]
      constructor
      · intro q; cases q
      · intro q
        have := (bef_lt hg q).2
        have := hw n (List.mem_of_getElem? h1)
        omega
    · obtain ⟨j, mm, g1, g2, g3, g4⟩ := z3 z
      rw [e1, e2, g1, g3]
      constructor
      · intro q; cases q; rw [h1] at g2; cases g2; rfl
      · intro q; cases q; rw [nodup_get C.rise h1 g2]
  · have hn := List.mem_of_getElem? h1
    have hb := bef_lt hg h2
    have := hw n hn
    exact (C.mem m (by omega) hb.1).mpr ⟨n, h2, hn⟩
def sp_alone (K : PySem.W.Frag) : Sp := fun vs H Q _ => ∃ (a la : Addr) (xs : List V) (ws : List Wd) (w : Nat), vs = [.ref a, .ref la] ∧ H a = some (.lst xs) ∧ AtWs K H xs ws ∧ goodB ws ∧ okWs ws ∧ w < ws.length ∧ ws.length ≤ 900 ∧ H la = some (.lst (natsV (lat ws w))) ∧
  ∀ (r : Addr) (H' : Hp) (vs : List V) (ws' : List Wd), Same H H' → H r = none → H' r = some (.lst vs) → AtWs K H' vs ws' → AloneI ws (lat ws w) (lat ws w).length ws' → Q (.ref r) H'
end Ken
namespace Ken
open PySem L2
theorem bools_succ (n : Nat) (p : Nat → Bool) : bools (n + 1) p = bools n p ++ [p n] := by unfold bools; rw [List.range_succ, List.map_append]; rfl
theorem bools_len (n : Nat) (p : Nat → Bool) : (bools n p).length = n := by unfold bools; rw [List.length_map, List.length_range]
theorem lcW_rangeB {K : PySem.W.Frag} {σ0 : St} {n : Nat} {acc : Addr} {g : TG} {te : TE} {Q : VK} {H : Hp} (p : Nat → Bool) (hn : n ≤ 3000) (hacc : H acc = none)
    (hs : ∀ i H2 (C : VK), i < n → C (.bl (p i)) H2 → g (.int (0 + (i : Nat))) σ0 H2 fun σ4 H4 => Wk σ0 σ4 ∧ te σ4 H4 C)
    (hd : ∀ H2, Same H H2 → H2 acc = some (.lst (bls (bools n p))) → Q (.ref acc) H2) :
    ∃ W : Nat → Nat → List V → Hp → Prop, (∃ m, W 0 m [] (upd H acc (.lst []))) ∧ lcW K σ0 (Itr 0 n) acc g te Q W := by
  refine lcW_range (n := n) (lo := 0) (fun i ys H2 => Same H H2 ∧ H2 acc = some (.lst ys) ∧ ys = bls (bools i p)) ⟨same_new hacc _, upd_same, rfl⟩ (fun i ys H2 hi ⟨e, h, z⟩ => ⟨h, ?_⟩) (fun i ys H2 hi ⟨e, h, z⟩ C hC => ?_) (fun ys H2 ⟨e, h, z⟩ => hd H2 e ?_)
  · rw [z, List.length_map, bools_len]
    exact small1M (by omega)
  · refine hs i H2 C hi (hC _ _ h ⟨e.write hacc, upd_same, ?_⟩)
    rw [z, bools_succ]
    show _ = (bools i p ++ [p i]).map V.bl
    rw [List.map_append]; rfl
  · rw [h, z]
end Ken
set_option Elab.async false
set_option linter.all false
set_option maxRecDepth 100000
set_option maxHeartbeats 2000000
namespace L2
open PySem PySem.Spec PyProof.Rows
structure CodeFs (vs : Array Value) (T : Addr) : Prop where
  a : vs[11]? = some (.ref T)
  b : vs.getD 11 .none = .ref T
  c : ∃ file tf, vs.getD 18 .none = .str file tf
  d : ∃ flags tg, vs.getD 7 .none = .int flags tg
  e : ∃ inF, vs.getD 9 .none = .bool inF
  f : ∃ text tt, vs.getD 10 .none = .int text tt
theorem codeHd_of {K : PySem.W.Frag} {c T : Addr} {od : Option Addr} {vs : Array Value} {sl : Array (Option Value)} (l : K.lookup c = some ⟨.type "code", od, .fields vs, sl⟩) (x : CodeFs vs T) (n : c ≠ T) (h : Heap) (k : K.In h) : PySem.W.CodeHd h c T := by
  obtain ⟨file, tf, h1⟩ := x.c
  obtain ⟨flags, tg, h2⟩ := x.d
  obtain ⟨inF, h3⟩ := x.e
  obtain ⟨text, tt, h4⟩ := x.f
  exact ⟨_, vs, file, tf, flags, tg, inF, text, tt, k _ _ l, rfl, rfl, x.a, x.b, h1, h2, h3, h4, n⟩
theorem funT_mk {K : PySem.W.Frag} {x qual : Str} {st : Stmt} {f : Addr} {oc : Value} {od an : Option Addr} {osl : Array (Option Value)} {kV doc pm ct : Value} {c T : Addr} (l : K.lookup f = some ⟨oc, od, .func (PySem.W.fnOf x qual (defArgs st) (defBody st) (defScope st) .none kV doc pm an (.ref c) ct), osl⟩)
    (cc : PySem.W.codeIn K (.ref c) qual = true) (k : PySem.W.keepIn K (.ref f) = true) (hC : ∀ h, K.In h → PySem.W.CodeHd h c T) : FunT K x qual st f (PySem.W.fnOf x qual (defArgs st) (defBody st) (defScope st) .none kV doc pm an (.ref c) ct) T := ⟨⟨oc, od, kV, doc, pm, an, c, ct, osl, rfl, l, cc, hC⟩, k⟩
theorem isTable_of {K : PySem.W.Frag} {h : Heap} {x : Str} {f c T : Addr} {oc : Value} {od od' an : Option Addr} {osl sl : Array (Option Value)} {kV doc pm ct : Value} {vs : Array Value} {params : Arguments} {body : List Stmt} {scope : Scope} {qual : Str} (KX : K.In h)
    (a : PySem.W.nsIn K mainGlobals x = some (some (.ref f))) (l : K.lookup f = some ⟨oc, od, .func (PySem.W.fnOf x qual params body scope .none kV doc pm an (.ref c) ct), osl⟩) (e : K.lookup c = some ⟨.type "code", od', .fields vs, sl⟩) (v : vs[11]? = some (.ref T)) : isCodeTable h T :=
  ⟨c, _, vs, KX _ _ e, rfl, rfl, v⟩
end L2
namespace KLaw
open PySem L2 Ken
set_option Elab.async false
set_option linter.all false
set_option maxRecDepth 100000
set_option maxHeartbeats 4000000
local macro_rules | `(tactic| walk_at "rdx_1") => `(tactic| simp only [tSeq, tAsg, gName, tVar, tC, tOp, rI0, rI, rU, tUn, tRet, tRetN, tIfS, tTest, tB, tNext, tCons, tNil, tCB, tCall, tTup, tLst, tDrop, tAug, ipI, tAnd, tOr, tNot, tAndV, tOrV, tNotV, tBM, tBM0, rAppend, rExtend, rPop, rIxL, rIxT, rIxS, rCat, rEq, rNe, rMulS, tSl, rSlL, rSlS, tPart, tNoPart, tRev, rJoin, tDGet, tDisp, tPairs, tFs, tFv, tFc, tF0, tKD, rIsi, rEqD, tNever, tChain, rIn, rSetL, gSub, iEnum, iStr, tKNotIn, tDIn, tDNotIn, sDPut, gTup, gCons, gNil, iRng1, iRng2, iList, iTup, iZip, rRevd, L2.start, capt,
  List.map_cons, List.map_nil, List.length_cons, List.length_nil, List.cons_append, List.nil_append, List.append_nil, List.replicate_succ, List.replicate_zero, Nat.reduceAdd, Nat.reduceSub, Nat.zero_add, Nat.add_zero, Nat.sub_zero, Nat.sub_self, List.getElem?_cons_zero, List.getElem?_cons_succ, List.getElem?_nil, List.set_cons_zero, List.set_cons_succ, Option.some.injEq, V.int.injEq, V.str.injEq, V.ref.injEq, V.bl.injEq, V.ty.injEq, List.cons.injEq, and_true, true_and, exists_eq_left', exists_eq_left, exists_and_left, exists_eq, exists_eq', and_assoc, Option.join_some, Option.join_none, scal_int, scal_str, scal_bl, cxOf_K, blk_K, decide_eq_true_eq])
local macro_rules | `(tactic| walk_at "rd") => `(tactic| walk_at "rdx_1")
local macro_rules | `(tactic| walk_at "rdx_2") => `(tactic| simp only [tFor, tLC, tVar, tC, tOp, rI0, rI, rU, tUn, tTest, tB, tCons, tNil, tCB, tCall, tTup, tLst, ipI, tAnd, tOr, tNot, tAndV, tOrV, tNotV, tBM, tBM0, rAppend, rExtend, rPop, rIxL, rIxT, rIxS, rCat, rEq, rNe, rMulS, tSl, rSlL, rSlS, tPart, tNoPart, tRev, rJoin, tDGet, tDisp, tPairs, tFs, tFv, tFc, tF0, tKD, rIsi, rEqD, tNever, tChain, rIn, rSetL, iEnum, iStr, tKNotIn, tDIn, tDNotIn, iRng1, iRng2, iList, iTup, iZip, rRevd, L2.start, capt,
  List.map_cons, List.map_nil, List.length_cons, List.length_nil, List.cons_append, List.nil_append, List.append_nil, List.replicate_succ, List.replicate_zero, Nat.reduceAdd, Nat.reduceSub, Nat.zero_add, Nat.add_zero, Nat.sub_zero, Nat.sub_self, List.getElem?_cons_zero, List.getElem?_cons_succ, List.getElem?_nil, List.set_cons_zero, List.set_cons_succ, Option.some.injEq, V.int.injEq, V.str.injEq, V.ref.injEq, V.bl.injEq, V.ty.injEq, List.cons.injEq, and_true, true_and, exists_eq_left', exists_eq_left, exists_and_left, exists_eq, exists_eq', and_assoc, Option.join_some, Option.join_none, scal_int, scal_str, scal_bl, cxOf_K, blk_K, decide_eq_true_eq])
local macro_rules | `(tactic| walk_at "ri") => `(tactic| walk_at "rdx_2")
def top (i : Nat) : Stmt := PySem.Challenge.pw_ken_k14_known_stays.main.body.getD i (.Pass ⟨0, 0, 0, 0⟩)
abbrev s__law_mix : Stmt := top 12
theorem sc__law_mix : FnScope ["_law_cell_here", "_law_k", "_law_first"] ["_law_cell_here", "_law_k"] (defScope s__law_mix) := ⟨rfl, rfl, rfl, by decide +kernel, rfl, by decide +kernel, by decide +kernel⟩
abbrev s__law_cell : Stmt := top 13
theorem sc__law_cell : FnScope ["_law_script", "_law_k", "_law_cell_here"] ["_law_script", "_law_k"] (defScope s__law_cell) := ⟨rfl, rfl, rfl, by decide +kernel, rfl, by decide +kernel, by decide +kernel⟩
abbrev s__law_words : Stmt := top 14
theorem sc__law_words : FnScope ["_law_cell_here", "_law_many", "_law_some_here", "_law_size", "_law_at", "_law_start"] ["_law_cell_here", "_law_many"] (defScope s__law_words) := ⟨rfl, rfl, rfl, by decide +kernel, rfl, by decide +kernel, by decide +kernel⟩
section
variable {P : Program} {w : World} {K : PySem.W.Frag} {mg : Str → Option Value} {base : Heap}
theorem ok__law_mix {k : Nat} {f__law_mix : Addr} {fd__law_mix : FuncData} (F__law_mix : Fun K "_law_mix" "_law_mix" s__law_mix f__law_mix fd__law_mix) : FnOk P w K mg base CX0 (k + 1) f__law_mix fd__law_mix ["_law_cell_here", "_law_k"] sp_mix := by
  refine F__law_mix.ok sc__law_mix (fun vs H Q E h => ?_) (fun cdv A outer s H vs Q E hr h => ?_)
  · obtain ⟨c, k, rfl, _⟩ := h
    rfl
  obtain ⟨c, k, rfl, h0, h1, q⟩ := h
  refine ⟨_, (pss_cons (ps_set (i := 2) sc__law_mix.nd rfl (Or.inl rfl) (pe_op op_mod (pe_op op_mul (pe_op op_add (pv 0) pe_int) (pe_op op_add pe_int (pe_op op_mul pe_int (pv 1)))) pe_int))
  (pss_one (ps_ret (pe_op op_mod (pe_op op_add (pe_op op_add (pe_op op_mul (pe_op op_fdiv (pv 2) pe_int) pe_int) (pe_op op_mul (pv 2) (pe_op op_add (pe_op op_mul (pv 1) (pv 1)) pe_int))) (pv 1)) pe_int)))), ?_⟩
  walk_at "rd"
  have a0 : 0 ≤ (c + 1) * (48271 + 118 * k) % 2147483629 := Int.emod_nonneg _ (by decide)
  have a1 : (c + 1) * (48271 + 118 * k) % 2147483629 < 2147483629 := Int.emod_lt_of_pos _ (by decide)
  refine ⟨mul_left (by decide) (by decide), mul_right (by omega) (by omega), by decide, ⟨by decide, by decide⟩, mul_right (by decide) (by decide), mul_left (by omega) (by omega), mul_left (by omega) (by omega), by decide, ?_⟩
  exact q
theorem ok__law_cell {k : Nat} {f__law_cell : Addr} {fd__law_cell : FuncData} (F__law_cell : Fun K "_law_cell" "_law_cell" s__law_cell f__law_cell fd__law_cell) {f__law_mix : Addr} {fd__law_mix : FuncData} (G__law_mix : FnOk P w K mg base CX0 k f__law_mix fd__law_mix ["_law_cell_here", "_law_k"] (sp_mix)) (m__law_mix : mg "_law_mix" = some (.ref f__law_mix)) (k__law_mix : PySem.W.keepIn K (.ref f__law_mix) = true) (b__law_mix : Binds K fd__law_mix ["_law_cell_here", "_law_k"] []) (m_len : mg "len" = none) : FnOk P w K mg base CX0 (k + 1) f__law_cell fd__law_cell ["_law_script", "_law_k"] (sp_cell K) := by
  refine F__law_cell.ok sc__law_cell (fun vs H Q E h => ?_) (fun cdv A outer s H vs Q E hr h => ?_)
  · obtain ⟨a, ns, k, rfl, _⟩ := h
    rfl
  obtain ⟨a, ns, j, rfl, hS, h63, h0, h1, q⟩ := h
  refine ⟨_, (pss_cons (ps_set (i := 2) sc__law_cell.nd rfl (Or.inl rfl) pe_int)
  (pss_cons (ps_if (pt_cmpR (op_lt) (pv 1) (pe_callB call_len_seq (by exact rfl) m_len Ken.boot_len (pa_cons (pv 0) pa_nil)) (nomark _))
    (pss_one (ps_set (i := 2) sc__law_cell.nd rfl (Or.inl rfl) (pe_op op_mod (pe_ix ix_list (pv 0) (pv 1) (fun _ _ => rfl)) pe_int)))
    pss_nil)
  (pss_one (ps_ret (pe_call G__law_mix hr (by exact rfl) m__law_mix k__law_mix b__law_mix .nil pass0 (pa_cons (pv 2) (pa_cons (pe_op op_add (pv 1) pe_int) pa_nil))))))), ?_⟩
  walk_at "rd"
  refine ⟨_, .inl hS, ?_⟩
  rw [List.length_map]
  have e : cellOf ns j = mix (if j < (ns.length : Int) then (ns[j.toNat]?.getD 0) % 2147483647 else 0) (j + 101) := rfl
  refine ite2 (fun c => ?_) (fun c => ?_)
  · rw [if_pos c] at e
    have hj : j.toNat < ns.length := by omega
    refine ⟨_, hS, V.int (ns[j.toNat]), ?_, _, rfl, by decide, ?_⟩
    · have ej : j = ((j.toNat : Nat) : Int) := by omega
      have q : atI (ns.map V.int) ((j.toNat : Nat) : Int) = some (.int ns[j.toNat]) := atI_nat (by rw [List.getElem?_map, List.getElem?_eq_getElem hj] <;> rfl)
      rw [← ej] at q
      exact q
    · rw [List.getElem?_eq_getElem hj] at e
      rw [e] at q
      exact ⟨_, _, rfl, by omega, by omega, q⟩
  · rw [if_neg c] at e
    rw [e] at q
    exact ⟨_, _, rfl, by omega, by omega, q⟩
end
set_option Elab.async false
set_option linter.all false
set_option maxRecDepth 100000
set_option maxHeartbeats 4000000
local macro_rules | `(tactic| walk_at "rd") => `(tactic| walk_at "rdx_1")
local macro_rules | `(tactic| walk_at "ri") => `(tactic| walk_at "rdx_2")
abbrev s_within : Stmt := top 2
theorem sc_within : FnScope ["statement"] ["statement"] (defScope s_within) := ⟨rfl, rfl, rfl, by decide +kernel, rfl, by decide +kernel, by decide +kernel⟩
abbrev s_pieces : Stmt := top 3
theorem sc_pieces : FnScope ["statement", "found", "waiting", "piece"] ["statement"] (defScope s_pieces) := ⟨rfl, rfl, rfl, by decide +kernel, rfl, by decide +kernel, by decide +kernel⟩
section
variable {P : Program} {w : World} {K : PySem.W.Frag} {mg : Str → Option Value} {base : Heap}
theorem ok_within {k : Nat} {f_within : Addr} {fd_within : FuncData} (F_within : Fun K "within" "within" s_within f_within fd_within) {aPAIRED : Addr} (m_PAIRED : mg "PAIRED" = some (.ref aPAIRED)) (t_PAIRED : ∀ H, SqT K H aPAIRED [.str "both", .str "one", .str "then"]) : FnOk P w K mg base CX0 (k + 1) f_within fd_within ["statement"] (sp_within K) := by
  refine F_within.ok sc_within (fun vs H Q E h => ?_) (fun cdv A outer s H vs Q E hr h => ?_)
  · obtain ⟨v, t, rfl, _⟩ := h
    rfl
  obtain ⟨v, t, rfl, hT, q⟩ := h
  refine ⟨_, (pss_cons (ps_if (pt_cmpR (op_in_seq) (pe_ix ix_tup (pv 0) pe_int (fun _ _ => rfl)) (pe_glob (v := .ref aPAIRED) (by exact rfl) m_PAIRED (by exact rfl)) (by with_unfolding_all rfl))
    (pss_one (ps_ret (pe_lst (pa_cons (pe_ix ix_tup (pv 0) pe_int (fun _ _ => rfl)) (pa_cons (pe_ix ix_tup (pv 0) pe_int (fun _ _ => rfl)) pa_nil)))))
    pss_nil)
  (pss_one (ps_ret (pe_lst pa_nil)))), ?_⟩
  walk_at "rd"
  cases t with
  | low =>
    obtain ⟨a, rfl, hs⟩ := isT_low.mp hT
    refine ⟨a, rfl, _, hs, _, rfl, _, .inr (t_PAIRED H), rfl, rfl, ?_⟩
    rw [if_neg (by decide)]
    exact ⟨by decide, fun p hp => q p _ _ (same_new hp _) hp upd_same .nil⟩
  | ltr x =>
    obtain ⟨a, rfl, hs⟩ := isT_ltr.mp hT
    refine ⟨a, rfl, _, hs, _, rfl, _, .inr (t_PAIRED H), rfl, rfl, ?_⟩
    rw [if_neg (by decide)]
    exact ⟨by decide, fun p hp => q p _ _ (same_new hp _) hp upd_same .nil⟩
  | nd kd x y =>
    obtain ⟨a, vx, vy, rfl, hs, hx, hy⟩ := isT_nd.mp hT
    refine ⟨a, rfl, _, hs, _, rfl, _, .inr (t_PAIRED H), rfl, rfl, ?_⟩
    rw [if_pos (by cases kd <;> decide)]
    exact ⟨a, rfl, _, hs, _, rfl, a, rfl, _, hs, _, rfl, by decide, fun p hp => q p _ _ (same_new hp _) hp upd_same (.cons (hx.keep (keepT_new hp)) (.cons (hy.keep (keepT_new hp)) .nil))⟩
end
set_option Elab.async false
set_option linter.all false
set_option maxRecDepth 100000
set_option maxHeartbeats 4000000
local macro_rules | `(tactic| walk_at "rd") => `(tactic| walk_at "rdx_1")
local macro_rules | `(tactic| walk_at "ri") => `(tactic| walk_at "rdx_2")
def sumP (ts : List Tm) : Nat := (ts.map Tm.parts).sum
theorem sumP_cons (t : Tm) (ts : List Tm) : sumP (t :: ts) = t.parts + sumP ts := by unfold sumP; rw [List.map_cons, List.sum_cons]
theorem sumP_app (a b : List Tm) : sumP (a ++ b) = sumP a + sumP b := by unfold sumP; rw [List.map_append, List.sum_append]
theorem sumP_kids (t : Tm) : sumP t.kids + 1 = t.parts := by
  cases t with
  | low => rfl
  | ltr w => rfl
  | nd k a b => show sumP [a, b] + 1 = 1 + a.parts + b.parts; rw [sumP_cons, sumP_cons]; show a.parts + (b.parts + 0) + 1 = _; omega
theorem len_sumP : ∀ ts : List Tm, ts.length ≤ sumP ts
  | [] => Nat.le_refl _
  | t :: ts => by
    rw [sumP_cons, List.length_cons]
    have := len_sumP ts
    have := t.parts_pos
    omega
section
variable {P : Program} {w : World} {K : PySem.W.Frag} {mg : Str → Option Value} {base : Heap}
theorem ok_pieces {k : Nat} {f_pieces : Addr} {fd_pieces : FuncData} (F_pieces : Fun K "pieces" "pieces" s_pieces f_pieces fd_pieces) {f_within : Addr} {fd_within : FuncData} (G_within : FnOk P w K mg base CX0 k f_within fd_within ["statement"] (sp_within K)) (m_within : mg "within" = some (.ref f_within)) (k_within : PySem.W.keepIn K (.ref f_within) = true) (b_within : Binds K fd_within ["statement"] []) : FnOk P w K mg base CX0 (k + 1) f_pieces fd_pieces ["statement"] (sp_pieces K) := by
  refine F_pieces.ok sc_pieces (fun vs H Q E h => ?_) (fun cdv A outer s H vs Q E hr h => ?_)
  · obtain ⟨v, t, rfl, _⟩ := h
    rfl
  obtain ⟨v, t, rfl, hT, hp, q⟩ := h
  refine ⟨_, (pss_cons (ps_set (i := 1) sc_pieces.nd rfl (Or.inl rfl) (pe_lst pa_nil))
  (pss_cons (ps_set (i := 2) sc_pieces.nd rfl (Or.inl rfl) (pe_lst (pa_cons (pv 0) pa_nil)))
  (pss_cons (ps_while PassesOwn.never (pt_truth (pv 2) (fun _ => rfl))
    (pss_cons (ps_set (i := 3) sc_pieces.nd rfl (Or.inl rfl) (pe_bm0 PySem.F.plainAttrs_list PySem.F.slot_list_pop PySem.F.type_list_pop mt_pop (pv 2)))
  (pss_cons (ps_expr (pe_bm PySem.F.plainAttrs_list PySem.F.slot_list_append PySem.F.type_list_append mt_append (pv 1) (pa_cons (pv 3) pa_nil)))
  (pss_one (ps_expr (pe_bm PySem.F.plainAttrs_list PySem.F.slot_list_extend PySem.F.type_list_extend mt_extend (pv 2) (pa_cons (pe_rev (pe_call G_within hr (by exact rfl) m_within k_within b_within .nil pass0 (pa_cons (pv 3) pa_nil)) (pe_un un_neg pe_int)) pa_nil)))))))
  (pss_one (ps_ret (pv 1)))))), ?_⟩
  walk_at "rd"
  refine ⟨by decide, fun lt hlt => ⟨by decide, fun lw hlw => ?_⟩⟩
  have hlw0 : H lw = none := (same_new hlt _).free hlw
  have hne : lw ≠ lt := fun z => by subst z; rw [upd_same] at hlw; cases hlw
  refine ⟨fun m σ' H' => ∃ st ts us ds x3, m = sumP ts ∧ σ' = [some v, some (.ref lt), some (.ref lw), x3] ∧ Same H H' ∧ H' lt = some (.lst us) ∧ H' lw = some (.lst st.reverse) ∧ Paired (IsT K H') st ts ∧ Paired (IsT K H') us ds ∧ ds ++ ts.flatMap Tm.pre = t.pre ∧ us.length + sumP ts ≤ 400,
    ⟨_, [v], [t], [], [], none, rfl, rfl, (same_new hlt _).trans (same_new hlw _), ?_, upd_same, .cons ((hT.keep (keepT_new hlt)).keep (keepT_new hlw)) .nil, .nil, ?_, ?_⟩, ?_⟩
  · rw [upd_ne (Ne.symm hne), upd_same]
  · show [] ++ (t.pre ++ []) = t.pre
    simp
  · show 0 + (t.parts + 0) ≤ 400
    omega
  rintro m σ1 H1 ⟨st, ts, us, ds, x3, rfl, rfl, e1, h1, h2, hd, hu, ht, hn⟩
  refine ⟨_, rfl, !st.reverse.isEmpty, .inl ⟨_, SqL.of h2, rfl⟩, ?_⟩
  cases hd with
  | nil =>
    rw [if_neg (by decide)]
    walk_at "rd"
    rw [List.flatMap_nil, List.append_nil] at ht
    rw [ht] at hu
    exact q lt H1 us e1 hlt h1 hu
  | @cons u i st is hi hst =>
    have hrev : (u :: st).reverse = st.reverse ++ [u] := List.reverse_cons
    rw [if_pos (by rw [hrev]; simp)]
    refine ⟨_, fun σ' H' z => z, ?_⟩
    walk_at "rd"
    rw [hrev] at h2
    have ne1 : lt ≠ lw := Ne.symm hne
    refine ⟨.inl ⟨rfl, _, SqL.of h2⟩, _, h2, u, by simp, ?_⟩
    rw [List.dropLast_concat]
    have k1 : KeepT K H1 (upd H1 lw (.lst st.reverse)) := keepT_lst h2
    rw [sumP_cons] at hn
    have pp := i.parts_pos
    have h1' : upd H1 lw (.lst st.reverse) lt = some (.lst us) := by rw [upd_ne ne1]; exact h1
    have k2 : KeepT K H1 (upd (upd H1 lw (.lst st.reverse)) lt (.lst (us ++ [u]))) := k1.trans (keepT_lst h1')
    refine ⟨.inl ⟨rfl, _, SqL.of h1'⟩, _, h1', small1M (by omega), ?_⟩
    have h2lw0 : upd (upd H1 lw (.lst st.reverse)) lt (.lst (us ++ [u])) lw = some (.lst st.reverse) := by rw [upd_ne hne, upd_same]
    refine ⟨.inl ⟨rfl, _, SqL.of h2lw0⟩, u, i, rfl, hi.keep k2, fun r H2 zs e2 hr0 hr2 hz => ?_⟩
    have h2lw := e2 lw _ h2lw0
    have h2lt := e2 lt _ upd_same
    have l1 := Paired.length hz
    have l2 := Paired.length hst
    have l3 := len_sumP is
    have l4 := len_sumP i.kids
    have l5 := sumP_kids i
    have E2 : Same H H2 := ((e1.write hlw0).write hlt).trans e2
    refine ⟨r, rfl, zs, SqL.of hr2, fun p hp => ⟨st.reverse, by rw [upd_ne (ne_of_none h2lw hp)]; exact h2lw, zs.reverse, upd_same, ?_, sumP (i.kids ++ is), ?_, zs ++ st, i.kids ++ is, rfl, ?_, us ++ [u], ?_, ?_, ?_, ds ++ [i], ?_, ?_, ?_⟩⟩
    · rw [List.length_reverse, List.length_reverse]
      exact Nat.le_of_lt (small1M (by omega))
    · rw [sumP_app, sumP_cons]; omega
    · exact (E2.trans (same_new hp _)).write hlw0
    · rw [upd_ne ne1, upd_ne (ne_of_none h2lt hp)]; exact h2lt
    · rw [upd_same, List.reverse_append]
    · have k3 : KeepT K H2 (upd (upd H2 p (.lst zs.reverse)) lw (.lst (st.reverse ++ zs.reverse))) := (keepT_new hp).trans (keepT_lst (by rw [upd_ne (ne_of_none h2lw hp)]; exact h2lw))
      exact paired_app (paired_keepT k3 hz) (paired_keepT ((k2.trans e2.keepT).trans k3) hst)
    · have k3 : KeepT K H2 (upd (upd H2 p (.lst zs.reverse)) lw (.lst (st.reverse ++ zs.reverse))) := (keepT_new hp).trans (keepT_lst (by rw [upd_ne (ne_of_none h2lw hp)]; exact h2lw))
      exact paired_keepT ((k2.trans e2.keepT).trans k3) (paired_app hu (.cons hi .nil))
    · rw [← ht, List.flatMap_append, List.flatMap_cons, Tm.pre_eq i]; simp
    · rw [List.length_append, List.length_singleton, sumP_app]; omega
end
set_option Elab.async false
set_option linter.all false
set_option maxRecDepth 100000
set_option maxHeartbeats 4000000
local macro_rules | `(tactic| walk_at "rdx_3") => `(tactic| simp only [tCompA, kAdd, iRngD, rRep, rIndexT, rInsert, rSetOf, rLtTm, tIf, rInT, iRev, tCallL, tComp, kNest, kTest, kApp, kPut, tSeq, tAsg, gName, tVar, tC, tOp, rI0, rI, rU, tUn, tRet, tRetN, tIfS, tTest, tB, tNext, tCons, tNil, tCB, tCall, tTup, tLst, tDrop, tAug, ipI, tAnd, tOr, tNot, tAndV, tOrV, tNotV, tBM, tBM0, rAppend, rExtend, rPop, rIxL, rIxT, rIxS, rCat, rEq, rNe, rMulS, tSl, rSlL, rSlS, tPart, tNoPart, tRev, rJoin, tDGet, tDisp, tPairs, tFs, tFv, tFc, tF0, tKD, rIsi, rEqD, tNever, tChain, rIn, rSetL, gSub, iEnum, iStr, tKNotIn, tDIn, tDNotIn, sDPut, gTup, gCons, gNil, iRng1, iRng2, iList, iTup, iZip, iZipT, rRevd, L2.start, capt,
  List.map_cons, List.map_nil, List.length_cons, List.length_nil, List.cons_append, List.nil_append, List.append_nil, List.replicate_succ, List.replicate_zero, Nat.reduceAdd, Nat.reduceSub, Nat.zero_add, Nat.add_zero, Nat.sub_zero, Nat.sub_self, List.getElem?_cons_zero, List.getElem?_cons_succ, List.getElem?_nil, List.set_cons_zero, List.set_cons_succ, Option.some.injEq, V.int.injEq, V.str.injEq, V.ref.injEq, V.bl.injEq, V.ty.injEq, List.cons.injEq, and_true, true_and, exists_eq_left', exists_eq_left, exists_and_left, exists_eq, exists_eq', and_assoc, Option.join_some, Option.join_none, scal_int, scal_str, scal_bl, cxOf_K, cxC_K, cxOf_prog, cxOf_w, blk_prog, blk_w, blk_K, decide_eq_true_eq])
local macro_rules | `(tactic| walk_at "rd") => `(tactic| walk_at "rdx_3")
local macro_rules | `(tactic| walk_at "rdx_4") => `(tactic| simp only [tCompA, kAdd, iRngD, rRep, rIndexT, rInsert, rSetOf, rLtTm, tIf, rInT, iRev, tCallL, tComp, kNest, kTest, kApp, kPut, tFor, tLC, tVar, tC, tOp, rI0, rI, rU, tUn, tTest, tB, tCons, tNil, tCB, tCall, tTup, tLst, ipI, tAnd, tOr, tNot, tAndV, tOrV, tNotV, tBM, tBM0, rAppend, rExtend, rPop, rIxL, rIxT, rIxS, rCat, rEq, rNe, rMulS, tSl, rSlL, rSlS, tPart, tNoPart, tRev, rJoin, tDGet, tDisp, tPairs, tFs, tFv, tFc, tF0, tKD, rIsi, rEqD, tNever, tChain, rIn, rSetL, iEnum, iStr, tKNotIn, tDIn, tDNotIn, iRng1, iRng2, iList, iTup, iZip, iZipT, rRevd, L2.start, capt,
  List.map_cons, List.map_nil, List.length_cons, List.length_nil, List.cons_append, List.nil_append, List.append_nil, List.replicate_succ, List.replicate_zero, Nat.reduceAdd, Nat.reduceSub, Nat.zero_add, Nat.add_zero, Nat.sub_zero, Nat.sub_self, List.getElem?_cons_zero, List.getElem?_cons_succ, List.getElem?_nil, List.set_cons_zero, List.set_cons_succ, Option.some.injEq, V.int.injEq, V.str.injEq, V.ref.injEq, V.bl.injEq, V.ty.injEq, List.cons.injEq, and_true, true_and, exists_eq_left', exists_eq_left, exists_and_left, exists_eq, exists_eq', and_assoc, Option.join_some, Option.join_none, scal_int, scal_str, scal_bl, cxOf_K, cxC_K, cxOf_prog, cxOf_w, blk_prog, blk_w, blk_K, decide_eq_true_eq])
local macro_rules | `(tactic| walk_at "ri") => `(tactic| walk_at "rdx_4")
abbrev s_later : Stmt := top 7
theorem sc_later : FnScope ["worlds", "world", "found", "number"] ["worlds", "world"] (defScope s_later) := ⟨rfl, rfl, rfl, by decide +kernel, rfl, by decide +kernel, by decide +kernel⟩
abbrev s__law_later : Stmt := top 20
theorem sc__law_later : FnScope ["_law_worlds_here", "_law_world", "_law_found", "_law_number"] ["_law_worlds_here", "_law_world"] (defScope s__law_later) := ⟨rfl, rfl, rfl, by decide +kernel, rfl, by decide +kernel, by decide +kernel⟩
abbrev s__law_truths : Stmt := top 21
theorem sc__law_truths : FnScope ["_law_found", "_law_size"] ["_law_found", "_law_size"] (defScope s__law_truths) := ⟨rfl, rfl, rfl, by decide +kernel, rfl, by decide +kernel, by decide +kernel⟩
section
variable {P : Program} {w : World} {K : PySem.W.Frag} {mg : Str → Option Value} {base : Heap}
theorem ok_later {k : Nat} {f_later : Addr} {fd_later : FuncData} (F_later : Fun K "later" "later" s_later f_later fd_later) (m_range : mg "range" = none) (m_list : mg "list" = none) (m_len : mg "len" = none) : FnOk P w K mg base CX0 (k + 1) f_later fd_later ["worlds", "world"] (sp_later2 K) := by
  refine F_later.ok sc_later (fun vs H Q E h => ?_) (fun cdv A outer s H vs Q E hr h => ?_)
  · obtain ⟨a, xs, ws, wd, rfl, _⟩ := h
    rfl
  obtain ⟨a, xs, ws, wd, rfl, ha, hW, hg, hw, hl, q⟩ := h
  have lx : xs.length = ws.length := Paired.length hW
  refine ⟨_, (pss_cons (ps_set (i := 2) sc_later.nd rfl (Or.inl rfl) (pe_disp (pps_cons (pv 1) pe_bl pps_nil) rfl rfl (by simp) (by decide)))
  (pss_cons (ps_for PassesOwn.never rfl (pi_range2 rfl m_range (pa_cons (pe_op op_add (pv 1) pe_int) (pa_cons (pe_callB call_len_seq (by exact rfl) m_len Ken.boot_len (pa_cons (pv 0) pa_nil)) pa_nil))) (pg_name (i := 3) sc_later.nd rfl (Or.inl rfl))
    (pss_one (ps_if (pt_cmp (pc_din (hu_of hr) (pe_ix ix_tup (pe_ix ix_list (pv 0) (pv 3) (fun _ _ => rfl)) pe_int (fun _ _ => rfl)) (pv 2)) (by with_unfolding_all rfl))
    (pss_one (ps_dput (hu_of hr) (pv 2) (pv 3) pe_bl rfl))
    pss_nil)))
  (pss_one (ps_ret (pe_callTy (call_list_dict rfl) (by exact rfl) m_list Ken.boot_list (pa_cons (pv 2) pa_nil)))))), ?_⟩
  refine seq_then (fun σ' H' => ∃ d, σ' = [some (.ref a), some (.int wd), some (.ref d), none] ∧ Same H H' ∧ H d = none ∧ H' d = some (.dK ((latN ws wd 0).map fun n => (Sum.inl ((n : Nat) : Int), V.bl true)))) ?_ ?_
  rotate_left
  · intro C hC
    walk_at "rd"
    exact fun p hp => ⟨upd_same, [(Sum.inl (wd : Int), .bl true)], rfl, by simp, hC _ _ ⟨p, rfl, (same_new hp _).write hp, hp, upd_same⟩⟩
  rintro σ1 H1 ⟨d, rfl, e1, f1, h1⟩
  refine seq_then (fun σ' H' => ∃ x3, σ' = [some (.ref a), some (.int wd), some (.ref d), x3] ∧ Same H H' ∧ H' d = some (.dK ((latN ws wd (ws.length - (wd + 1))).map fun n => (Sum.inl ((n : Nat) : Int), V.bl true)))) ?_ ?_
  rotate_left
  · intro C hC
    walk_at "ri"
    refine ⟨xs, .inl (SqL.of (e1 _ _ ha)), by omega, by omega, by omega, by omega, ?_⟩
    have en : ((xs.length : Int) - ((wd : Int) + 1)).toNat = ws.length - (wd + 1) := by omega
    rw [en]
    refine for_range (D := { nx := C, rt := Q }) (n := ws.length - (wd + 1)) (lo := (wd : Int) + 1) (fun i σ' H' => ∃ x3, σ' = [some (.ref a), some (.int wd), some (.ref d), x3] ∧ Same H H' ∧ H' d = some (.dK (latD (latN ws wd i)))) ⟨none, rfl, e1, h1⟩ (fun i σ' H' hi hp => ?_) (fun σ' H' hp => hC _ _ hp)
    obtain ⟨x3, rfl, e, hd⟩ := hp
    have hk : wd + 1 + i < xs.length := by omega
    obtain ⟨x, hx, p, qq, hv, hs, hq⟩ := paired_get hW (List.getElem?_eq_getElem hk)
    obtain ⟨j, ej, lj⟩ := (hg _ x hx).2 (by omega)
    have eb : bef ws (wd + 1 + i) = some j := by unfold bef; rw [hx]; exact ej
    have eg : goes ws (latN ws wd i) (wd + 1 + i) = decide (j ∈ latN ws wd i) := by unfold goes; rw [eb]
    have el : latN ws wd (i + 1) = if goes ws (latN ws wd i) (wd + 1 + i) = true then latN ws wd i ++ [wd + 1 + i] else latN ws wd i := rfl
    rw [eg] at el
    rw [ej] at hs
    walk_at "rd"
    have ai : atI xs ((wd : Int) + 1 + (i : Int)) = some xs[wd + 1 + i] := atI_nat (j := wd + 1 + i) (List.getElem?_eq_getElem hk)
    have dl := (latN_len (ws := ws) (w := wd) i).1
    refine ⟨_, SqL.of (e _ _ ha), _, ai, p, hv, _, e.sqt hs, .int (j : Nat), rfl, _, DGet.k (k := Sum.inl ((j : Nat) : Int)) hd, ?_⟩
    rw [lat_val]
    by_cases hin : j ∈ latN ws wd i
    · rw [decide_eq_true hin, if_pos rfl]
      rw [decide_eq_true hin, if_pos rfl] at el
      refine ⟨_, DPut.k (k := Sum.inl ((wd : Int) + 1 + (i : Int))) hd (by rw [List.length_map]; exact small1M (by omega)), e.write f1, ?_⟩
      have nin : ¬ (wd + 1 + i) ∈ latN ws wd i := fun z => by have := latN_le i _ z; omega
      have pn := putK_new (.bl true) (lat_none nin)
      rw [upd_same, el]
      have e2 : (Sum.inl ((wd : Int) + 1 + (i : Int)) : Key) = Sum.inl ((wd + 1 + i : Nat) : Int) := rfl
      rw [e2, pn]
      show _ = some (HO.dK ((latN ws wd i ++ [wd + 1 + i]).map _))
      rw [List.map_append]; rfl
    · rw [decide_eq_false hin, if_neg Bool.false_ne_true]
      rw [decide_eq_false hin, if_neg Bool.false_ne_true] at el
      rw [el]
      exact ⟨e, hd⟩
  rintro σ2 H2 ⟨x3, rfl, e2, h2⟩
  walk_at "rd"
  refine ⟨_, h2, fun l hl => q _ _ (e2.trans (same_new hl _)) (e2.free hl) ?_⟩
  rw [upd_same, List.map_map]
  rfl
theorem ok__law_later {k : Nat} {f__law_later : Addr} {fd__law_later : FuncData} (F__law_later : Fun K "_law_later" "_law_later" s__law_later f__law_later fd__law_later) (m_range : mg "range" = none) (m_len : mg "len" = none) : FnOk P w K mg base CX0 (k + 1) f__law_later fd__law_later ["_law_worlds_here", "_law_world"] (sp_laterL K) := by
  refine F__law_later.ok sc__law_later (fun vs H Q E h => ?_) (fun cdv A outer s H vs Q E hr h => ?_)
  · obtain ⟨a, xs, ws, wd, rfl, _⟩ := h
    rfl
  obtain ⟨a, xs, ws, wd, rfl, ha, hW, hg, hw, hl, q⟩ := h
  have lx : xs.length = ws.length := Paired.length hW
  refine ⟨_, (pss_cons (ps_set (i := 2) sc__law_later.nd rfl (Or.inl rfl) (pe_lst (pa_cons (pv 1) pa_nil)))
  (pss_cons (ps_for PassesOwn.never rfl (pi_range2 rfl m_range (pa_cons (pe_op op_add (pv 1) pe_int) (pa_cons (pe_callB call_len_seq (by exact rfl) m_len Ken.boot_len (pa_cons (pv 0) pa_nil)) pa_nil))) (pg_name (i := 3) sc__law_later.nd rfl (Or.inl rfl))
    (pss_one (ps_if (pt_cmpR (op_in_seq) (pe_ix ix_tup (pe_ix ix_list (pv 0) (pv 3) (fun _ _ => rfl)) pe_int (fun _ _ => rfl)) (pv 2) (by with_unfolding_all rfl))
    (pss_one (ps_expr (pe_bm PySem.F.plainAttrs_list PySem.F.slot_list_append PySem.F.type_list_append mt_append (pv 2) (pa_cons (pv 3) pa_nil))))
    pss_nil)))
  (pss_one (ps_ret (pv 2))))), ?_⟩
  refine seq_then (fun σ' H' => ∃ d, σ' = [some (.ref a), some (.int wd), some (.ref d), none] ∧ Same H H' ∧ H d = none ∧ H' d = some (.lst (natsV (latN ws wd 0)))) ?_ ?_
  rotate_left
  · intro C hC
    walk_at "rd"
    exact ⟨by decide, fun p hp => hC _ _ ⟨p, rfl, same_new hp _, hp, upd_same⟩⟩
  rintro σ1 H1 ⟨d, rfl, e1, f1, h1⟩
  refine seq_then (fun σ' H' => ∃ x3, σ' = [some (.ref a), some (.int wd), some (.ref d), x3] ∧ Same H H' ∧ H' d = some (.lst (natsV (lat ws wd)))) ?_ ?_
  rotate_left
  · intro C hC
    walk_at "ri"
    refine ⟨xs, .inl (SqL.of (e1 _ _ ha)), by omega, by omega, by omega, by omega, ?_⟩
    have en : ((xs.length : Int) - ((wd : Int) + 1)).toNat = ws.length - (wd + 1) := by omega
    rw [en]
    refine for_range (D := { nx := C, rt := Q }) (n := ws.length - (wd + 1)) (lo := (wd : Int) + 1) (fun i σ' H' => ∃ x3, σ' = [some (.ref a), some (.int wd), some (.ref d), x3] ∧ Same H H' ∧ H' d = some (.lst (natsV (latN ws wd i)))) ⟨none, rfl, e1, h1⟩ (fun i σ' H' hi hp => ?_) (fun σ' H' hp => hC _ _ hp)
    obtain ⟨x3, rfl, e, hd⟩ := hp
    have hk : wd + 1 + i < xs.length := by omega
    obtain ⟨x, hx, p, qq, hv, hs, hq⟩ := paired_get hW (List.getElem?_eq_getElem hk)
    obtain ⟨j, ej, lj⟩ := (hg _ x hx).2 (by omega)
    have eb : bef ws (wd + 1 + i) = some j := by unfold bef; rw [hx]; exact ej
    have eg : goes ws (latN ws wd i) (wd + 1 + i) = decide (j ∈ latN ws wd i) := by unfold goes; rw [eb]
    have el : latN ws wd (i + 1) = if goes ws (latN ws wd i) (wd + 1 + i) = true then latN ws wd i ++ [wd + 1 + i] else latN ws wd i := rfl
    rw [eg] at el
    rw [ej] at hs
    walk_at "rd"
    have ai : atI xs ((wd : Int) + 1 + (i : Int)) = some xs[wd + 1 + i] := atI_nat (j := wd + 1 + i) (List.getElem?_eq_getElem hk)
    have dl := (latN_len (ws := ws) (w := wd) i).1
    refine ⟨_, SqL.of (e _ _ ha), _, ai, p, hv, _, e.sqt hs, .int (j : Nat), rfl, _, .inl (SqL.of hd), rfl, nats_flat _, ?_⟩
    rw [if_neg Bool.false_ne_true, in_nats]
    by_cases hin : j ∈ latN ws wd i
    · rw [decide_eq_true hin, if_pos rfl]
      rw [decide_eq_true hin, if_pos rfl] at el
      refine ⟨.inl ⟨rfl, _, SqL.of hd⟩, _, hd, small1M (by rw [natsV_len]; omega), e.write f1, ?_⟩
      rw [upd_same, el]
      show some (HO.lst ((latN ws wd i).map _ ++ [_])) = some (HO.lst ((latN ws wd i ++ [wd + 1 + i]).map _))
      rw [List.map_append]; rfl
    · rw [decide_eq_false hin, if_neg Bool.false_ne_true]
      rw [decide_eq_false hin, if_neg Bool.false_ne_true] at el
      rw [el]
      exact ⟨e, hd⟩
  rintro σ2 H2 ⟨x3, rfl, e2, h2⟩
  walk_at "rd"
  exact q _ _ e2 f1 h2
theorem ok__law_truths {k : Nat} {f__law_truths : Addr} {fd__law_truths : FuncData} (F__law_truths : Fun K "_law_truths" "_law_truths" s__law_truths f__law_truths fd__law_truths) (m_isinstance : mg "isinstance" = none) (m_list : mg "list" = none) (m_len : mg "len" = none) (m_bool : mg "bool" = none) : FnOk P w K mg base CX0 (k + 1) f__law_truths fd__law_truths ["_law_found", "_law_size"] sp_truths := by
  refine F__law_truths.ok sc__law_truths (fun vs H Q E h => ?_) (fun cdv A outer s H vs Q E hr h => ?_)
  · obtain ⟨l, bs, rfl, _⟩ := h
    rfl
  obtain ⟨l, bs, rfl, hl, hn, q⟩ := h
  refine ⟨_, (pss_cons (ps_if ((pw_or (pt_not (pt_val (pe_callB call_isi (by exact rfl) m_isinstance Ken.boot_isinstance (pa_cons (pv 0) (pa_cons (pe_bltn (v := .ty "list") (by exact rfl) m_list Ken.boot_list (by exact rfl)) pa_nil))))) (pw_or1 (pt_cmpR (op_ne) (pe_callB call_len_seq (by exact rfl) m_len Ken.boot_len (pa_cons (pv 0) pa_nil)) (pv 1) (nomark _))))).pt
    (pss_one (ps_ret pe_bl))
    pss_nil)
  (pss_one (ps_ret (pe_cmpR (op_eqD (hu_150 hr)) (pe_lcG (blk0 (N' := ["_law_truth"]) (by decide +kernel) (by decide +kernel) rfl (by decide +kernel)) rfl (pi_list (pv 0)) (fun _ _ _ _ => (pg_name (i := 0) (show (["_law_truth"] : List Str).Nodup from by decide +kernel) rfl (Or.inl rfl))) (fun _ _ => turn_L1 (tg2 := (.Name "" ⟨0, 0, 0, 0⟩)) (iter2 := (.Name "" ⟨0, 0, 0, 0⟩))) (fun _ _ _ _ _ => (pk_test (pt_not (pt_val (pe_callB (call_isiK (K := K) rfl) (by exact rfl) (by exact m_isinstance) Ken.boot_isinstance (pa_cons (pv 0) (pa_cons (pe_bltn (v := .ty "bool") (by exact rfl) (by exact m_bool) Ken.boot_bool (by exact rfl)) pa_nil))))) (pk_emitL (pv 0))))) (pe_lst pa_nil) (nomark _))))), ?_⟩
  walk_at "rd"
  refine ⟨_, .of (.lst hl), _, kit_same K "list", ?_⟩
  rw [if_neg (by decide)]
  refine ⟨_, .inl (SqL.of hl), ?_⟩
  rw [if_neg (by simp)]
  refine ⟨⟨_, SqL.of hl⟩, fun acc hacc => ?_⟩
  refine comp_list (xs := bls bs) (fun i H' => Same H H' ∧ H' acc = some (.lst [])) ⟨same_new hacc _, upd_same⟩ (fun i H' _ ⟨e, _⟩ => SqL.of (e _ _ hl)) (fun i u H' N hx ⟨e, h⟩ hN => ?_) (fun H' ⟨e, h⟩ => ?_)
  · rw [List.getElem?_map] at hx
    cases eb : bs[i]? with
    | none => rw [eb] at hx; cases hx
    | some b =>
      rw [eb] at hx; cases hx
      walk_at "rd"
      refine ⟨wk_set (i := 0) rfl, _, .of (.bl _), _, kit_same K "bool", ?_⟩
      rw [if_neg (by decide)]
      exact hN _ ⟨e, h⟩
  · refine ⟨Nat.zero_le _, fun p hp => ?_⟩
    have sp := same_new hp (HO.lst [])
    refine ⟨.list [], ?_, .list [], ?_, rfl, rfl, by decide, ?_⟩
    · rw [Dn]; exact ⟨acc, [], rfl, SqL.of (sp _ _ h), by rw [DnAll]⟩
    · rw [Dn]; exact ⟨p, [], rfl, SqL.of upd_same, by rw [DnAll]⟩
    rw [if_neg Bool.false_ne_true]
    exact q _ (e.trans sp)
end
set_option Elab.async false
set_option linter.all false
set_option maxRecDepth 100000
set_option maxHeartbeats 4000000
local macro_rules | `(tactic| walk_at "rdx_5") => `(tactic| simp only [tCompA, kAdd, iRngD, rRep, rIndexT, rIndexN, rListR1, rListR2, rInsert, rSetOf, rLtTm, tIf, rInT, iRev, tCallL, tComp, kNest, kTest, kApp, kPut, tSeq, tAsg, gName, tVar, tC, tOp, rI0, rI, rU, tUn, tRet, tRetN, tIfS, tTest, tB, tNext, tCons, tNil, tCB, tCall, tTup, tLst, tDrop, tAug, ipI, tAnd, tOr, tNot, tAndV, tOrV, tNotV, tBM, tBM0, rAppend, rExtend, rPop, rIxL, rIxT, rIxS, rCat, rEq, rNe, rMulS, tSl, rSlL, rSlS, tPart, tNoPart, tRev, rJoin, tDGet, tDisp, tPairs, tFs, tFv, tFc, tF0, tKD, rIsi, rEqD, tNever, tChain, rIn, rSetL, gSub, iEnum, iStr, tKNotIn, tDIn, tDNotIn, sDPut, gTup, gCons, gNil, iRng1, iRng2, iList, iTup, iZip, iZipT, rRevd, L2.start, capt,
  List.map_cons, List.map_nil, List.length_cons, List.length_nil, List.cons_append, List.nil_append, List.append_nil, List.replicate_succ, List.replicate_zero, Nat.reduceAdd, Nat.reduceSub, Nat.zero_add, Nat.add_zero, Nat.sub_zero, Nat.sub_self, List.getElem?_cons_zero, List.getElem?_cons_succ, List.getElem?_nil, List.set_cons_zero, List.set_cons_succ, Option.some.injEq, V.int.injEq, V.str.injEq, V.ref.injEq, V.bl.injEq, V.ty.injEq, List.cons.injEq, and_true, true_and, exists_eq_left', exists_eq_left, exists_and_left, exists_eq, exists_eq', and_assoc, Option.join_some, Option.join_none, scal_int, scal_str, scal_bl, cxOf_K, cxC_K, cxOf_prog, cxOf_w, blk_prog, blk_w, blk_K, decide_eq_true_eq])
local macro_rules | `(tactic| walk_at "rd") => `(tactic| walk_at "rdx_5")
local macro_rules | `(tactic| walk_at "rdx_6") => `(tactic| simp only [tCompA, kAdd, iRngD, rRep, rIndexT, rIndexN, rListR1, rListR2, rInsert, rSetOf, rLtTm, tIf, rInT, iRev, tCallL, tComp, kNest, kTest, kApp, kPut, tFor, tLC, tVar, tC, tOp, rI0, rI, rU, tUn, tTest, tB, tCons, tNil, tCB, tCall, tTup, tLst, ipI, tAnd, tOr, tNot, tAndV, tOrV, tNotV, tBM, tBM0, rAppend, rExtend, rPop, rIxL, rIxT, rIxS, rCat, rEq, rNe, rMulS, tSl, rSlL, rSlS, tPart, tNoPart, tRev, rJoin, tDGet, tDisp, tPairs, tFs, tFv, tFc, tF0, tKD, rIsi, rEqD, tNever, tChain, rIn, rSetL, iEnum, iStr, tKNotIn, tDIn, tDNotIn, iRng1, iRng2, iList, iTup, iZip, iZipT, rRevd, L2.start, capt,
  List.map_cons, List.map_nil, List.length_cons, List.length_nil, List.cons_append, List.nil_append, List.append_nil, List.replicate_succ, List.replicate_zero, Nat.reduceAdd, Nat.reduceSub, Nat.zero_add, Nat.add_zero, Nat.sub_zero, Nat.sub_self, List.getElem?_cons_zero, List.getElem?_cons_succ, List.getElem?_nil, List.set_cons_zero, List.set_cons_succ, Option.some.injEq, V.int.injEq, V.str.injEq, V.ref.injEq, V.bl.injEq, V.ty.injEq, List.cons.injEq, and_true, true_and, exists_eq_left', exists_eq_left, exists_and_left, exists_eq, exists_eq', and_assoc, Option.join_some, Option.join_none, scal_int, scal_str, scal_bl, cxOf_K, cxC_K, cxOf_prog, cxOf_w, blk_prog, blk_w, blk_K, decide_eq_true_eq])
local macro_rules | `(tactic| walk_at "ri") => `(tactic| walk_at "rdx_6")
abbrev s__law_alone : Stmt := top 22
theorem sc__law_alone : FnScope ["_law_worlds_here", "_law_some_here", "_law_made", "_law_number", "_law_before", "_law_words_here"] ["_law_worlds_here", "_law_some_here"] (defScope s__law_alone) := ⟨rfl, rfl, rfl, by decide +kernel, rfl, by decide +kernel, by decide +kernel⟩
section
variable {P : Program} {w : World} {K : PySem.W.Frag} {mg : Str → Option Value} {base : Heap}
theorem alone_ok {ws : List Wd} {L : List Nat} {i : Nat} {ws' : List Wd} (A : AloneI ws L i ws') (ok : okWs ws) (hi : i ≤ L.length) (lo : ∀ n ∈ L, n < ws.length) : okWs ws' := fun x hx => by
  obtain ⟨k, hk, e⟩ := List.getElem_of_mem hx
  have hk' : k < i := by have := A.len; omega
  have h1 : L[k]? = some L[k] := List.getElem?_eq_getElem (by omega)
  have h2 := lo _ (List.mem_of_getElem? h1)
  obtain ⟨b, z1, _⟩ := A.at_ k _ _ hk' h1 (List.getElem?_eq_getElem h2)
  rw [List.getElem?_eq_getElem hk, e] at z1
  cases z1
  exact fun y hy => ok (ws[L[k]]) (List.getElem_mem h2) y hy
theorem ok__law_alone {k : Nat} {f__law_alone : Addr} {fd__law_alone : FuncData} (F__law_alone : Fun K "_law_alone" "_law_alone" s__law_alone f__law_alone fd__law_alone) (m_list : mg "list" = none) : FnOk P w K mg base CX0 (k + 1) f__law_alone fd__law_alone ["_law_worlds_here", "_law_some_here"] (sp_alone K) := by
  refine F__law_alone.ok sc__law_alone (fun vs H Q E h => ?_) (fun cdv A outer s H vs Q E hr h => ?_)
  · obtain ⟨a, la, xs, ws, wd, rfl, _⟩ := h
    rfl
  obtain ⟨a, la, xs, ws, wd, rfl, ha, hW, hg, hok, hw, hl, hla, q⟩ := h
  have lx : xs.length = ws.length := Paired.length hW
  have C : Closed ws wd (lat ws wd) := latN_closed hg hw hl
  have hge : ∀ n ∈ lat ws wd, wd ≤ n := fun n hn => (latN_le _ n hn).1
  have hlen := C.len
  refine ⟨_, (pss_cons (ps_set (i := 2) sc__law_alone.nd rfl (Or.inl rfl) (pe_lst pa_nil))
  (pss_cons (ps_for PassesOwn.never rfl (pi_list (pv 1)) (pg_name (i := 3) sc__law_alone.nd rfl (Or.inl rfl))
    (pss_cons (ps_asg (pe_ix ix_list (pv 0) (pv 3) (fun _ _ => rfl)) (pg_tup rfl (pgs_cons (pg_name (i := 4) sc__law_alone.nd rfl (Or.inl rfl)) (pgs_cons (pg_name (i := 5) sc__law_alone.nd rfl (Or.inl rfl)) pgs_nil))))
  (pss_one (ps_if (pt_cmpR (op_eqD (hu_150 hr)) (pv 2) (pe_lst pa_nil) (nomark _))
    (pss_one (ps_expr (pe_bm PySem.F.plainAttrs_list PySem.F.slot_list_append PySem.F.type_list_append mt_append (pv 2) (pa_cons (pe_tup (pa_cons pe_non (pa_cons (pe_callTy call_list_of (by exact rfl) m_list Ken.boot_list (pa_cons (pv 5) pa_nil)) pa_nil))) pa_nil))))
    (pss_one (ps_expr (pe_bm PySem.F.plainAttrs_list PySem.F.slot_list_append PySem.F.type_list_append mt_append (pv 2) (pa_cons (pe_tup (pa_cons (pe_bm PySem.F.plainAttrs_list PySem.F.slot_list_index PySem.F.type_list_index mt_indexN (pv 1) (pa_cons (pv 4) pa_nil)) (pa_cons (pe_callTy call_list_of (by exact rfl) m_list Ken.boot_list (pa_cons (pv 5) pa_nil)) pa_nil))) pa_nil))))))))
  (pss_one (ps_ret (pv 2))))), ?_⟩
  refine seq_then (fun σ' H' => ∃ d, σ' = [some (.ref a), some (.ref la), some (.ref d), none, none, none] ∧ Same H H' ∧ H d = none ∧ H' d = some (.lst [])) ?_ ?_
  rotate_left
  · intro C hC
    walk_at "rd"
    exact ⟨by decide, fun p hp => hC _ _ ⟨p, rfl, same_new hp _, hp, upd_same⟩⟩
  rintro σ1 H1 ⟨d, rfl, e1, f1, h1⟩
  refine seq_then (fun σ' H' => ∃ x3 x4 x5 us ws', σ' = [some (.ref a), some (.ref la), some (.ref d), x3, x4, x5] ∧ Same H H' ∧ H' d = some (.lst us) ∧ Paired (AtWn K H' d) us ws' ∧ AloneI ws (lat ws wd) (lat ws wd).length ws') ?_ ?_
  rotate_left
  · intro C' hC
    walk_at "ri"
    refine ⟨⟨natsV (lat ws wd), SqL.of (e1 _ _ hla)⟩, ?_⟩
    refine for_list (D := { nx := C', rt := Q }) (xs := natsV (lat ws wd)) (fun i σ' H' => ∃ x3 x4 x5 us ws', σ' = [some (.ref a), some (.ref la), some (.ref d), x3, x4, x5] ∧ Same H H' ∧ H' d = some (.lst us) ∧ Paired (AtWn K H' d) us ws' ∧ AloneI ws (lat ws wd) i ws') ⟨none, none, none, [], [], rfl, e1, h1, .nil, .nil _ _⟩ (fun i σ' H' _ ⟨_, _, _, _, _, _, e, _⟩ => SqL.of (e _ _ hla)) (fun i x σ' H' hx hp => ?_) (fun σ' H' ⟨x3, x4, x5, us, ws', g1, g2, g3, g4, g5⟩ => hC _ _ ⟨x3, x4, x5, us, ws', g1, g2, g3, g4, by rw [natsV_len] at g5; exact g5⟩)
    obtain ⟨x3, x4, x5, us, ws', rfl, e, hd, hu, hA⟩ := hp
    have hx' := hx
    unfold natsV at hx
    rw [List.getElem?_map] at hx
    cases en : (lat ws wd)[i]? with
    | none => rw [en] at hx; cases hx
    | some n =>
    rw [en] at hx; cases hx
    have hn := C.low n (List.mem_of_getElem? en)
    have hi := (List.getElem?_eq_some_iff.mp en).1
    have hn' : n < xs.length := by omega
    obtain ⟨y, hy, p, qq, hv, hs, hq⟩ := paired_get hW (List.getElem?_eq_getElem hn')
    have hok' := alone_ok hA hok (by omega) C.low
    have lu := Paired.length hu
    have lA := hA.len
    walk_at "rd"
    refine ⟨_, SqL.of (e _ _ ha), _, atI_nat (List.getElem?_eq_getElem hn'), p, hv, _, e.sqt hs, rfl, _, _, rfl, _, _, rfl, rfl, by decide, fun t ht => ?_⟩
    have s2 := same_new ht (HO.lst [])
    have hd2 := s2 _ _ hd
    have hu2 : Paired (AtWn K (upd H' t (HO.lst [])) d) us ws' := Paired.mapP hu fun _ _ z => z.keep s2
    have e2 := e.trans s2
    have fin : ∀ (b : Option Nat) (l r : Addr), upd H' t (HO.lst []) l = none → upd (upd H' t (HO.lst [])) l (HO.lst (y.2.map V.str)) r = none → (i = 0 → b = none) → (0 < i → ∃ j m, y.1 = some j ∧ (lat ws wd)[m]? = some j ∧ b = some m ∧ m < i) →
        ∃ x, upd (upd (upd H' t (HO.lst [])) l (HO.lst (y.2.map V.str))) r (HO.tup [bV b, V.ref l]) d = some (HO.lst x) ∧ x.length < sizeLine ∧ Same H (upd (upd (upd (upd H' t (HO.lst [])) l (HO.lst (y.2.map V.str))) r (HO.tup [bV b, V.ref l])) d (HO.lst (x ++ [V.ref r]))) ∧
          ∃ x_1, upd (upd (upd (upd H' t (HO.lst [])) l (HO.lst (y.2.map V.str))) r (HO.tup [bV b, V.ref l])) d (HO.lst (x ++ [V.ref r])) d = some (HO.lst x_1) ∧
            ∃ x_2, Paired (AtWn K (upd (upd (upd (upd H' t (HO.lst [])) l (HO.lst (y.2.map V.str))) r (HO.tup [bV b, V.ref l])) d (HO.lst (x ++ [V.ref r]))) d) x_1 x_2 ∧ AloneI ws (lat ws wd) (i + 1) x_2 := fun b l r hl hr h3 h4 => by
      have s3 := same_new hl (HO.lst (y.2.map V.str))
      have s4 := same_new hr (HO.tup [bV b, V.ref l])
      have s34 := s3.trans s4
      have hd4 := s34 _ _ hd2
      have nl : l ≠ d := fun z => by subst z; rw [hd2] at hl; cases hl
      have hl4 : upd (upd (upd H' t (HO.lst [])) l (HO.lst (y.2.map V.str))) r (HO.tup [bV b, V.ref l]) l = some (HO.lst (y.2.map V.str)) := s4 _ _ upd_same
      refine ⟨us, hd4, small1M (by omega), (e2.trans s34).write f1, _, upd_same, ws' ++ [(b, y.2)], ?_, hA.snoc en hy h3 h4⟩
      refine paired_app (Paired.mapP hu2 fun _ _ z => (z.keep s34).write hd4) (.cons ?_ .nil)
      exact AtWn.write hd4 ⟨r, l, nl, rfl, SqT.of upd_same, hl4⟩
    by_cases hi0 : i = 0
    · have hw0 : ws' = [] := List.eq_nil_of_length_eq_zero (by omega)
      refine ⟨.list (ws'.map wdD), ?_, .list [], ?_, wds_lay hok', rfl, by have := wds_depth ws'; omega, ?_⟩
      · rw [Dn]; exact ⟨d, _, rfl, SqL.of hd2, wds_dn (Paired.mapP hu2 fun _ _ z => z.at)⟩
      · rw [Dn]; exact ⟨t, _, rfl, SqL.of upd_same, by rw [DnAll]⟩
      rw [hw0]
      rw [if_pos (by rfl)]
      refine ⟨.inl ⟨rfl, _, SqL.of hd2⟩, qq, rfl, _, .inl (SqL.of (e2 _ _ hq)), fun l hl => ⟨by decide, fun r hr => ?_⟩⟩
      exact fin none l r hl hr (fun _ => rfl) (fun z => absurd hi0 (by omega))
    · have hne : PyData.eqv (.list (ws'.map wdD)) (.list []) = false := by
        cases ws' with
        | nil => exact absurd lA.symm hi0
        | cons x xs => rfl
      have hwn : wd < n := by
        have := hge n (List.mem_of_getElem? en)
        rcases Nat.lt_or_ge wd n with z | z
        · exact z
        · have : n = wd := by omega
          subst this
          exact absurd (nodup_get C.rise en C.head) hi0
      obtain ⟨j, ej, lj⟩ := (hg n y hy).2 (by omega)
      have eb : bef ws n = some j := by unfold bef; rw [hy]; exact ej
      have hjL : j ∈ lat ws wd := by
        obtain ⟨j', e1', hj'⟩ := (C.mem n hwn hn).mp (List.mem_of_getElem? en)
        rw [eb] at e1'; cases e1'; exact hj'
      refine ⟨.list (ws'.map wdD), ?_, .list [], ?_, wds_lay hok', rfl, by have := wds_depth ws'; omega, ?_⟩
      · rw [Dn]; exact ⟨d, _, rfl, SqL.of hd2, wds_dn (Paired.mapP hu2 fun _ _ z => z.at)⟩
      · rw [Dn]; exact ⟨t, _, rfl, SqL.of upd_same, by rw [DnAll]⟩
      rw [hne, if_neg (by decide)]
      refine ⟨.inl ⟨rfl, _, SqL.of hd2⟩, .inl ⟨rfl, _, SqL.of (e2 _ _ hla)⟩, lat ws wd, j, by rw [ej]; rfl, SqL.of (e2 _ _ hla), hjL, fun m hm => ?_⟩
      refine ⟨qq, rfl, _, .inl (SqL.of (e2 _ _ hq)), fun l hl => ⟨by decide, fun r hr => ?_⟩⟩
      exact fin (some m) l r hl hr (fun z => absurd z hi0) (fun _ => ⟨j, m, ej, hm, rfl, lt_get C.rise hm en lj⟩)
  rintro σ2 H2 ⟨x3, x4, x5, us, ws', rfl, e2, h2, hu, hA⟩
  walk_at "rd"
  exact q _ _ us ws' e2 f1 h2 (Paired.mapP hu fun _ _ z => z.at) hA
end
set_option Elab.async false
set_option linter.all false
set_option maxRecDepth 100000
set_option maxHeartbeats 4000000
local macro_rules | `(tactic| walk_at "rdx_7") => `(tactic| simp only [tCompA, kAdd, iRngD, rRep, rIndexT, tIf, rInT, iRev, tCallL, tComp, kNest, kTest, kApp, kPut, tSeq, tAsg, gName, tVar, tC, tOp, rI0, rI, rU, tUn, tRet, tRetN, tIfS, tTest, tB, tNext, tCons, tNil, tCB, tCall, tTup, tLst, tDrop, tAug, ipI, tAnd, tOr, tNot, tAndV, tOrV, tNotV, tBM, tBM0, rAppend, rExtend, rPop, rIxL, rIxT, rIxS, rCat, rEq, rNe, rMulS, tSl, rSlL, rSlS, tPart, tNoPart, tRev, rJoin, tDGet, tDisp, tPairs, tFs, tFv, tFc, tF0, tKD, rIsi, rEqD, tNever, tChain, rIn, rSetL, gSub, iEnum, iStr, tKNotIn, tDIn, tDNotIn, sDPut, gTup, gCons, gNil, iRng1, iRng2, iList, iTup, iZip, iZipT, rRevd, L2.start, capt,
  List.map_cons, List.map_nil, List.length_cons, List.length_nil, List.cons_append, List.nil_append, List.append_nil, List.replicate_succ, List.replicate_zero, Nat.reduceAdd, Nat.reduceSub, Nat.zero_add, Nat.add_zero, Nat.sub_zero, Nat.sub_self, List.getElem?_cons_zero, List.getElem?_cons_succ, List.getElem?_nil, List.set_cons_zero, List.set_cons_succ, Option.some.injEq, V.int.injEq, V.str.injEq, V.ref.injEq, V.bl.injEq, V.ty.injEq, List.cons.injEq, and_true, true_and, exists_eq_left', exists_eq_left, exists_and_left, exists_eq, exists_eq', and_assoc, Option.join_some, Option.join_none, scal_int, scal_str, scal_bl, cxOf_K, cxC_K, cxOf_prog, cxOf_w, blk_prog, blk_w, blk_K, decide_eq_true_eq])
local macro_rules | `(tactic| walk_at "rd") => `(tactic| walk_at "rdx_7")
local macro_rules | `(tactic| walk_at "rdx_8") => `(tactic| simp only [tCompA, kAdd, iRngD, rRep, rIndexT, tIf, rInT, iRev, tCallL, tComp, kNest, kTest, kApp, kPut, tFor, tLC, tVar, tC, tOp, rI0, rI, rU, tUn, tTest, tB, tCons, tNil, tCB, tCall, tTup, tLst, ipI, tAnd, tOr, tNot, tAndV, tOrV, tNotV, tBM, tBM0, rAppend, rExtend, rPop, rIxL, rIxT, rIxS, rCat, rEq, rNe, rMulS, tSl, rSlL, rSlS, tPart, tNoPart, tRev, rJoin, tDGet, tDisp, tPairs, tFs, tFv, tFc, tF0, tKD, rIsi, rEqD, tNever, tChain, rIn, rSetL, iEnum, iStr, tKNotIn, tDIn, tDNotIn, iRng1, iRng2, iList, iTup, iZip, iZipT, rRevd, L2.start, capt,
  List.map_cons, List.map_nil, List.length_cons, List.length_nil, List.cons_append, List.nil_append, List.append_nil, List.replicate_succ, List.replicate_zero, Nat.reduceAdd, Nat.reduceSub, Nat.zero_add, Nat.add_zero, Nat.sub_zero, Nat.sub_self, List.getElem?_cons_zero, List.getElem?_cons_succ, List.getElem?_nil, List.set_cons_zero, List.set_cons_succ, Option.some.injEq, V.int.injEq, V.str.injEq, V.ref.injEq, V.bl.injEq, V.ty.injEq, List.cons.injEq, and_true, true_and, exists_eq_left', exists_eq_left, exists_and_left, exists_eq, exists_eq', and_assoc, Option.join_some, Option.join_none, scal_int, scal_str, scal_bl, cxOf_K, cxC_K, cxOf_prog, cxOf_w, blk_prog, blk_w, blk_K, decide_eq_true_eq])
local macro_rules | `(tactic| walk_at "ri") => `(tactic| walk_at "rdx_8")
abbrev s_where_then : Stmt := top 9
theorem sc_where_then : FnScope ["worlds", "first", "second", "truths", "number"] ["worlds", "first", "second"] (defScope s_where_then) := ⟨rfl, rfl, rfl, by decide +kernel, rfl, by decide +kernel, by decide +kernel⟩
section
variable {P : Program} {w : World} {K : PySem.W.Frag} {mg : Str → Option Value} {base : Heap}
theorem ok_where_then {k : Nat} {f_where_then : Addr} {fd_where_then : FuncData} (F_where_then : Fun K "where_then" "where_then" s_where_then f_where_then fd_where_then) (m_range : mg "range" = none) (m_zip : mg "zip" = none) (m_len : mg "len" = none) : FnOk P w K mg base CX0 (k + 1) f_where_then fd_where_then ["worlds", "first", "second"] (sp_whereT K) := by
  refine F_where_then.ok sc_where_then (fun vs H Q E h => ?_) (fun cdv A outer s H vs Q E hr h => ?_)
  · obtain ⟨wa, x, y, xs, ws, as, bs, rfl, _⟩ := h
    rfl
  obtain ⟨wa, x, y, xs, ws, as, bs, rfl, hwa, hW, hg, hl, hx, hy, la, lb, q⟩ := h
  have lx : xs.length = ws.length := Paired.length hW
  have li : (ifs as bs).length = ws.length := by unfold ifs; rw [List.length_zipWith, la, lb, Nat.min_self]
  refine ⟨_, (pss_cons (ps_setLC (i := 3) sc_where_then.nd rfl (Or.inl rfl) (blk0 (N' := ["one", "other"]) (by decide +kernel) (by decide +kernel) rfl (by decide +kernel)) rfl (pi_zip rfl m_zip (pa_cons (pv 1) (pa_cons (pv 2) pa_nil))) (fun _ _ _ _ => (pg_tupK (K := K) (n := 2) rfl rfl (pgs_cons (pg_name (i := 0) (show (["one", "other"] : List Str).Nodup from by decide +kernel) rfl (Or.inl rfl)) (pgs_cons (pg_name (i := 1) (show (["one", "other"] : List Str).Nodup from by decide +kernel) rfl (Or.inl rfl)) pgs_nil)) rfl rfl)) (fun _ _ _ _ => (pe_or (pe_not (pv 0)) (pe_one (pv 1)))) rfl)
  (pss_cons (ps_for PassesOwn.never rfl (pi_range3 rfl m_range (pa_cons (pe_op op_sub (pe_callB call_len_seq (by exact rfl) m_len Ken.boot_len (pa_cons (pv 0) pa_nil)) pe_int) (pa_cons pe_int (pa_cons (pe_un un_neg pe_int) pa_nil)))) (pg_name (i := 4) sc_where_then.nd rfl (Or.inl rfl))
    (pss_one (ps_if (pt_not (pt_val (pe_ix ix_list (pv 3) (pv 4) (fun _ _ => rfl))))
    (pss_one (ps_asg pe_bl (pg_sub (pv 3) (pe_ix ix_tup (pe_ix ix_list (pv 0) (pv 4) (fun _ _ => rfl)) pe_int (fun _ _ => rfl)) set_list)))
    pss_nil)))
  (pss_one (ps_ret (pv 3))))), ?_⟩
  refine seq_then (fun σ' H' => ∃ r, σ' = [some (.ref wa), some (.ref x), some (.ref y), some (.ref r), none] ∧ Same H H' ∧ H r = none ∧ H' r = some (.lst (bls (ifs as bs)))) ?_ ?_
  rotate_left
  · intro C hC
    walk_at "rd"
    walk_at "ri"
    refine ⟨⟨_, SqL.of hx⟩, ⟨_, SqL.of hy⟩, fun acc hacc => ?_⟩
    refine lcW_zipB (fun a b => !a || b) (by omega) (by omega) (SqL.of hx) (SqL.of hy) hacc (fun u v T H2 C' hT hC' => ?_) (fun H2 e h => hC _ _ ⟨acc, rfl, e, hacc, h⟩)
    refine ⟨T, _, rfl, hT, ?_⟩
    refine ⟨rfl, ?_⟩
    walk_at "rd"
    refine ⟨Wk.trans (wk_set (i := 0) rfl) (wk_set (i := 1) rfl), ?_⟩
    cases u <;> exact hC'
  rintro σ1 H1 ⟨r, rfl, e1, f1, h1⟩
  refine seq_then (fun σ' H' => ∃ x4, σ' = [some (.ref wa), some (.ref x), some (.ref y), some (.ref r), x4] ∧ Same H H' ∧ H' r = some (.lst (bls (wThen ws (ifs as bs))))) ?_ ?_
  rotate_left
  · intro C hC
    walk_at "ri"
    refine ⟨xs, .inl (SqL.of (e1 _ _ hwa)), ?_⟩
    refine ⟨by omega, by omega, by omega, by omega, ?_⟩
    have en : ((xs.length : Int) - 1 - 0).toNat = ws.length - 1 := by omega
    rw [en]
    refine for_down (D := { nx := C, rt := Q }) (fun i σ' H' => ∃ x4, σ' = [some (.ref wa), some (.ref x), some (.ref y), some (.ref r), x4] ∧ Same H H' ∧ H' r = some (.lst (bls (wLoop ws (ifs as bs) i)))) ⟨none, rfl, e1, h1⟩ (fun i σ' H' hi hp => ?_) (fun σ' H' hp => hC _ _ hp)
    obtain ⟨x4, rfl, e, hd⟩ := hp
    have len := wLoop_len ws (ifs as bs) i
    have hm : ws.length - 1 - i < ws.length := by omega
    have en2 : (xs.length : Int) - 1 - (i : Int) = ((ws.length - 1 - i : Nat) : Int) := by omega
    have hm0 : 0 < ws.length - 1 - i := by omega
    have hmx : ws.length - 1 - i < xs.length := by omega
    rw [en2]
    have eS : wLoop ws (ifs as bs) (i + 1) = wStep ws (wLoop ws (ifs as bs) i) (ws.length - 1 - i) := rfl
    rw [eS]
    generalize wLoop ws (ifs as bs) i = L at hd len
    generalize ws.length - 1 - i = m at hm hm0 hmx
    obtain ⟨z, hz, p, qq, hv, hs, hq⟩ := paired_get hW (List.getElem?_eq_getElem hmx)
    obtain ⟨j, ej, lj⟩ := (hg _ z hz).2 hm0
    have eb : bef ws m = some j := by unfold bef; rw [hz]; exact ej
    rw [ej] at hs
    have hml : m < L.length := by omega
    walk_at "rd"
    refine ⟨_, SqL.of hd, .bl L[m], atI_nat (by rw [List.getElem?_map, List.getElem?_eq_getElem hml]; rfl), L[m], rfl, ?_⟩
    have etg : tg L m = L[m] := by unfold tg; rw [List.getElem?_eq_getElem hml]; rfl
    unfold wStep
    rw [etg]
    cases hb : L[m] with
    | true => rw [if_neg (by decide), if_pos rfl]; exact ⟨e, hd⟩
    | false =>
      rw [if_pos (by decide), if_neg (by decide), eb]
      refine ⟨_, SqL.of (e _ _ hwa), _, atI_nat (List.getElem?_eq_getElem hmx), p, hv, _, e.sqt hs, _, rfl, _, _, rfl, hd, j, ?_, e.write f1, ?_⟩
      · exact ixN_nat (by rw [List.length_map]; omega)
      · rw [upd_same]
        show _ = some (HO.lst ((L.set j false).map V.bl))
        rw [List.map_set]
  rintro σ2 H2 ⟨x4, rfl, e2, h2⟩
  walk_at "rd"
  exact q _ _ e2 f1 h2
end
set_option Elab.async false
set_option linter.all false
set_option maxRecDepth 100000
set_option maxHeartbeats 4000000
local macro_rules | `(tactic| walk_at "rd") => `(tactic| walk_at "rdx_7")
local macro_rules | `(tactic| walk_at "ri") => `(tactic| walk_at "rdx_8")
abbrev s_where_letters : Stmt := top 8
theorem sc_where_letters : FnScope ["worlds", "words", "truths", "number", "before", "here", "word"] ["worlds", "words"] (defScope s_where_letters) := ⟨rfl, rfl, rfl, by decide +kernel, rfl, by decide +kernel, by decide +kernel⟩
section
variable {P : Program} {w : World} {K : PySem.W.Frag} {mg : Str → Option Value} {base : Heap}
theorem ok_where_letters {k : Nat} {f_where_letters : Addr} {fd_where_letters : FuncData} (F_where_letters : Fun K "where_letters" "where_letters" s_where_letters f_where_letters fd_where_letters) (m_enumerate : mg "enumerate" = none) (m_len : mg "len" = none) : FnOk P w K mg base CX0 (k + 1) f_where_letters fd_where_letters ["worlds", "words"] (sp_whereL K) := by
  refine F_where_letters.ok sc_where_letters (fun vs H Q E h => ?_) (fun cdv A outer s H vs Q E hr h => ?_)
  · obtain ⟨wa, la, xs, ws, ls, rfl, _⟩ := h
    rfl
  obtain ⟨wa, la, xs, ws, ls, rfl, hwa, hW, hl, hla, hnd, hll, q⟩ := h
  have lx : xs.length = ws.length := Paired.length hW
  refine ⟨_, (pss_cons (ps_setDCK (i := 2) sc_where_letters.nd rfl (Or.inl rfl) (blkC (N' := ["word", "worlds"]) (nt := 1) (ci := [0]) ["worlds", "words", "truths", "number", "before", "here", "word"] (defScope s_where_letters) rfl rfl (by decide +kernel) rfl (by decide +kernel) (by decide +kernel) rfl (by decide +kernel)) rfl (pi_list (pv 1)) (fun _ _ _ _ => (pg_name (i := 0) (show (["word", "worlds"] : List Str).Nodup from by decide +kernel) rfl (Or.inl rfl))) (fun _ _ => turn_D0 (c := (.Name "" ⟨0, 0, 0, 0⟩)) (tg2 := (.Name "" ⟨0, 0, 0, 0⟩))) (fun _ _ _ _ _ => (pk_emitD (Nat.lt_of_succ_lt (hu_of hr)) (pv 0) (pe_op op_rep (pe_lst (pa_cons pe_bl pa_nil)) (pe_callB (call_len_seqK (K := K) rfl) (by exact rfl) (by exact m_len) Ken.boot_len (pa_cons (pv 1) pa_nil))))) rfl)
  (pss_cons (ps_for PassesOwn.never rfl (pi_enum rfl m_enumerate (pa_cons (pv 0) pa_nil)) (pg_tup rfl (pgs_cons (pg_name (i := 3) sc_where_letters.nd rfl (Or.inl rfl)) (pgs_cons (pg_tup rfl (pgs_cons (pg_name (i := 4) sc_where_letters.nd rfl (Or.inl rfl)) (pgs_cons (pg_name (i := 5) sc_where_letters.nd rfl (Or.inl rfl)) pgs_nil))) pgs_nil)))
    (pss_one (ps_for PassesOwn.never rfl (pi_list (pv 5)) (pg_name (i := 6) sc_where_letters.nd rfl (Or.inl rfl))
    (pss_one (ps_if (pt_cmp (pc_din (hu_of hr) (pv 6) (pv 2)) (by with_unfolding_all rfl))
    (pss_one (ps_asg pe_bl (pg_sub (pe_dget (hu_of hr) (pv 2) (pv 6) (fun _ _ => rfl)) (pv 3) set_list)))
    pss_nil)))))
  (pss_one (ps_ret (pv 2))))), ?_⟩
  refine seq_then (fun σ' H' => ∃ (d : Addr) (kvs : List (Key × V)) (ad : Str → Addr), σ' = [some (.ref wa), some (.ref la), some (.ref d), none, none, none, none] ∧ Same H H' ∧ H d = none ∧ H' d = some (.dK kvs) ∧ (∀ x, ¬ x ∈ ls → valV kvs (Sum.inr x) = none) ∧ (∀ x ∈ ls, valV kvs (Sum.inr x) = some (.ref (ad x)) ∧ H (ad x) = none ∧ ad x ≠ d ∧ H' (ad x) = some (.lst (bls (wl ws.length ws 0 [] x)))) ∧ ∀ x ∈ ls, ∀ y ∈ ls, ad x = ad y → x = y) ?_ ?_
  rotate_left
  · intro C hC
    walk_at "rd"
    refine ⟨⟨_, hla⟩, fun acc hacc => ?_⟩
    refine comp_list (xs := ls.map V.str) (fun i H' => Same H H' ∧ ∃ (kvs : List (Key × V)) (ad : Str → Addr), H' acc = some (.dK kvs) ∧ kvs.length ≤ i ∧ (∀ x, ¬ x ∈ ls.take i → valV kvs (Sum.inr x) = none) ∧ (∀ x ∈ ls.take i, valV kvs (Sum.inr x) = some (.ref (ad x)) ∧ H (ad x) = none ∧ ad x ≠ acc ∧ H' (ad x) = some (.lst (bls (wl ws.length ws 0 [] x)))) ∧ ∀ x ∈ ls.take i, ∀ y ∈ ls.take i, ad x = ad y → x = y) ⟨same_new hacc _, [], fun _ => 0, upd_same, Nat.le_refl _, fun x _ => rfl, fun x hx => by simp at hx, fun x hx => by simp at hx⟩ (fun i H' _ ⟨e, _⟩ => e.seq hla) (fun i u H' N hx ⟨e, kvs, ad, hd, hk, hno, hin, hinj⟩ hN => ?_) (fun H' ⟨e, kvs, ad, hd, hk, hno, hin, hinj⟩ => ?_)
    · rw [List.getElem?_map] at hx
      cases el : ls[i]? with
      | none => rw [el] at hx; cases hx
      | some x =>
        rw [el] at hx; cases hx
        have nin : ¬ x ∈ ls.take i := fun z => by
          obtain ⟨j, hj, ej⟩ := List.getElem_of_mem z
          rw [List.getElem_take] at ej
          rw [List.length_take] at hj
          obtain ⟨hi, ei⟩ := List.getElem?_eq_some_iff.mp el
          exact List.pairwise_iff_getElem.mp hnd j i (by omega) hi (by omega) (ej.trans ei.symm)
        have hi : i < ls.length := (List.getElem?_eq_some_iff.mp el).1
        walk_at "rd"
        refine ⟨wk_set (i := 0) rfl, by decide, fun p hp => ⟨xs, .inl (SqL.of ((same_new hp _) _ _ (e _ _ hwa))), _, upd_same, by omega, by omega, ?_, fun p1 hp1 => ?_⟩⟩
        · show 1 * (xs.length : Int).toNat ≤ sizeLine
          exact Nat.le_of_lt (small1M (by omega))
        have S1 := same_new hp (HO.lst [V.bl false])
        have S2 := S1.trans (same_new hp1 (HO.lst (List.replicate (xs.length : Int).toNat [V.bl false]).flatten))
        have hp1' : H' p1 = none := S1.free hp1
        have n1 : p1 ≠ acc := fun z => by rw [z, hd] at hp1'; cases hp1'
        obtain ⟨ad', adx, ado⟩ : ∃ ad' : Str → Addr, ad' x = p1 ∧ ∀ y, y ≠ x → ad' y = ad y := ⟨fun y => if y = x then p1 else ad y, if_pos rfl, fun y h => if_neg h⟩
        refine ⟨_, DPut.k (k := Sum.inr x) (S2 _ _ hd) (small1M (by omega)), hN _ ⟨(e.trans S2).write hacc, putK kvs (Sum.inr x) (.ref p1), ad', upd_same, ?_, fun y hy => ?_, fun y hy => ?_, fun y hy z hz => ?_⟩⟩
        · have := length_putK kvs (Sum.inr x) (.ref p1); omega
        · rw [take_snoc el] at hy
          rw [valV_put, if_neg (fun z => hy (by cases z; simp)), hno y fun z => hy (List.mem_append_left _ z)]
        · rw [take_snoc el] at hy
          rcases List.mem_append.mp hy with hy | hy
          · have ne : y ≠ x := fun z => nin (z ▸ hy)
            obtain ⟨g1, g2, g3, g4⟩ := hin y hy
            rw [ado y ne, valV_put, if_neg (fun z => ne (by cases z; rfl)), upd_ne g3]
            exact ⟨g1, g2, g3, S2 _ _ g4⟩
          · obtain rfl : y = x := by simpa using hy
            rw [adx, valV_put, if_pos rfl, upd_ne n1, upd_same, wl_zero, List.flatten_replicate_singleton]
            refine ⟨rfl, e.free hp1', n1, ?_⟩
            rw [show (xs.length : Int).toNat = ws.length by omega]
            show _ = some (HO.lst ((List.replicate ws.length false).map V.bl))
            rw [List.map_replicate]
        · rw [take_snoc el] at hy hz
          have far : ∀ y ∈ ls.take i, ad y ≠ p1 := fun y hy z => by
            have := (hin y hy).2.2.2
            rw [z, hp1'] at this; cases this
          rcases List.mem_append.mp hy with hy1 | hy1
          · rcases List.mem_append.mp hz with hz1 | hz1
            · rw [ado y (fun g => nin (g ▸ hy1)), ado z (fun g => nin (g ▸ hz1))]; exact hinj y hy1 z hz1
            · have ez : z = x := by simpa using hz1
              rw [ado y (fun g => nin (g ▸ hy1)), ez, adx]; exact fun g => absurd g (far y hy1)
          · have ey : y = x := by simpa using hy1
            rcases List.mem_append.mp hz with hz1 | hz1
            · rw [ey, adx, ado z (fun g => nin (g ▸ hz1))]; exact fun g => absurd g.symm (far z hz1)
            · have ez : z = x := by simpa using hz1
              rw [ey, ez]
              exact fun _ => rfl
    · rw [List.length_map, List.take_length] at hno hin hinj
      exact hC _ _ ⟨acc, kvs, ad, rfl, e, hacc, hd, hno, hin, hinj⟩
  rintro σ1 H1 ⟨d, kvs, ad, rfl, e1, f1, h1, hno, hin, hinj⟩
  refine seq_then (fun σ' H' => ∃ x3 x4 x5 x6, σ' = [some (.ref wa), some (.ref la), some (.ref d), x3, x4, x5, x6] ∧ Same H H' ∧ H' d = some (.dK kvs) ∧ ∀ x ∈ ls, H' (ad x) = some (.lst (bls (wl ws.length ws ws.length [] x)))) ?_ ?_
  rotate_left
  · intro C hC
    refine tFor_of ?_
    simp only [iEnum, tCons, tNil, tVar, List.getElem?_cons_zero, Option.some.injEq, exists_eq_left', List.cons.injEq, V.ref.injEq, and_true, cxOf_K]
    refine ⟨⟨xs, SqL.of (e1 _ _ hwa)⟩, ?_⟩
    refine for_enum (K := K) (D := { nx := C, rt := Q }) (xs := xs) (fun i σ' H' => ∃ x3 x4 x5 x6, σ' = [some (.ref wa), some (.ref la), some (.ref d), x3, x4, x5, x6] ∧ Same H H' ∧ H' d = some (.dK kvs) ∧ ∀ x ∈ ls, H' (ad x) = some (.lst (bls (wl ws.length ws i [] x)))) ⟨none, none, none, none, rfl, e1, h1, fun x hx => (hin x hx).2.2.2⟩ (fun i σ' H' _ ⟨_, _, _, _, _, e, _⟩ => SqL.of (e _ _ hwa)) (fun i v σ' H' T hx hT hp => ?_) (fun σ' H' hp => hC _ _ (lx ▸ hp))
    obtain ⟨x3, x4, x5, x6, rfl, e, hd, hl'⟩ := hp
    obtain ⟨z, hz, p, qq, rfl, hs, hq⟩ := paired_get hW hx
    have eT := same_new hT (HO.tup [.int (i : Int), .ref p])
    have hi : i < ws.length := (List.getElem?_eq_some_iff.mp hz).1
    simp only [gTup, gCons, gNil, gName, List.set_cons_zero, List.set_cons_succ, cxOf_K, and_assoc, exists_and_left, V.ref.injEq, exists_eq_left', exists_eq_left, List.cons.injEq]
    refine ⟨_, .inl (.inl upd_same), rfl, _, _, rfl, _, _, rfl, p, rfl, _, eT.sqt (e.sqt hs), rfl, _, _, rfl, _, _, rfl, rfl, rfl, ?_⟩
    have ez : wd2 ws i = z.2 := by unfold wd2; rw [hz]; rfl
    refine for_listT (a := qq) (xs := z.2.map V.str) (fun Q' h => ⟨_, rfl, h⟩) (fun k σ' H2 => ∃ x6, σ' = [some (.ref wa), some (.ref la), some (.ref d), some (.int (i : Int)), some (bV z.1), some (.ref qq), x6] ∧ Same H H2 ∧ H2 d = some (.dK kvs) ∧ ∀ x ∈ ls, H2 (ad x) = some (.lst (bls (wl ws.length ws i (z.2.take k) x))))
      ⟨x6, rfl, e.trans eT, eT _ _ hd, fun x hx => eT _ _ (hl' x hx)⟩ (fun k σ' H2 _ ⟨_, _, e2, _⟩ => SqL.of (e2 _ _ hq)) (fun k v σ' H2 hv hp => ?_) (fun σ' H2 hp => ?_)
    · obtain ⟨y6, rfl, e2, hd2, hl2⟩ := hp
      rw [List.getElem?_map] at hv
      cases ek : z.2[k]? with
      | none => rw [ek] at hv; cases hv
      | some y =>
        rw [ek] at hv; cases hv
        walk_at "rd"
        refine ⟨_, DGet.k (k := Sum.inr y) hd2, ?_⟩
        by_cases hy : y ∈ ls
        · rw [(hin y hy).1]
          rw [if_pos (show (some (V.ref (ad y))).isSome = true from rfl)]
          have nd : ∀ x ∈ ls, ad x ≠ d := fun x hx => (hin x hx).2.2.1
          have g := DGet.k (k := Sum.inr y) hd2
          rw [(hin y hy).1] at g
          refine ⟨.ref (ad y), g, _, rfl, _, hl2 y hy, i, ixN_nat (by rw [List.length_map, wl_len]; exact hi), e2.write (hin y hy).2.1, by rw [upd_ne (Ne.symm (nd y hy))]; exact hd2, fun x hx => ?_⟩
          by_cases exy : x = y
          · subst exy
            rw [upd_same, take_snoc ek, ← wl_set hi]
            show _ = some (HO.lst ((List.set (wl ws.length ws i (z.2.take k) x) i true).map V.bl))
            rw [List.map_set]
          · rw [upd_ne (fun g => exy (hinj x hx y hy g)), hl2 x hx, take_snoc ek, wl_other exy]
        · rw [hno y hy]
          rw [if_neg (by decide)]
          refine ⟨e2, hd2, fun x hx => ?_⟩
          rw [hl2 x hx, take_snoc ek, wl_other (show x ≠ y from fun g => hy (by rw [← g]; exact hx))]
    · obtain ⟨y6, rfl, e2, hd2, hl2⟩ := hp
      refine ⟨_, _, _, _, rfl, e2, hd2, fun x hx => ?_⟩
      rw [hl2 x hx, List.length_map, List.take_length, wl_next, ez]
  rintro σ2 H2 ⟨x3, x4, x5, x6, rfl, e2, h2, hl2⟩
  walk_at "rd"
  refine q _ _ kvs ad e2 f1 h2 fun x hx => ⟨(hin x hx).1, (hin x hx).2.1, ?_⟩
  rw [hl2 x hx, wl_end]
end
set_option Elab.async false
set_option linter.all false
set_option maxRecDepth 100000
set_option maxHeartbeats 4000000
local macro_rules | `(tactic| walk_at "rd") => `(tactic| walk_at "rdx_7")
local macro_rules | `(tactic| walk_at "ri") => `(tactic| walk_at "rdx_8")
abbrev s_folded : Stmt := top 4
theorem sc_folded : FnScope ["statement", "of_simple", "of_pair", "told", "piece", "first", "second"] ["statement", "of_simple", "of_pair"] (defScope s_folded) := ⟨rfl, rfl, rfl, by decide +kernel, rfl, by decide +kernel, by decide +kernel⟩
theorem paired_snoc_inv {α β : Type} {F : α → β → Prop} : ∀ {l : List α} {m : List β} {y : β}, Paired F l (m ++ [y]) → ∃ l' x, l = l' ++ [x] ∧ Paired F l' m ∧ F x y
  | _, [], _, h => by
    cases h with
    | cons hx t => cases t; exact ⟨[], _, rfl, .nil, hx⟩
  | _, z :: m, _, h => by
    cases h with
    | cons hx t =>
      obtain ⟨l', x, rfl, h1, h2⟩ := paired_snoc_inv t
      exact ⟨_ :: l', x, rfl, .cons hx h1, h2⟩
section
variable {P : Program} {w : World} {K : PySem.W.Frag} {mg : Str → Option Value} {base : Heap}
theorem ok_foldedL {k : Nat} {H0 : Hp} {AD : Addr → Prop} (hA : ∀ a, AD a → H0 a ≠ none) {G : Tm → Prop} {tv : Tm → List Bool} {ps_of_simple ps_of_pair : List Str} {f_folded : Addr} {fd_folded : FuncData} (F_folded : Fun K "folded" "folded" s_folded f_folded fd_folded) {f_pieces : Addr} {fd_pieces : FuncData} (G_pieces : FnOk P w K mg base CX0 k f_pieces fd_pieces ["statement"] (sp_pieces K)) (m_pieces : mg "pieces" = some (.ref f_pieces)) (k_pieces : PySem.W.keepIn K (.ref f_pieces) = true) (b_pieces : Binds K fd_pieces ["statement"] []) {aPAIRED : Addr} (m_PAIRED : mg "PAIRED" = some (.ref aPAIRED)) (t_PAIRED : ∀ H, SqT K H aPAIRED [.str "both", .str "one", .str "then"]) (m_reversed : mg "reversed" = none)
    {f_of_simple : Addr} {fd_of_simple : FuncData} (G_of_simple : FnOk P w K mg base CX0 k f_of_simple fd_of_simple ps_of_simple (sp_of1L K H0 AD G tv)) (k_of_simple : PySem.W.keepIn K (.ref f_of_simple) = true) (b_of_simple : Binds K fd_of_simple ps_of_simple [])
    {f_of_pair : Addr} {fd_of_pair : FuncData} (G_of_pair : FnOk P w K mg base CX0 k f_of_pair fd_of_pair ps_of_pair (sp_of2L H0 tv)) (k_of_pair : PySem.W.keepIn K (.ref f_of_pair) = true) (b_of_pair : Binds K fd_of_pair ps_of_pair []) : FnOk P w K mg base CX0 (k + 1) f_folded fd_folded ["statement", "of_simple", "of_pair"] (sp_foldedL K H0 AD G tv f_of_simple f_of_pair) := by
  refine F_folded.ok sc_folded (fun vs H Q E h => ?_) (fun cdv A outer s H vs Q E hr h => ?_)
  · obtain ⟨v, t, rfl, _⟩ := h
    rfl
  obtain ⟨v, t, rfl, rfl, hT, hG, hp, q⟩ := h
  let R : Hp → Addr → Tm → V → Prop := fun H1 l s u => ∃ a, u = .ref a ∧ a ≠ l ∧ H1 a = some (.lst (bls (tv s))) ∧ (AD a ∨ H a = none)
  have hR : ∀ {H1 H2 : Hp} {l : Addr} {s : Tm} {u : V}, Same H1 H2 → R H1 l s u → R H2 l s u := fun e ⟨a, e1, e2, e3, e4⟩ => ⟨a, e1, e2, e _ _ e3, e4⟩
  have hRw : ∀ {H1 : Hp} {l : Addr} {s : Tm} {u : V} {o : HO}, R H1 l s u → R (upd H1 l o) l s u := fun ⟨a, e1, e2, e3, e4⟩ => ⟨a, e1, e2, by rw [upd_ne e2]; exact e3, e4⟩
  have hpm : ∀ {H4 H5 : Hp} {l : Addr} {us : List V} {fs : List Tm}, Same H4 H5 → Paired (fun u s => R H4 l s u) us fs → Paired (fun u s => R H5 l s u) us fs := fun k z => Paired.mapP z fun _ _ y => hR k y
  have hpw : ∀ {H4 : Hp} {l : Addr} {us : List V} {fs : List Tm} {o : HO}, Paired (fun u s => R H4 l s u) us fs → Paired (fun u s => R (upd H4 l o) l s u) us fs := fun z => Paired.mapP z fun _ _ y => hRw y
  refine ⟨_, (pss_cons (ps_set (i := 3) sc_folded.nd rfl (Or.inl rfl) (pe_lst pa_nil))
  (pss_cons (ps_for PassesOwn.never rfl (pi_rev rfl m_reversed (pa_cons (pe_call G_pieces hr (by exact rfl) m_pieces k_pieces b_pieces .nil pass0 (pa_cons (pv 0) pa_nil)) pa_nil)) (pg_name (i := 4) sc_folded.nd rfl (Or.inl rfl))
    (pss_one (ps_if (pt_cmpR (op_in_seq) (pe_ix ix_tup (pv 4) pe_int (fun _ _ => rfl)) (pe_glob (v := .ref aPAIRED) (by exact rfl) m_PAIRED (by exact rfl)) (by with_unfolding_all rfl))
    (pss_cons (ps_set (i := 5) sc_folded.nd rfl (Or.inl rfl) (pe_bm0 PySem.F.plainAttrs_list PySem.F.slot_list_pop PySem.F.type_list_pop mt_pop (pv 3)))
  (pss_cons (ps_set (i := 6) sc_folded.nd rfl (Or.inl rfl) (pe_bm0 PySem.F.plainAttrs_list PySem.F.slot_list_pop PySem.F.type_list_pop mt_pop (pv 3)))
  (pss_one (ps_expr (pe_bm PySem.F.plainAttrs_list PySem.F.slot_list_append PySem.F.type_list_append mt_append (pv 3) (pa_cons (pe_callL (i := 2) G_of_pair hr rfl (Or.inl rfl) k_of_pair b_of_pair .nil pass0 (pa_cons (pe_ix ix_tup (pv 4) pe_int (fun _ _ => rfl)) (pa_cons (pv 5) (pa_cons (pv 6) pa_nil)))) pa_nil))))))
    (pss_one (ps_expr (pe_bm PySem.F.plainAttrs_list PySem.F.slot_list_append PySem.F.type_list_append mt_append (pv 3) (pa_cons (pe_callL (i := 1) G_of_simple hr rfl (Or.inl rfl) k_of_simple b_of_simple .nil pass0 (pa_cons (pv 4) pa_nil)) pa_nil)))))))
  (pss_one (ps_ret (pe_ix ix_list (pv 3) pe_int (fun _ _ => rfl)))))), ?_⟩
  refine seq_then (fun σ' H' => ∃ l, σ' = [some v, some (.ref f_of_simple), some (.ref f_of_pair), some (.ref l), none, none, none] ∧ Same H H' ∧ H l = none ∧ H' l = some (.lst [])) ?_ ?_
  rotate_left
  · intro C hC
    walk_at "rd"
    exact ⟨by decide, fun l hl => hC _ _ ⟨l, rfl, same_new hl _, hl, upd_same⟩⟩
  rintro σ1 H1 ⟨l, rfl, e1, f1, h1⟩
  refine seq_then (fun σ' H' => ∃ x4 x5 x6 u, σ' = [some v, some (.ref f_of_simple), some (.ref f_of_pair), some (.ref l), x4, x5, x6] ∧ Same H H' ∧ H' l = some (.lst [u]) ∧ R H' l t u) ?_ ?_
  rotate_left
  · intro C hC
    walk_at "ri"
    refine ⟨v, t, rfl, hT.keep e1.keepT, by omega, fun r H2 us e2 f2 h2 hu => ⟨r, rfl, us, SqL.of h2, ?_⟩⟩
    have lu := Paired.length hu
    have l2 := e2 l _ h1
    have nrl : r ≠ l := fun z => by rw [z] at f2; rw [f2] at h1; cases h1
    refine for_rev (D := { nx := C, rt := Q }) (xs := us) (fun i σ' H' => ∃ x4 x5 x6 ts fs, σ' = [some v, some (.ref f_of_simple), some (.ref f_of_pair), some (.ref l), x4, x5, x6] ∧ Same H H' ∧ KeepT K H2 H' ∧ H' r = some (.lst us) ∧ H' l = some (.lst ts) ∧ Paired (fun u s => R H' l s u) ts fs.reverse ∧ fs.flatMap Tm.pre = t.pre.drop (us.length - i) ∧ ts.length ≤ i)
      ⟨none, none, none, [], [], rfl, e1.trans e2, fun _ _ z => z, h2, l2, .nil, ?_, Nat.le_refl _⟩ (fun i σ' H' _ ⟨x4, x5, x6, ts, fs, _, _, _, h, _⟩ => SqL.of h) (fun i x σ' H' hi hx hI => ?_) (fun σ' H' hI => ?_)
    · rw [Nat.sub_zero, lu, List.drop_length]; rfl
    · obtain ⟨x4, x5, x6, ts, fs, rfl, e, kk, hr', hl', hp', hf, hn⟩ := hI
      obtain ⟨s', hs', hxT⟩ := paired_get hu hx
      have hj : us.length - 1 - i < t.pre.length := by rw [← lu]; omega
      obtain ⟨s2, rest, g1, g2, g3⟩ := pre_drop t _ hj
      rw [hs'] at g1
      cases g1
      have hxT' := hxT.keep kk
      have ej : us.length - i = us.length - 1 - i + 1 := by omega
      have dr : t.pre.drop (us.length - i) = s'.kids.flatMap Tm.pre ++ rest := by
        have := congrArg List.tail g2
        rw [List.tail_drop, ← ej, s'.pre_eq, List.cons_append, List.tail_cons] at this
        exact this
      rw [dr] at hf
      have eu : us.length - (i + 1) = us.length - 1 - i := by omega
      have lp : t.pre.length ≤ 400 := by rw [Tm.pre_len]; omega
      have fin : ∀ (ts' : List V) (fs' : List Tm) (H4 : Hp) (u : V), Same H H4 → KeepT K H2 H4 → H4 r = some (.lst us) → H4 l = some (.lst ts') → Paired (fun u s => R H4 l s u) ts' fs'.reverse → ts'.length ≤ i → fs'.flatMap Tm.pre = rest → R H4 l s' u →
          Same H (upd H4 l (HO.lst (ts' ++ [u]))) ∧ KeepT K H2 (upd H4 l (HO.lst (ts' ++ [u]))) ∧ upd H4 l (HO.lst (ts' ++ [u])) r = some (HO.lst us) ∧
            ∃ x, upd H4 l (HO.lst (ts' ++ [u])) l = some (HO.lst x) ∧ ∃ x_1, Paired (fun u' s => R (upd H4 l (HO.lst (ts' ++ [u]))) l s u') x x_1.reverse ∧ List.flatMap Tm.pre x_1 = List.drop (us.length - (i + 1)) t.pre ∧ x.length ≤ i + 1 := fun ts' fs' H4 u a1 a2 a3 a4 a5 a6 a7 a8 => by
        refine ⟨a1.write f1, a2.trans (keepT_lst a4), by rw [upd_ne nrl]; exact a3, _, upd_same, s' :: fs', ?_, ?_, ?_⟩
        · rw [List.reverse_cons]; exact paired_app (hpw a5) (.cons (hRw a8) .nil)
        · rw [List.flatMap_cons, a7, eu, g2]
        · rw [List.length_append, List.length_singleton]; omega
      have told : ∀ {H3 : Hp} {a : Addr}, Same H' H3 → H3 a = some (.lst (bls (tv s'))) → (AD a ∨ H' a = none) → R H3 l s' (.ref a) := fun {H3 a} e3 h3 ha => by
        refine ⟨a, rfl, ?_, h3, ha.imp id fun z => e.free z⟩
        intro z
        rcases ha with ha | ha
        · exact hA a ha (by rw [z]; exact f1)
        · rw [z, hl'] at ha; cases ha
      walk_at "rd"
      cases s' with
      | low =>
        obtain ⟨a, rfl, hs⟩ := isT_low.mp hxT'
        refine ⟨a, rfl, _, hs, _, rfl, _, .inr (t_PAIRED H'), rfl, rfl, ?_⟩
        rw [if_neg (by decide)]
        refine ⟨.inl ⟨rfl, _, SqL.of hl'⟩, _, .low, rfl, e, hxT', rfl, hG _ (List.mem_of_getElem? hs') rfl, fun u H3 e3 h3 ru => ?_⟩
        exact ⟨_, e3 _ _ hl', small1M (by omega), fin ts fs H3 (.ref u) (e.trans e3) (kk.trans e3.keepT) (e3 _ _ hr') (e3 _ _ hl') (hpm e3 hp') hn hf (told e3 h3 ru)⟩
      | ltr w =>
        obtain ⟨a, rfl, hs⟩ := isT_ltr.mp hxT'
        refine ⟨a, rfl, _, hs, _, rfl, _, .inr (t_PAIRED H'), rfl, rfl, ?_⟩
        rw [if_neg (by decide)]
        refine ⟨.inl ⟨rfl, _, SqL.of hl'⟩, _, .ltr w, rfl, e, hxT', rfl, hG _ (List.mem_of_getElem? hs') rfl, fun u H3 e3 h3 ru => ?_⟩
        exact ⟨_, e3 _ _ hl', small1M (by omega), fin ts fs H3 (.ref u) (e.trans e3) (kk.trans e3.keepT) (e3 _ _ hr') (e3 _ _ hl') (hpm e3 hp') hn hf (told e3 h3 ru)⟩
      | nd kd a b =>
        obtain ⟨p, vx, vy, rfl, hs, hx1, hy1⟩ := isT_nd.mp hxT'
        refine ⟨p, rfl, _, hs, _, rfl, _, .inr (t_PAIRED H'), rfl, rfl, ?_⟩
        rw [if_pos (by cases kd <;> decide)]
        rw [show Tm.kids (.nd kd a b) = [a, b] from rfl, List.flatMap_cons, List.flatMap_cons, List.flatMap_nil, List.append_nil, List.append_assoc] at hf
        obtain ⟨fs1, rfl, hf1⟩ := forest_head hf
        obtain ⟨fs2, rfl, hf2⟩ := forest_head hf1
        rw [List.reverse_cons, List.reverse_cons] at hp'
        obtain ⟨ts1, u1, rfl, hp1, r1⟩ := paired_snoc_inv hp'
        obtain ⟨ts2, u2, rfl, hp2, r2⟩ := paired_snoc_inv hp1
        rw [List.length_append, List.length_append, List.length_singleton, List.length_singleton] at hn
        obtain ⟨b1, rfl, n1, w1, o1⟩ := r1
        obtain ⟨b2, rfl, n2, w2, o2⟩ := r2
        refine ⟨.inl ⟨rfl, _, SqL.of hl'⟩, _, hl', .ref b1, by simp, ?_⟩
        rw [List.dropLast_concat]
        refine ⟨.inl ⟨rfl, _, SqL.of upd_same⟩, _, upd_same, .ref b2, by simp, ?_⟩
        rw [List.dropLast_concat, upd_upd]
        have k1 : KeepT K H' (upd H' l (.lst ts2)) := keepT_lst hl'
        have hr1 : upd H' l (.lst ts2) r = some (.lst us) := by rw [upd_ne nrl]; exact hr'
        refine ⟨.inl ⟨rfl, _, SqL.of upd_same⟩, p, rfl, _, k1 _ _ hs, _, rfl, kd, a, b, b1, b2, rfl, e.write f1, by rw [upd_ne n1]; exact w1, by rw [upd_ne n2]; exact w2, fun u H3 e3 f3 h3 => ?_⟩
        have nul : u ≠ l := fun z => by rw [z, upd_same] at f3; cases f3
        rw [upd_ne nul] at f3
        exact ⟨_, e3 _ _ upd_same, small1M (by omega), fin ts2 fs2 H3 (.ref u) ((e.write f1).trans e3) ((kk.trans k1).trans e3.keepT) (e3 _ _ hr1) (e3 _ _ upd_same) (hpm e3 (hpw hp2)) (by omega) hf2 ⟨u, rfl, nul, h3, .inr (e.free f3)⟩⟩
    · obtain ⟨x4, x5, x6, ts, fs, rfl, e, kk, hr', hl', hp', hf, hn⟩ := hI
      rw [Nat.sub_self, List.drop_zero, ← List.append_nil t.pre] at hf
      obtain ⟨fs', rfl, hf'⟩ := forest_head hf
      rw [forest_nil hf'] at hp'
      cases hp' with
      | cons hu' hnil =>
        cases hnil
        exact hC _ _ ⟨x4, x5, x6, _, rfl, e, hl', hu'⟩
  rintro σ2 H2 ⟨x4, x5, x6, u, rfl, e2, h2, a, rfl, _, ha, ru⟩
  walk_at "rd"
  exact ⟨_, SqL.of h2, .ref a, rfl, q _ _ e2 ha ru⟩
end
set_option Elab.async false
set_option linter.all false
set_option maxRecDepth 100000
set_option maxHeartbeats 4000000
local macro_rules | `(tactic| walk_at "rdx_9") => `(tactic| simp only [tCompA, kAdd, tIf, rInT, iRev, tCallL, tComp, kNest, kTest, kApp, kPut, tSeq, tAsg, gName, tVar, tC, tOp, rI0, rI, rU, tUn, tRet, tRetN, tIfS, tTest, tB, tNext, tCons, tNil, tCB, tCall, tTup, tLst, tDrop, tAug, ipI, tAnd, tOr, tNot, tAndV, tOrV, tNotV, tBM, tBM0, rAppend, rExtend, rPop, rIxL, rIxT, rIxS, rCat, rEq, rNe, rMulS, tSl, rSlL, rSlS, tPart, tNoPart, tRev, rJoin, tDGet, tDisp, tPairs, tFs, tFv, tFc, tF0, tKD, rIsi, rEqD, tNever, tChain, rIn, rSetL, gSub, iEnum, iStr, tKNotIn, tDIn, tDNotIn, sDPut, gTup, gCons, gNil, iRng1, iRng2, iList, iTup, iZip, iZipT, rRevd, L2.start, capt,
  List.map_cons, List.map_nil, List.length_cons, List.length_nil, List.cons_append, List.nil_append, List.append_nil, List.replicate_succ, List.replicate_zero, Nat.reduceAdd, Nat.reduceSub, Nat.zero_add, Nat.add_zero, Nat.sub_zero, Nat.sub_self, List.getElem?_cons_zero, List.getElem?_cons_succ, List.getElem?_nil, List.set_cons_zero, List.set_cons_succ, Option.some.injEq, V.int.injEq, V.str.injEq, V.ref.injEq, V.bl.injEq, V.ty.injEq, List.cons.injEq, and_true, true_and, exists_eq_left', exists_eq_left, exists_and_left, exists_eq, exists_eq', and_assoc, Option.join_some, Option.join_none, scal_int, scal_str, scal_bl, cxOf_K, cxC_K, cxOf_prog, cxOf_w, blk_prog, blk_w, blk_K, decide_eq_true_eq])
local macro_rules | `(tactic| walk_at "rd") => `(tactic| walk_at "rdx_9")
local macro_rules | `(tactic| walk_at "rdx_10") => `(tactic| simp only [tCompA, kAdd, tIf, rInT, iRev, tCallL, tComp, kNest, kTest, kApp, kPut, tFor, tLC, tVar, tC, tOp, rI0, rI, rU, tUn, tTest, tB, tCons, tNil, tCB, tCall, tTup, tLst, ipI, tAnd, tOr, tNot, tAndV, tOrV, tNotV, tBM, tBM0, rAppend, rExtend, rPop, rIxL, rIxT, rIxS, rCat, rEq, rNe, rMulS, tSl, rSlL, rSlS, tPart, tNoPart, tRev, rJoin, tDGet, tDisp, tPairs, tFs, tFv, tFc, tF0, tKD, rIsi, rEqD, tNever, tChain, rIn, rSetL, iEnum, iStr, tKNotIn, tDIn, tDNotIn, iRng1, iRng2, iList, iTup, iZip, iZipT, rRevd, L2.start, capt,
  List.map_cons, List.map_nil, List.length_cons, List.length_nil, List.cons_append, List.nil_append, List.append_nil, List.replicate_succ, List.replicate_zero, Nat.reduceAdd, Nat.reduceSub, Nat.zero_add, Nat.add_zero, Nat.sub_zero, Nat.sub_self, List.getElem?_cons_zero, List.getElem?_cons_succ, List.getElem?_nil, List.set_cons_zero, List.set_cons_succ, Option.some.injEq, V.int.injEq, V.str.injEq, V.ref.injEq, V.bl.injEq, V.ty.injEq, List.cons.injEq, and_true, true_and, exists_eq_left', exists_eq_left, exists_and_left, exists_eq, exists_eq', and_assoc, Option.join_some, Option.join_none, scal_int, scal_str, scal_bl, cxOf_K, cxC_K, cxOf_prog, cxOf_w, blk_prog, blk_w, blk_K, decide_eq_true_eq])
local macro_rules | `(tactic| walk_at "ri") => `(tactic| walk_at "rdx_10")
abbrev s_letters : Stmt := top 5
theorem sc_letters : FnScope ["statement"] ["statement"] (defScope s_letters) := ⟨rfl, rfl, rfl, by decide +kernel, rfl, by decide +kernel, by decide +kernel⟩
section
variable {P : Program} {w : World} {K : PySem.W.Frag} {mg : Str → Option Value} {base : Heap}
theorem ok_letters {k : Nat} {f_letters : Addr} {fd_letters : FuncData} (F_letters : Fun K "letters" "letters" s_letters f_letters fd_letters) {f_pieces : Addr} {fd_pieces : FuncData} (G_pieces : FnOk P w K mg base CX0 k f_pieces fd_pieces ["statement"] (sp_pieces K)) (m_pieces : mg "pieces" = some (.ref f_pieces)) (k_pieces : PySem.W.keepIn K (.ref f_pieces) = true) (b_pieces : Binds K fd_pieces ["statement"] []) (m_sorted : mg "sorted" = none) : FnOk P w K mg base CX0 (k + 1) f_letters fd_letters ["statement"] (sp_letters K) := by
  refine F_letters.ok sc_letters (fun vs H Q E h => ?_) (fun cdv A outer s H vs Q E hr h => ?_)
  · obtain ⟨v, t, ws, rfl, _⟩ := h
    rfl
  obtain ⟨v, t, ws, rfl, hT, hp, hW, hwl, q⟩ := h
  refine ⟨_, (pss_one (ps_ret (pe_callB (call_sortedS (P := P) (w := w) rfl rfl rfl) (by exact rfl) m_sorted Ken.boot_sorted (pa_cons (pe_sc (P := P) (w := w) rfl rfl (blk0 (N' := ["piece"]) (by decide +kernel) (by decide +kernel) rfl (by decide +kernel)) rfl (pi_list (pe_call G_pieces hr (by exact rfl) m_pieces k_pieces b_pieces .nil pass0 (pa_cons (pv 0) pa_nil))) (fun _ _ _ _ => (pg_name (i := 0) (show (["piece"] : List Str).Nodup from by decide +kernel) rfl (Or.inl rfl))) (fun _ _ => turn_S1 (tg2 := (.Name "" ⟨0, 0, 0, 0⟩)) (iter2 := (.Name "" ⟨0, 0, 0, 0⟩))) (fun _ _ _ _ _ => (pk_test (pt_cmpR (op_eq) (pe_ix (ix_tupK (K := K) rfl) (pv 0) pe_int (fun _ _ => rfl)) pe_str (nomark _)) (pk_emitS (P := P) (w := w) rfl rfl (pe_ix (ix_tupK (K := K) rfl) (pv 0) pe_int (fun _ _ => rfl)))))) pa_nil)))), ?_⟩
  walk_at "rd"
  refine ⟨_, t, rfl, hT, by omega, fun r H1 us e1 f1 h1 hu => ⟨r, rfl, ⟨_, SqL.of h1⟩, fun acc hacc => ?_⟩⟩
  have lu := Paired.length hu
  have hsub : ∀ i x, x ∈ (t.pre.take i).flatMap Tm.here → x ∈ ws := fun i x hx => ltrs_inW hW x (by
    rw [← pre_here, ← List.take_append_drop i t.pre, List.flatMap_append]
    exact List.mem_append_left _ hx)
  refine comp_list (xs := us) (fun i H' => Same H1 H' ∧ ∃ xs, H' acc = some (setO P w acc xs) ∧ xs.Nodup ∧ ∀ x, x ∈ xs ↔ x ∈ (t.pre.take i).flatMap Tm.here) ⟨same_new hacc _, [], upd_same, List.nodup_nil, fun x => by simp⟩ (fun i H' _ ⟨e, _⟩ => SqL.of (e _ _ h1)) (fun i u H' N hx ⟨e, xs, ha, nd, hm⟩ hN => ?_) (fun H' ⟨e, xs, ha, nd, hm⟩ => ?_)
  · obtain ⟨s', hs', hxT⟩ := paired_get hu hx
    have hT' := hxT.keep e.keepT
    have xl : xs.length ≤ 40 := Nat.le_trans (len_le_sub nd fun x hx => hsub i x ((hm x).mp hx)) hwl
    have eo : (t.pre.take (i + 1)).flatMap Tm.here = (t.pre.take i).flatMap Tm.here ++ s'.here := by
      rw [List.take_add_one, hs', List.flatMap_append]
      show _ ++ (s'.here ++ []) = _
      rw [List.append_nil]
    walk_at "rd"
    cases s' with
    | low =>
      obtain ⟨a, rfl, hs⟩ := isT_low.mp hT'
      refine ⟨wk_head, a, rfl, _, hs, _, rfl, rfl, ?_⟩
      rw [if_neg (by decide)]
      exact hN _ ⟨e, xs, ha, nd, fun x => by rw [eo]; show _ ↔ x ∈ _ ++ []; rw [List.append_nil]; exact hm x⟩
    | ltr y =>
      obtain ⟨a, rfl, hs⟩ := isT_ltr.mp hT'
      refine ⟨wk_head, a, rfl, _, hs, _, rfl, rfl, ?_⟩
      rw [if_pos (by decide)]
      refine ⟨a, rfl, _, hs, _, rfl, y, rfl, xs, ha, by omega, hN _ ⟨e.write hacc, _, upd_same, ?_, fun x => ?_⟩⟩
      · by_cases hy : y ∈ xs
        · rw [if_pos hy]; exact nd
        · rw [if_neg hy, List.nodup_append]
          exact ⟨nd, by simp, fun a ha b hb => by rw [List.mem_singleton.mp hb]; exact fun z => hy (z ▸ ha)⟩
      · rw [eo]
        show _ ↔ x ∈ _ ++ [y]
        rw [List.mem_append, ← hm x, List.mem_singleton]
        by_cases hy : y ∈ xs
        · rw [if_pos hy]
          exact ⟨.inl, fun z => z.elim id fun z => by rw [z]; exact hy⟩
        · rw [if_neg hy, List.mem_append, List.mem_singleton]
    | nd kd a b =>
      obtain ⟨p, va, vb, rfl, hs, _⟩ := isT_nd.mp hT'
      refine ⟨wk_head, p, rfl, _, hs, _, rfl, rfl, ?_⟩
      rw [if_neg (by cases kd <;> decide)]
      exact hN _ ⟨e, xs, ha, nd, fun x => by rw [eo]; show _ ↔ x ∈ _ ++ []; rw [List.append_nil]; exact hm x⟩
  · have full : (t.pre.take us.length).flatMap Tm.here = t.ltrs := by rw [lu, List.take_length, pre_here]
    have xl : xs.length ≤ 40 := Nat.le_trans (len_le_sub nd fun x hx => hsub _ x ((hm x).mp hx)) hwl
    refine ⟨xs, ha, by omega, fun l ys hl hpm hso => q l _ ys ((e1.trans e).trans (same_new hl _)) ((e1.trans e).free hl) upd_same (hpm.nodup_iff.mpr nd) hso fun x => ?_⟩
    rw [hpm.mem_iff, hm x, full]
end
set_option Elab.async false
set_option linter.all false
set_option maxRecDepth 100000
set_option maxHeartbeats 4000000
local macro_rules | `(tactic| walk_at "rd") => `(tactic| walk_at "rdx_7")
local macro_rules | `(tactic| walk_at "ri") => `(tactic| walk_at "rdx_8")
abbrev s_known : Stmt := top 10
theorem sc_known : FnScope ["worlds", "statement", "truths", "of_simple", "of_pair"] ["worlds", "statement"] (defScope s_known) := ⟨rfl, rfl, rfl, by decide +kernel, rfl, by decide +kernel, by decide +kernel⟩
abbrev s_known_of_simple : Stmt := inDef s_known 1
theorem sc_known_of_simple : FnScopeC ["piece", "truths", "worlds"] ["piece"] ["truths", "worlds"] (defScope s_known_of_simple) := ⟨rfl, rfl, rfl, by decide +kernel, rfl, by decide +kernel, by decide +kernel, by decide +kernel⟩
abbrev q_known_of_simple : Str := ("known" : Str) ++ Str.ofString ".<locals>." ++ "of_simple"
theorem cl_known_of_simple : ∀ y ∈ (defScope s_known_of_simple).names, y.2 = NameKind.free → (defScope s_known).names.lookup y.1 = some NameKind.cell := by decide +kernel
abbrev s_known_of_pair : Stmt := inDef s_known 2
theorem sc_known_of_pair : FnScopeC ["kind", "first", "second", "worlds"] ["kind", "first", "second"] ["worlds"] (defScope s_known_of_pair) := ⟨rfl, rfl, rfl, by decide +kernel, rfl, by decide +kernel, by decide +kernel, by decide +kernel⟩
abbrev q_known_of_pair : Str := ("known" : Str) ++ Str.ofString ".<locals>." ++ "of_pair"
theorem cl_known_of_pair : ∀ y ∈ (defScope s_known_of_pair).names, y.2 = NameKind.free → (defScope s_known).names.lookup y.1 = some NameKind.cell := by decide +kernel
def ds_known : List (Pos × Str) := [(posOf s_known_of_simple, q_known_of_simple), (posOf s_known_of_pair, q_known_of_pair)]
def InL (ls : List Str) : Tm → Prop
  | .ltr x => x ∈ ls
  | _ => True
section
variable {P : Program} {w : World} {K : PySem.W.Frag} {mg : Str → Option Value} {base : Heap}
theorem ok_known_of_simple {k : Nat} {cl : List (Str × Addr)} {f : Addr} {fd : FuncData} (F : FunC K "of_simple" q_known_of_simple s_known_of_simple cl f fd) {wa d : Addr} {xs : List V} {ws : List Wd} {kvs : List (Key × V)} {ad : Str → Addr} {ls : List Str} {H0 : Hp} (C : Caught K (defScope s_known_of_simple) cl ["truths", "worlds"] [.ref d, .ref wa])
    (hw0 : H0 wa = some (.lst xs)) (lx : xs.length = ws.length) (lw : ws.length ≤ 2000) (hd0 : H0 d = some (.dK kvs)) (hk : ∀ x ∈ ls, valV kvs (Sum.inr x) = some (.ref (ad x)) ∧ H0 (ad x) = some (.lst (bls (tr ws (.ltr x))))) (m_len : mg "len" = none) :
    FnOk P w K mg base CX0 (k + 1) f fd ["piece"] (sp_of1L K H0 (fun a => ∃ x ∈ ls, a = ad x) (InL ls) (tr ws)) := by
  refine F.ok sc_known_of_simple C (fun vs H Q E h => ?_) (fun cdv A outer s H vs Q E hr h => ?_)
  · obtain ⟨v, t, rfl, _⟩ := h
    rfl
  obtain ⟨v, t, rfl, e, hT, hkd, hG, q⟩ := h
  refine ⟨_, (pss_one (ps_ret (pe_ifExp (pt_cmpR (op_eq) (pe_ix ix_tup (pv 0) pe_int (fun _ _ => rfl)) pe_str (nomark _)) (pe_dget (hu_of hr) (pv 1) (pe_ix ix_tup (pv 0) pe_int (fun _ _ => rfl)) (fun _ _ => rfl)) (pe_op op_rep (pe_lst (pa_cons pe_bl pa_nil)) (pe_callB call_len_seq (by exact rfl) m_len Ken.boot_len (pa_cons (pv 2) pa_nil)))))), ?_⟩
  walk_at "rd"
  cases t with
  | low =>
    obtain ⟨a, rfl, hs⟩ := isT_low.mp hT
    refine ⟨a, rfl, _, hs, _, rfl, rfl, ?_⟩
    rw [if_neg (by decide)]
    refine ⟨by decide, fun p hp => ⟨xs, .inl (SqL.of ((same_new hp _) _ _ (e _ _ hw0))), _, upd_same, by omega, by omega, ?_, fun p1 hp1 => ?_⟩⟩
    · show 1 * (xs.length : Int).toNat ≤ sizeLine
      exact Nat.le_of_lt (small1M (by omega))
    have S1 := same_new hp (HO.lst [V.bl false])
    refine q _ _ (S1.trans (same_new hp1 _)) ?_ (.inr (S1.free hp1))
    rw [upd_same, List.flatten_replicate_singleton, show (xs.length : Int).toNat = ws.length by omega]
    show _ = some (HO.lst ((ws.map fun _ => false).map V.bl))
    rw [List.map_const', List.map_replicate]
  | ltr y =>
    obtain ⟨a, rfl, hs⟩ := isT_ltr.mp hT
    have hy : y ∈ ls := hG
    refine ⟨a, rfl, _, hs, _, rfl, rfl, ?_⟩
    rw [if_pos rfl]
    have g := DGet.k (k := Sum.inr y) (e _ _ hd0)
    rw [(hk y hy).1] at g
    exact ⟨a, rfl, _, hs, _, rfl, _, g, q _ _ (fun _ _ z => z) (e _ _ (hk y hy).2) (.inl ⟨y, hy, rfl⟩)⟩
  | nd kd a b => cases hkd
theorem ok_known_of_pair {k : Nat} {cl : List (Str × Addr)} {f : Addr} {fd : FuncData} (F : FunC K "of_pair" q_known_of_pair s_known_of_pair cl f fd) {wa : Addr} {xs : List V} {ws : List Wd} {H0 : Hp} (C : Caught K (defScope s_known_of_pair) cl ["worlds"] [.ref wa])
    (hw0 : H0 wa = some (.lst xs)) (hW : AtWs K H0 xs ws) (hg : goodB ws) (lw : ws.length ≤ 2000) {f_where_then : Addr} {fd_where_then : FuncData} (G_where_then : FnOk P w K mg base CX0 k f_where_then fd_where_then ["worlds", "first", "second"] (sp_whereT K)) (m_where_then : mg "where_then" = some (.ref f_where_then)) (k_where_then : PySem.W.keepIn K (.ref f_where_then) = true) (b_where_then : Binds K fd_where_then ["worlds", "first", "second"] []) (m_zip : mg "zip" = none) :
    FnOk P w K mg base CX0 (k + 1) f fd ["kind", "first", "second"] (sp_of2L H0 (tr ws)) := by
  refine F.ok sc_known_of_pair C (fun vs H Q E h => ?_) (fun cdv A outer s H vs Q E hr h => ?_)
  · obtain ⟨_, _, _, _, _, rfl, _⟩ := h
    rfl
  obtain ⟨kd, a, b, x, y, rfl, e, hx, hy, q⟩ := h
  have la := tr_len ws a
  have lb := tr_len ws b
  refine ⟨_, (pss_cons (ps_if (pt_cmpR (op_eq) (pv 0) pe_str (nomark _))
    (pss_one (ps_ret (pe_lc (blk0 (N' := ["one", "other"]) (by decide +kernel) (by decide +kernel) rfl (by decide +kernel)) rfl (pi_zip rfl m_zip (pa_cons (pv 1) (pa_cons (pv 2) pa_nil))) (fun _ _ _ _ => (pg_tupK (K := K) (n := 2) rfl rfl (pgs_cons (pg_name (i := 0) (show (["one", "other"] : List Str).Nodup from by decide +kernel) rfl (Or.inl rfl)) (pgs_cons (pg_name (i := 1) (show (["one", "other"] : List Str).Nodup from by decide +kernel) rfl (Or.inl rfl)) pgs_nil)) rfl rfl)) (fun _ _ _ _ => (pe_and (pv 0) (pe_one (pv 1)))))))
    pss_nil)
  (pss_cons (ps_if (pt_cmpR (op_eq) (pv 0) pe_str (nomark _))
    (pss_one (ps_ret (pe_lc (blk0 (N' := ["one", "other"]) (by decide +kernel) (by decide +kernel) rfl (by decide +kernel)) rfl (pi_zip rfl m_zip (pa_cons (pv 1) (pa_cons (pv 2) pa_nil))) (fun _ _ _ _ => (pg_tupK (K := K) (n := 2) rfl rfl (pgs_cons (pg_name (i := 0) (show (["one", "other"] : List Str).Nodup from by decide +kernel) rfl (Or.inl rfl)) (pgs_cons (pg_name (i := 1) (show (["one", "other"] : List Str).Nodup from by decide +kernel) rfl (Or.inl rfl)) pgs_nil)) rfl rfl)) (fun _ _ _ _ => (pe_or (pv 0) (pe_one (pv 1)))))))
    pss_nil)
  (pss_one (ps_ret (pe_call G_where_then hr (by exact rfl) m_where_then k_where_then b_where_then .nil pass0 (pa_cons (pv 3) (pa_cons (pv 1) (pa_cons (pv 2) pa_nil)))))))), ?_⟩
  walk_at "rd"
  cases kd with
  | both =>
    rw [if_pos (by decide)]
    walk_at "ri"
    refine ⟨⟨_, SqL.of hx⟩, ⟨_, SqL.of hy⟩, fun acc hacc => ?_⟩
    refine lcW_zipB and (by omega) (by omega) (SqL.of hx) (SqL.of hy) hacc (fun u v T H2 C' hT hC' => ?_) (fun H2 e h => q _ _ e hacc h)
    refine ⟨T, _, rfl, hT, rfl, ?_⟩
    walk_at "rd"
    refine ⟨Wk.trans (wk_set (i := 0) rfl) (wk_set (i := 1) rfl), ?_⟩
    cases u <;> exact hC'
  | one =>
    rw [if_neg (by decide), if_pos (by decide)]
    walk_at "ri"
    refine ⟨⟨_, SqL.of hx⟩, ⟨_, SqL.of hy⟩, fun acc hacc => ?_⟩
    refine lcW_zipB or (by omega) (by omega) (SqL.of hx) (SqL.of hy) hacc (fun u v T H2 C' hT hC' => ?_) (fun H2 e h => q _ _ e hacc h)
    refine ⟨T, _, rfl, hT, rfl, ?_⟩
    walk_at "rd"
    refine ⟨Wk.trans (wk_set (i := 0) rfl) (wk_set (i := 1) rfl), ?_⟩
    cases u <;> exact hC'
  | thn =>
    rw [if_neg (by decide), if_neg (by decide)]
    exact ⟨wa, x, y, xs, ws, _, _, rfl, e _ _ hw0, hW.keep e, hg, lw, hx, hy, la, lb, fun r H' e' f' h' => q _ _ e' f' h'⟩
end
set_option Elab.async false
set_option linter.all false
set_option maxRecDepth 100000
set_option maxHeartbeats 4000000
local macro_rules | `(tactic| walk_at "rd") => `(tactic| walk_at "rdx_7")
local macro_rules | `(tactic| walk_at "ri") => `(tactic| walk_at "rdx_8")
theorem rem_keep {xs : List (Addr × Obj)} {H : Hp} (hx : ∀ p ∈ xs, H p.1 = some (FZ p.2)) {b : Addr} {u : HO} (e : H b = some u) (n : ∀ o, u ≠ FZ o) : remX xs H b = some u := by
  rw [remX_out fun z => ?_]
  · exact e
  · obtain ⟨p, hp, rfl⟩ := List.mem_map.mp z
    rw [hx p hp] at e
    cases e
    exact n p.2 rfl
theorem AtWs.moveT {K K' : PySem.W.Frag} {H H' : Hp} (k : ∀ a xs, SqT K H a xs → SqT K' H' a xs) (kl : ∀ a xs, H a = some (.lst xs) → H' a = some (.lst xs)) {vs : List V} {ws : List Wd} (h : AtWs K H vs ws) : AtWs K' H' vs ws := Paired.mapP h fun _ _ ⟨p, q, e, h1, h2⟩ => ⟨p, q, e, k _ _ h1, kl _ _ h2⟩
section
variable {P : Program} {w : World} {K : PySem.W.Frag} {mg : Str → Option Value} {base : Heap}
theorem ok_known {j : Nat} {T : Addr} {f_known : Addr} {fd_known : FuncData} (F_known : FunT K "known" "known" s_known f_known fd_known T) (hB : ∀ h, K.In h → h.BuiltinsAt mg T) (hT : mainGlobals ≠ T)
    {f_folded : Addr} {fd_folded : FuncData} (m_folded : mg "folded" = some (.ref f_folded)) (k_folded : PySem.W.keepIn K (.ref f_folded) = true) (b_folded : Binds K fd_folded ["statement", "of_simple", "of_pair"] [])
    {f_letters : Addr} {fd_letters : FuncData} (G_letters : FnOk P w K mg base CX0 (j + 2) f_letters fd_letters ["statement"] (sp_letters K)) (m_letters : mg "letters" = some (.ref f_letters)) (k_letters : PySem.W.keepIn K (.ref f_letters) = true) (b_letters : Binds K fd_letters ["statement"] [])
    {f_where_letters : Addr} {fd_where_letters : FuncData} (G_where_letters : FnOk P w K mg base CX0 (j + 2) f_where_letters fd_where_letters ["worlds", "words"] (sp_whereL K)) (m_where_letters : mg "where_letters" = some (.ref f_where_letters)) (k_where_letters : PySem.W.keepIn K (.ref f_where_letters) = true) (b_where_letters : Binds K fd_where_letters ["worlds", "words"] [])
    {f_where_then : Addr} {fd_where_then : FuncData} (m_where_then : mg "where_then" = some (.ref f_where_then)) (k_where_then : PySem.W.keepIn K (.ref f_where_then) = true) (b_where_then : Binds K fd_where_then ["worlds", "first", "second"] [])
    (GW : ∀ (K' : PySem.W.Frag) (base : Heap), KLe K K' → FnOk P w K' mg base CX0 j f_where_then fd_where_then ["worlds", "first", "second"] (sp_whereT K'))
    (KW : ∀ (K' : PySem.W.Frag), KLe K K' → PySem.W.keepIn K' (.ref f_where_then) = true ∧ Binds K' fd_where_then ["worlds", "first", "second"] [])
    (GF : ∀ (K' : PySem.W.Frag) (base : Heap) (H0 : Hp) (AD : Addr → Prop) (G : Tm → Prop) (tv : Tm → List Bool) (f1 f2 : Addr) (fd1 fd2 : FuncData), KLe K K' → (∀ a, AD a → H0 a ≠ none) →
      FnOk P w K' mg base CX0 (j + 1) f1 fd1 ["piece"] (sp_of1L K' H0 AD G tv) → PySem.W.keepIn K' (.ref f1) = true → Binds K' fd1 ["piece"] [] →
      FnOk P w K' mg base CX0 (j + 1) f2 fd2 ["kind", "first", "second"] (sp_of2L H0 tv) → PySem.W.keepIn K' (.ref f2) = true → Binds K' fd2 ["kind", "first", "second"] [] →
      FnOk P w K' mg base CX0 (j + 2) f_folded fd_folded ["statement", "of_simple", "of_pair"] (sp_foldedL K' H0 AD G tv f1 f2)) (m_len : mg "len" = none) (m_zip : mg "zip" = none) :
    FnOk P w K mg base CX0 (j + 3) f_known fd_known ["worlds", "statement"] (sp_known K T ds_known) := by
  refine F_known.ok sc_known (fun vs H Q E h => ?_) (fun c A outer s H vs Q E hC hr h => ?_)
  · obtain ⟨wa, v, t, xs, ws, us, rfl, _⟩ := h
    rfl
  obtain ⟨wa, v, t, xs, ws, us, rfl, hwa, hW, hg, lw, hTt, hok, hp, hU, lU, tab, q⟩ := h
  have lx : xs.length = ws.length := Paired.length hW
  have hix : ∀ i ∈ ([0, 2] : List Nat), ∃ x, (["worlds", "statement", "truths", "of_simple", "of_pair"] : List Str)[i]? = some x ∧ (defScope s_known).names.lookup x = some .cell ∧ (fun _ : Str => true) x = true := by
    intro i hi
    simp only [List.mem_cons, List.not_mem_nil, or_false] at hi
    rcases hi with rfl | rfl
    · exact ⟨"worlds", rfl, rfl, rfl⟩
    · exact ⟨"truths", rfl, rfl, rfl⟩
  refine ⟨_, (pss_cons (ps_set (i := 2) sc_known.nd rfl (Or.inr rfl) (pe_call G_where_letters hr (by exact rfl) m_where_letters k_where_letters b_where_letters .nil pass0 (pa_cons (pv 0) (pa_cons (pe_call G_letters hr (by exact rfl) m_letters k_letters b_letters .nil pass0 (pa_cons (pv 1) pa_nil)) pa_nil))))
  (pss_cons (ps_defS (st := s_known_of_simple) (i := 3) (qual := q_known_of_simple) (ds := ds_known) rfl sc_known.nd rfl (Or.inl rfl) (closureFor_eq (fun y hy hf => cell_has (cl_known_of_simple y hy hf))) rfl hC hB hT rfl (by simp [ds_known]) (by decide +kernel) rfl rfl rfl)
  (pss_cons (ps_defS (st := s_known_of_pair) (i := 4) (qual := q_known_of_pair) (ds := ds_known) rfl sc_known.nd rfl (Or.inl rfl) (closureFor_eq (fun y hy hf => cell_has (cl_known_of_pair y hy hf))) rfl hC hB hT rfl (by simp [ds_known]) (by decide +kernel) rfl rfl rfl)
  (pss_one (ps_ret (pe_callG (ix := [0, 2]) hr (by exact rfl) m_folded k_folded b_folded hix (pa_cons (pv 1) (pa_cons (pv 3) (pa_cons (pv 4) pa_nil))))))))), ?_⟩
  generalize hX : (cxOf CX0 P w K mg base ["worlds", "statement", "truths", "of_simple", "of_pair"] "known" (defScope s_known) f_known (.ref c) A outer s H E).nox = X
  have eP : X.prog = P := by rw [← hX]; rfl
  have ew : X.w = w := by rw [← hX]; rfl
  have eK : X.K = K := by rw [← hX]; rfl
  have em : X.mg = mg := by rw [← hX]; rfl
  have eN : X.N = (["worlds", "statement", "truths", "of_simple", "of_pair"] : List Str) := by rw [← hX]; rfl
  have ec : (PyProof.Rows.envOfC "known" (defScope s_known) s.heap.objs.size f_known (.ref c)).cells = X.env.cells := by rw [← hX]; rfl
  refine seq_then (fun σ' H' => ∃ (d : Addr) (kvs : List (Key × V)) (ad : Str → Addr) (ls : List Str), σ' = [some (.ref wa), some v, some (.ref d), none, none] ∧ Same H H' ∧ H d = none ∧ H' d = some (.dK kvs) ∧ (∀ x, x ∈ ls ↔ x ∈ t.ltrs) ∧ ∀ x ∈ ls, valV kvs (Sum.inr x) = some (.ref (ad x)) ∧ H (ad x) = none ∧ H' (ad x) = some (.lst (bls (tr ws (.ltr x))))) ?_ ?_
  rotate_left
  · intro C hC'
    walk_at "rd"
    refine ⟨v, t, us, rfl, hTt, hp, hU, lU, fun la H1 ls e1 f1 h1 hnd _ hm => ⟨wa, la, xs, ws, ls, rfl, e1 _ _ hwa, hW.keep e1, lw, SqL.of h1, hnd, ?_, fun d H2 kvs ad e2 f2 h2 hk => hC' _ _ ⟨d, kvs, ad, ls, rfl, e1.trans e2, e1.free f2, h2, hm, fun x hx => ⟨(hk x hx).1, e1.free (hk x hx).2.1, (hk x hx).2.2⟩⟩⟩⟩
    exact Nat.le_trans (len_le_sub hnd fun x hx => ltrs_inW hU x ((hm x).mp hx)) (by omega)
  rintro σ0 H0 ⟨d, kvs, ad, ls, rfl, e0, fd0, hd0, hm, hk⟩
  have tab0 : TabOk H0 T ds_known := tab.keep e0
  refine seq_then (fun σ' H' => ∃ f1, σ' = [some (.ref wa), some v, some (.ref d), some (.ref f1), none] ∧ SameU T H0 H' ∧ TabOk H' T ds_known ∧ FnFz H' f1 "of_simple" q_known_of_simple (defArgs s_known_of_simple) (defBody s_known_of_simple) (defScope s_known_of_simple) (closL X.env.cells (defScope s_known_of_simple).names [])) ?_ ?_
  rotate_left
  · intro C hC'
    exact ⟨tab0, fun f H' n sm tb fn => hC' _ _ ⟨f, rfl, sm, tb, ec ▸ fn⟩⟩
  rintro σ1 H1 ⟨f1, rfl, s1, tb1, fn1⟩
  refine seq_then (fun σ' H' => ∃ f2, σ' = [some (.ref wa), some v, some (.ref d), some (.ref f1), some (.ref f2)] ∧ SameU T H1 H' ∧ TabOk H' T ds_known ∧ FnFz H' f2 "of_pair" q_known_of_pair (defArgs s_known_of_pair) (defBody s_known_of_pair) (defScope s_known_of_pair) (closL X.env.cells (defScope s_known_of_pair).names [])) ?_ ?_
  rotate_left
  · intro C hC'
    exact ⟨tb1, fun f H' n sm tb fn => hC' _ _ ⟨f, rfl, sm, tb, ec ▸ fn⟩⟩
  rintro σ2 H2 ⟨f2, rfl, s2, tb2, fn2⟩
  have fn1 := fn1.keep s2.toT
  have s3 := s1.trans s2
  obtain ⟨o1, c1, p1, a1, a2, a3, a4, a5⟩ := fn1.objs
  obtain ⟨o2, c2, p2, b1, b2, b3, b4, b5⟩ := fn2.objs
  show tCallG X _ _ _ _ [0, 2] _ _ _ _
  unfold tCallG
  walk_at "rd"
  refine ⟨fun i hi => ?_, [(f1, o1), (c1, p1), (f2, o2), (c2, p2)], ?_, fun K' cs ok kle kback hlk hcs => ?_⟩
  · simp only [List.mem_cons, List.not_mem_nil, or_false] at hi
    rcases hi with rfl | rfl
    · exact ⟨_, rfl⟩
    · exact ⟨_, rfl⟩
  · intro p hp
    simp only [List.mem_cons, List.not_mem_nil, or_false] at hp
    rcases hp with rfl | rfl | rfl | rfl
    · exact a1
    · exact a2
    · exact b1
    · exact b2
  have hfz : ∀ p ∈ [(f1, o1), (c1, p1), (f2, o2), (c2, p2)], H2 p.1 = some (FZ p.2) := by
    intro p hp
    simp only [List.mem_cons, List.not_mem_nil, or_false] at hp
    rcases hp with rfl | rfl | rfl | rfl
    · exact a1
    · exact a2
    · exact b1
    · exact b2
  generalize hxs : [(f1, o1), (c1, p1), (f2, o2), (c2, p2)] = zs at hlk hfz kback ⊢
  have mem1 : (f1, o1) ∈ zs ∧ (c1, p1) ∈ zs ∧ (f2, o2) ∈ zs ∧ (c2, p2) ∈ zs := by rw [← hxs]; simp
  have lk : ∀ {p : Addr × Obj}, p ∈ zs → K'.lookup p.1 = some p.2 := fun hp => hlk _ (List.mem_append_left _ hp)
  obtain ⟨fd1, G1⟩ := a5 K' (lk mem1.1) (lk mem1.2.1)
  obtain ⟨fd2, G2⟩ := b5 K' (lk mem1.2.2.1) (lk mem1.2.2.2)
  rw [eK] at kle kback
  have cw : CellIn X K' "worlds" (.ref wa) ∧ CellIn X K' "truths" (.ref d) ∧ ∀ p ∈ cs, ∀ its n, p.2.data ≠ .seq its n := by
    cases hcs with
    | cons h1 r1 =>
      cases r1 with
      | cons h2 r2 =>
        cases r2
        obtain ⟨x1, v1, u1, e1, e2, e3, e4, e5⟩ := h1
        obtain ⟨x2, v2, u2, g1, g2, g3, g4, g5⟩ := h2
        rw [eN] at e1 g1
        cases e1; cases e2; cases g1; cases g2
        refine ⟨⟨_, _, u1, e3, hlk _ (List.mem_append_right _ (by simp)), e4, e5⟩, ⟨_, _, u2, g3, hlk _ (List.mem_append_right _ (by simp)), g4, g5⟩, fun p hp its n z => ?_⟩
        simp only [List.mem_cons, List.not_mem_nil, or_false] at hp
        rcases hp with rfl | rfl
        · rw [e4] at z; cases z
        · rw [g4] at z; cases z
  have C1 : Caught K' (defScope s_known_of_simple) (closL X.env.cells (defScope s_known_of_simple).names []) ["truths", "worlds"] [.ref d, .ref wa] :=
    caught_of ok rfl (by decide +kernel) (by decide +kernel) fun i y u e1 e2 => by
      match i, e1, e2 with
      | 0, e1, e2 => cases e1; cases e2; exact cw.2.1
      | 1, e1, e2 => cases e1; cases e2; exact cw.1
  have C2 : Caught K' (defScope s_known_of_pair) (closL X.env.cells (defScope s_known_of_pair).names []) ["worlds"] [.ref wa] :=
    caught_of ok rfl (by decide +kernel) (by decide +kernel) fun i y u e1 e2 => by
      match i, e1, e2 with
      | 0, e1, e2 => cases e1; cases e2; exact cw.1
  have inn := sqT_in hfz kle
  have kl : ∀ a ys, H a = some (.lst ys) → remX zs H2 a = some (.lst ys) := fun a ys h => rem_keep hfz (s3.toT _ _ (fun _ z => nomatch z) (e0 _ _ h)) (fun _ z => nomatch z)
  have kl0 : ∀ a ys, H0 a = some (.lst ys) → remX zs H2 a = some (.lst ys) := fun a ys h => rem_keep hfz (s3.toT _ _ (fun _ z => nomatch z) h) (fun _ z => nomatch z)
  have kd0 : remX zs H2 d = some (.dK kvs) := rem_keep hfz (s3.toT _ _ (fun _ z => nomatch z) hd0) (fun _ z => nomatch z)
  have hW' : AtWs K' (remX zs H2) xs ws := AtWs.moveT (fun a ys h => inn a ys (SameT.keepT s3.toT a ys (e0.keepT a ys h))) kl hW
  have hTt' : IsT K' (remX zs H2) v t := Dn.moveT inn t.noList (hTt.keep (KeepT.trans e0.keepT (SameT.keepT s3.toT)))
  generalize hHr : remX zs H2 = Hr at inn kl kl0 kd0 hW' hTt' ⊢
  refine ⟨sp_foldedL K' Hr (fun a => ∃ x ∈ ls, a = ad x) (InL ls) (tr ws) f1 f2, fun base' => ?_, ?_⟩
  · rw [eP, ew, em]
    refine GF K' base' Hr _ _ _ f1 f2 fd1 fd2 kle (fun a ⟨x, hx, e⟩ z => ?_) (ok_known_of_simple G1 C1 (kl _ _ hwa) lx lw kd0 (fun x hx => ⟨(hk x hx).1, kl0 _ _ (hk x hx).2.2⟩) m_len) G1.kp (G1.binds fun _ _ _ _ us hl => match us, hl with | [_], _ => rfl)
      (ok_known_of_pair G2 C2 (kl _ _ hwa) hW' hg lw (GW K' _ kle) m_where_then (KW K' kle).1 (KW K' kle).2 m_zip) G2.kp (G2.binds fun _ _ _ _ us hl => match us, hl with | [_, _, _], _ => rfl)
    rw [e, kl0 _ _ (hk x hx).2.2] at z; cases z
  · refine ⟨v, t, rfl, rfl, hTt', fun s hs hkd => ?_, by omega, fun r H3 e3 hr3 ha n3 => ?_⟩
    · cases s with
      | low => trivial
      | ltr x => exact (hm x).mpr (by rw [← pre_here]; exact List.mem_flatMap.mpr ⟨_, hs, by simp [Tm.here]⟩)
      | nd k a b => cases hkd
    have sb := same_back (H := H2) (xs := zs) (hHr ▸ e3)
    have nz : r ∉ zs.map (·.1) := fun z => by
      obtain ⟨p, hp, e⟩ := List.mem_map.mp z
      rw [← e, n3 p hp] at hr3; cases hr3
    have nr : H r = none := by
      rcases ha with ⟨x, hx, rfl⟩ | ha
      · exact (hk x hx).2.1
      · rw [← hHr, remX_out nz] at ha
        exact e0.free (s3.free ha)
    refine q _ _ ((SameU.trans e0.toU s3).trans sb.toU) (tb2.keep sb) nr ?_
    rw [backX_out nz]; exact hr3
end
set_option Elab.async false
set_option linter.all false
set_option maxRecDepth 100000
set_option maxHeartbeats 4000000
local macro_rules | `(tactic| walk_at "rd") => `(tactic| walk_at "rdx_5")
local macro_rules | `(tactic| walk_at "ri") => `(tactic| walk_at "rdx_6")
abbrev s__law_long : Stmt := top 23
theorem sc__law_long : FnScope ["_law_cell_here", "_law_size", "_law_first", "_law_second", "_law_worlds_here", "_law_k", "_law_words_here", "_law_due"] ["_law_cell_here"] (defScope s__law_long) := ⟨rfl, rfl, rfl, by decide +kernel, rfl, by decide +kernel, by decide +kernel⟩
def sp_long2 (T : Addr) : Sp := fun vs H Q _ => ∃ c : Int, vs = [.int c] ∧ 0 ≤ c ∧ TabOk H T ds_known ∧ ∀ H', Q (.bl true) H'
section
variable {P : Program} {w : World} {K : PySem.W.Frag} {mg : Str → Option Value} {base : Heap}
theorem ok__law_long {k : Nat} {T : Addr} {f__law_long : Addr} {fd__law_long : FuncData} (F__law_long : Fun K "_law_long" "_law_long" s__law_long f__law_long fd__law_long) {f__law_mix : Addr} {fd__law_mix : FuncData} (G__law_mix : FnOk P w K mg base CX0 k f__law_mix fd__law_mix ["_law_cell_here", "_law_k"] (sp_mix)) (m__law_mix : mg "_law_mix" = some (.ref f__law_mix)) (k__law_mix : PySem.W.keepIn K (.ref f__law_mix) = true) (b__law_mix : Binds K fd__law_mix ["_law_cell_here", "_law_k"] []) {f_later : Addr} {fd_later : FuncData} (G_later : FnOk P w K mg base CX0 k f_later fd_later ["worlds", "world"] (sp_later2 K)) (m_later : mg "later" = some (.ref f_later)) (k_later : PySem.W.keepIn K (.ref f_later) = true) (b_later : Binds K fd_later ["worlds", "world"] []) {f_known : Addr} {fd_known : FuncData} (G_known : FnOk P w K mg base CX0 k f_known fd_known ["worlds", "statement"] (sp_known K T ds_known)) (m_known : mg "known" = some (.ref f_known)) (k_known : PySem.W.keepIn K (.ref f_known) = true) (b_known : Binds K fd_known ["worlds", "statement"] []) (m_range : mg "range" = none) (m_list : mg "list" = none) (m_max : mg "max" = none) (m_int : mg "int" = none) : FnOk P w K mg base CX0 (k + 1) f__law_long fd__law_long ["_law_cell_here"] (sp_long2 T) := by
  refine F__law_long.ok sc__law_long (fun vs H Q E h => ?_) (fun cdv A outer s H vs Q E hr h => ?_)
  · obtain ⟨c, rfl, _⟩ := h
    rfl
  obtain ⟨c, rfl, hc, tb0, q⟩ := h
  refine ⟨_, (pss_cons (ps_set (i := 1) sc__law_long.nd rfl (Or.inl rfl) (pe_op op_add pe_int (pe_op op_mod (pv 0) pe_int)))
  (pss_cons (ps_set (i := 2) sc__law_long.nd rfl (Or.inr rfl) (pe_op op_mod (pe_op op_fdiv (pv 0) pe_int) (pv 1)))
  (pss_cons (ps_set (i := 3) sc__law_long.nd rfl (Or.inr rfl) (pe_op op_mod (pe_call G__law_mix hr (by exact rfl) m__law_mix k__law_mix b__law_mix .nil pass0 (pa_cons (pv 0) (pa_cons pe_int pa_nil))) (pv 1)))
  (pss_cons (ps_set (i := 4) sc__law_long.nd rfl (Or.inl rfl) (pe_lst pa_nil))
  (pss_cons (ps_for PassesOwn.never rfl (pi_range1 rfl m_range (pa_cons (pv 1) pa_nil)) (pg_name (i := 5) sc__law_long.nd rfl (Or.inr rfl))
    (pss_cons (ps_setLCG (i := 6) sc__law_long.nd rfl (Or.inl rfl) (blkC (N' := ["_law_word", "_law_start", "_law_k"]) (nt := 2) (ci := [5]) ["_law_cell_here", "_law_size", "_law_first", "_law_second", "_law_worlds_here", "_law_k", "_law_words_here", "_law_due"] (defScope s__law_long) rfl rfl (by decide +kernel) rfl (by decide +kernel) (by decide +kernel) rfl (by decide +kernel)) rfl (pi_list (pe_lst (pa_cons (pe_tup (pa_cons pe_str (pa_cons (pv 2) pa_nil))) (pa_cons (pe_tup (pa_cons pe_str (pa_cons (pv 3) pa_nil))) pa_nil)))) (fun _ _ _ _ => (pg_tupK (K := K) (n := 2) rfl rfl (pgs_cons (pg_name (i := 0) (show (["_law_word", "_law_start", "_law_k"] : List Str).Nodup from by decide +kernel) rfl (Or.inl rfl)) (pgs_cons (pg_name (i := 1) (show (["_law_word", "_law_start", "_law_k"] : List Str).Nodup from by decide +kernel) rfl (Or.inl rfl)) pgs_nil)) rfl rfl)) (fun _ _ => turn_L1 (tg2 := (.Name "" ⟨0, 0, 0, 0⟩)) (iter2 := (.Name "" ⟨0, 0, 0, 0⟩))) (fun _ _ _ _ _ => (pk_test (pt_cmpR (op_ge) (pv 2) (pv 1) (nomark _)) (pk_emitL (pv 0)))) rfl)
  (pss_one (ps_expr (pe_bm PySem.F.plainAttrs_list PySem.F.slot_list_append PySem.F.type_list_append mt_append (pv 4) (pa_cons (pe_tup (pa_cons (pe_ix ix_list (pe_lst (pa_cons (pe_op op_sub (pv 5) pe_int) (pa_cons pe_non pa_nil))) (pe_callTy call_int1 (by exact rfl) m_int Ken.boot_int (pa_cons (pe_cmpR (op_eq) (pv 5) pe_int (nomark _)) pa_nil)) (fun _ _ => rfl)) (pa_cons (pv 6) pa_nil))) pa_nil))))))
  (pss_cons (ps_if ((pw_or (pt_cmpR (op_neD (hu_150 hr)) (pe_call G_later hr (by exact rfl) m_later k_later b_later .nil pass0 (pa_cons (pv 4) (pa_cons pe_int pa_nil))) (pe_listR1 rfl (by exact rfl) m_list (by exact rfl) m_range (pa_cons (pv 1) pa_nil)) (nomark _)) (pw_or1 (pt_cmpR (op_neD (hu_150 hr)) (pe_call G_later hr (by exact rfl) m_later k_later b_later .nil pass0 (pa_cons (pv 4) (pa_cons (pv 2) pa_nil))) (pe_listR2 rfl (by exact rfl) m_list (by exact rfl) m_range (pa_cons (pv 2) (pa_cons (pv 1) pa_nil))) (nomark _))))).pt
    (pss_one (ps_ret pe_bl))
    pss_nil)
  (pss_cons (ps_if (pt_cmpR (op_neD (hu_150 hr)) (pe_call G_known hr (by exact rfl) m_known k_known b_known .nil pass0 (pa_cons (pv 4) (pa_cons (pe_tup (pa_cons pe_str (pa_cons pe_str pa_nil))) pa_nil))) (pe_lc (blkC (N' := ["_law_k", "_law_first"]) (nt := 1) (ci := [2]) ["_law_cell_here", "_law_size", "_law_first", "_law_second", "_law_worlds_here", "_law_k", "_law_words_here", "_law_due"] (defScope s__law_long) rfl rfl (by decide +kernel) rfl (by decide +kernel) (by decide +kernel) rfl (by decide +kernel)) rfl (pi_range1 rfl m_range (pa_cons (pv 1) pa_nil)) (fun _ _ _ _ => (pg_name (i := 0) (show (["_law_k", "_law_first"] : List Str).Nodup from by decide +kernel) rfl (Or.inl rfl))) (fun _ _ _ _ => (pe_cmpR (op_ge) (pv 0) (pv 1) (nomark _)))) (nomark _))
    (pss_one (ps_ret pe_bl))
    pss_nil)
  (pss_cons (ps_setLC (i := 7) sc__law_long.nd rfl (Or.inl rfl) (blkC (N' := ["_law_k", "_law_second", "_law_first"]) (nt := 1) (ci := [3, 2]) ["_law_cell_here", "_law_size", "_law_first", "_law_second", "_law_worlds_here", "_law_k", "_law_words_here", "_law_due"] (defScope s__law_long) rfl rfl (by decide +kernel) rfl (by decide +kernel) (by decide +kernel) rfl (by decide +kernel)) rfl (pi_range1 rfl m_range (pa_cons (pv 1) pa_nil)) (fun _ _ _ _ => (pg_name (i := 0) (show (["_law_k", "_law_second", "_law_first"] : List Str).Nodup from by decide +kernel) rfl (Or.inl rfl))) (fun _ _ _ _ => (pe_cmpR (op_ge) (pe_callB (call_max2 rfl) (by exact rfl) m_max Ken.boot_max (pa_cons (pv 0) (pa_cons (pv 2) pa_nil))) (pv 1) (nomark _))) rfl)
  (pss_one (ps_ret (pe_cmpR (op_eqD (hu_150 hr)) (pe_call G_known hr (by exact rfl) m_known k_known b_known .nil pass0 (pa_cons (pv 4) (pa_cons (pe_tup (pa_cons pe_str (pa_cons (pe_tup (pa_cons pe_str (pa_cons pe_str pa_nil))) (pa_cons (pe_tup (pa_cons pe_str (pa_cons pe_str pa_nil))) pa_nil)))) pa_nil))) (pv 7) (nomark _)))))))))))), ?_⟩
  refine seq_then (fun σ' H' => ∃ n : Nat, σ' = [some (.int c), some (.int (n : Nat)), none, none, none, none, none, none] ∧ H' = H ∧ 1100 ≤ n ∧ n ≤ 1500) ?_ ?_
  rotate_left
  · intro C hC
    walk_at "rd"
    have h0 := Int.emod_nonneg c (show (401 : Int) ≠ 0 by decide)
    have h1 := Int.emod_lt_of_pos c (show (0 : Int) < 401 by decide)
    refine ⟨by decide, hC _ _ ⟨(1100 + c % 401).toNat, ?_, rfl, by omega, by omega⟩⟩
    rw [Int.toNat_of_nonneg (by omega)]
  rintro σ1 H1 ⟨n, rfl, rfl, n1, n2⟩
  refine seq_then (fun σ' H' => ∃ f : Nat, σ' = [some (.int c), some (.int (n : Nat)), some (.int (f : Nat)), none, none, none, none, none] ∧ H' = H1 ∧ f < n) ?_ ?_
  rotate_left
  · intro C hC
    walk_at "rd"
    have h0 := Int.emod_nonneg (c / 401) (show (n : Int) ≠ 0 by omega)
    have h1 := Int.emod_lt_of_pos (c / 401) (show (0 : Int) < n by omega)
    refine ⟨⟨by decide, by decide⟩, by omega, hC _ _ ⟨(c / 401 % n).toNat, ?_, rfl, by omega⟩⟩
    rw [Int.toNat_of_nonneg (by omega)]
  rintro σ2 H2 ⟨f, rfl, rfl, hf⟩
  refine seq_then (fun σ' H' => ∃ g : Nat, σ' = [some (.int c), some (.int (n : Nat)), some (.int (f : Nat)), some (.int (g : Nat)), none, none, none, none] ∧ H' = H2 ∧ g < n) ?_ ?_
  rotate_left
  · intro C hC
    walk_at "rd"
    have h0 := Int.emod_nonneg (mix c 1) (show (n : Int) ≠ 0 by omega)
    have h1 := Int.emod_lt_of_pos (mix c 1) (show (0 : Int) < n by omega)
    refine ⟨_, _, rfl, by decide, by decide, _, rfl, by omega, hC _ _ ⟨(mix c 1 % n).toNat, ?_, rfl, by omega⟩⟩
    rw [Int.toNat_of_nonneg (by omega)]
  rintro σ3 H3 ⟨g, rfl, rfl, hg⟩
  refine seq_then (fun σ' H' => ∃ lw, σ' = [some (.int c), some (.int (n : Nat)), some (.int (f : Nat)), some (.int (g : Nat)), some (.ref lw), none, none, none] ∧ Same H3 H' ∧ H3 lw = none ∧ H' lw = some (.lst [])) ?_ ?_
  rotate_left
  · intro C hC
    walk_at "rd"
    exact ⟨by decide, fun p hp => hC _ _ ⟨p, rfl, same_new hp _, hp, upd_same⟩⟩
  rintro σ4 H4 ⟨lw, rfl, e4, f4, h4⟩
  refine seq_then (fun σ' H' => ∃ x5 x6 us, σ' = [some (.int c), some (.int (n : Nat)), some (.int (f : Nat)), some (.int (g : Nat)), some (.ref lw), x5, x6, none] ∧ Same H3 H' ∧ H' lw = some (.lst us) ∧ Paired (AtWn K H' lw) us (chain f g n)) ?_ ?_
  rotate_left
  · intro C hC
    walk_at "ri"
    refine ⟨by omega, by omega, ?_⟩
    rw [Int.toNat_natCast]
    refine for_range (D := { nx := C, rt := Q }) (n := n) (lo := 0) (fun i σ' H' => ∃ x5 x6 us, σ' = [some (.int c), some (.int (n : Nat)), some (.int (f : Nat)), some (.int (g : Nat)), some (.ref lw), x5, x6, none] ∧ Same H3 H' ∧ H' lw = some (.lst us) ∧ Paired (AtWn K H' lw) us (chain f g i)) ⟨none, none, [], rfl, e4, h4, .nil⟩ (fun i σ' H' hi hp => ?_) (fun σ' H' hp => hC _ _ hp)
    obtain ⟨x5, x6, us, rfl, e, h, hu⟩ := hp
    have lu := Paired.length hu
    rw [chain_len] at lu
    simp only [gName, List.set_cons_zero, List.set_cons_succ]
    refine seq_then (fun σ' H2 => ∃ la, σ' = [some (.int c), some (.int (n : Nat)), some (.int (f : Nat)), some (.int (g : Nat)), some (.ref lw), some (.int (0 + (i : Nat))), some (.ref la), none] ∧ Same H' H2 ∧ H' la = none ∧ H2 la = some (.lst ((chW f g i).2.map V.str))) ?_ ?_
    rotate_left
    · intro C hC
      walk_at "rd"
      refine ⟨by decide, fun p hp => ⟨by decide, fun p1 hp1 => ⟨by decide, fun p2 hp2 => ⟨⟨_, SqL.of upd_same⟩, fun acc hacc => ?_⟩⟩⟩⟩
      have s1 := same_new hp (HO.tup [V.str (Str.ofString "a"), V.int ↑f])
      have s2 := same_new hp1 (HO.tup [V.str (Str.ofString "b"), V.int ↑g])
      have s3 := same_new hp2 (HO.lst [V.ref p, V.ref p1])
      have hP : SqT K (upd (upd (upd H' p (HO.tup [V.str (Str.ofString "a"), V.int ↑f])) p1 (HO.tup [V.str (Str.ofString "b"), V.int ↑g])) p2 (HO.lst [V.ref p, V.ref p1])) p [V.str (Str.ofString "a"), V.int ↑f] := (s2.trans s3).sqt (.inl (.inl upd_same))
      have hP1 : SqT K (upd (upd (upd H' p (HO.tup [V.str (Str.ofString "a"), V.int ↑f])) p1 (HO.tup [V.str (Str.ofString "b"), V.int ↑g])) p2 (HO.lst [V.ref p, V.ref p1])) p1 [V.str (Str.ofString "b"), V.int ↑g] := s3.sqt (.inl (.inl upd_same))
      have hL : SqL K (upd (upd (upd H' p (HO.tup [V.str (Str.ofString "a"), V.int ↑f])) p1 (HO.tup [V.str (Str.ofString "b"), V.int ↑g])) p2 (HO.lst [V.ref p, V.ref p1])) p2 [V.ref p, V.ref p1] := SqL.of upd_same
      have S := (s1.trans s2).trans s3
      have fac := S.free hacc
      generalize upd (upd (upd H' p (HO.tup [V.str (Str.ofString "a"), V.int ↑f])) p1 (HO.tup [V.str (Str.ofString "b"), V.int ↑g])) p2 (HO.lst [V.ref p, V.ref p1]) = H9 at *
      refine comp_list (xs := [V.ref p, V.ref p1]) (fun m H2 => Same H9 H2 ∧ H2 acc = some (.lst ((if m = 0 then [] else (if f ≤ i then [("a" : Str)] else []) ++ if m = 1 then [] else (if g ≤ i then [("b" : Str)] else [])).map V.str))) ⟨same_new hacc _, upd_same⟩ (fun m H2 _ ⟨e, _⟩ => e.seq hL) (fun m u H2 N hx ⟨e, h⟩ hN => ?_) (fun H2 ⟨e, h⟩ => hC _ _ ⟨acc, rfl, S.trans e, fac, h⟩)
      have m2 : m < 2 := (List.getElem?_eq_some_iff.mp hx).1
      rcases (show m = 0 ∨ m = 1 by omega) with rfl | rfl
      · cases hx
        walk_at "rd"
        refine ⟨_, e.sqt hP, rfl, _, _, rfl, _, _, rfl, rfl, Wk.trans (wk_set (i := 0) rfl) (wk_set (i := 1) rfl), (f : Int), rfl, ?_⟩
        by_cases z : f ≤ i
        · rw [if_pos (by omega)]
          refine ⟨[], h, by decide, hN _ ⟨e.write hacc, ?_⟩⟩
          rw [upd_same, if_pos z]; rfl
        · rw [if_neg (by omega)]
          refine hN _ ⟨e, ?_⟩
          rw [h, if_neg z]; rfl
      · cases hx
        walk_at "rd"
        refine ⟨_, e.sqt hP1, rfl, _, _, rfl, _, _, rfl, rfl, Wk.trans (wk_set (i := 0) rfl) (wk_set (i := 1) rfl), (g : Int), rfl, ?_⟩
        have l1 : (((if f ≤ i then [("a" : Str)] else []) ++ ([] : List Str)).map V.str).length ≤ 1 := by
          by_cases z : f ≤ i <;> simp [z]
        by_cases z : g ≤ i
        · rw [if_pos (by omega)]
          refine ⟨_, h, small1M (Nat.le_trans l1 (by decide)), hN _ ⟨e.write hacc, ?_⟩⟩
          rw [upd_same, if_pos z]
          show some (HO.lst (((if f ≤ i then [("a" : Str)] else []) ++ []).map V.str ++ _)) = some (HO.lst (((if f ≤ i then [("a" : Str)] else []) ++ [("b" : Str)]).map V.str))
          rw [List.append_nil, List.map_append]; rfl
        · rw [if_neg (by omega)]
          refine hN _ ⟨e, ?_⟩
          rw [h, if_neg z]; rfl
    rintro σa Ha ⟨la, rfl, ea, fa, ha⟩
    have hA := ea _ _ h
    walk_at "rd"
    refine ⟨.inl ⟨rfl, _, SqL.of hA⟩, by decide, fun p hp => .inr ⟨_, SqL.of upd_same, bV (chW f g i).1, ?_, by decide, fun r hr => ?_⟩⟩
    · by_cases z : i = 0
      · subst z; rfl
      · rw [if_neg (by omega)]
        show some (V.int _) = some (bV (if i = 0 then none else some (i - 1)))
        rw [if_neg z]
        show some (V.int _) = some (V.int _)
        rw [show (0 : Int) + (i : Int) - 1 = ((i - 1 : Nat) : Int) by omega]
    · have s1 := same_new hp (HO.lst [V.int (0 + ↑i - 1), V.non])
      have s2 := same_new hr (HO.tup [bV (chW f g i).1, V.ref la])
      have s12 := s1.trans s2
      have hB := s12 _ _ hA
      have nla : la ≠ lw := fun z => by rw [z, h] at fa; cases fa
      refine ⟨us, hB, small1M (by omega), ((e.trans ea).trans s12).write f4, _, upd_same, ?_⟩
      rw [chain_snoc]
      exact paired_app (Paired.mapP hu fun _ _ z => ((z.keep ea).keep s12).write hB) (.cons (AtWn.write hB ⟨r, la, nla, rfl, .inl (.inl upd_same), s12 _ _ ha⟩) .nil)
  rintro σ5 H5 ⟨x5, x6, us, rfl, e5, h5, hu⟩
  refine seq_then (fun σ' H' => ∃ x5 x6, σ' = [some (.int c), some (.int (n : Nat)), some (.int (f : Nat)), some (.int (g : Nat)), some (.ref lw), x5, x6, none] ∧ Same H5 H') ?_ ?_
  rotate_left
  · intro C hC
    walk_at "rd"
    refine ⟨lw, us, chain f g n, 0, rfl, h5, Paired.mapP hu (fun _ _ z => z.at), chain_good _ _ _, by rw [chain_len]; omega, by rw [chain_len]; omega, fun r H' e1 fr hr => ⟨n, rfl, by omega, fun l hl => ?_⟩⟩
    have s1 := same_new hl (HO.lst (natsV (List.range' 0 n)))
    have el : latN (chain f g n) 0 ((chain f g n).length - (0 + 1)) = List.range' 0 n := by
      rw [chain_lat _ (by rw [chain_len]; omega), chain_len]
      rw [show n - (0 + 1) + 1 = n by omega]
    rw [el] at hr
    refine ⟨.list (natsD (List.range' 0 n)), ?_, .list (natsD (List.range' 0 n)), ?_, nats_lay _, nats_lay _, Nat.le_trans (Nat.min_le_left _ _) (Nat.le_trans (nats_depth _) (by decide)), ?_⟩
    · rw [Dn]; exact ⟨r, _, rfl, SqL.of (s1 _ _ hr), nats_dn _⟩
    · rw [Dn]; exact ⟨l, _, rfl, SqL.of upd_same, nats_dn _⟩
    rw [if_pos trivial, nats_self, if_neg (by decide)]
    have S := e1.trans s1
    refine ⟨lw, us, chain f g n, f, rfl, S _ _ h5, Paired.mapP hu (fun _ _ z => (z.keep S).at), chain_good _ _ _, by rw [chain_len]; omega, by rw [chain_len]; omega, fun r2 H2 e2 fr2 hr2 => ⟨f, rfl, n, rfl, by omega, by omega, fun l2 hl2 => ?_⟩⟩
    have s2 := same_new hl2 (HO.lst (natsV (List.range' f (n - f))))
    have el2 : latN (chain f g n) f ((chain f g n).length - (f + 1)) = List.range' f (n - f) := by
      rw [chain_lat _ (by rw [chain_len]; omega), chain_len]
      rw [show n - (f + 1) + 1 = n - f by omega]
    rw [el2] at hr2
    refine ⟨.list (natsD (List.range' f (n - f))), ?_, .list (natsD (List.range' f (n - f))), ?_, nats_lay _, nats_lay _, Nat.le_trans (Nat.min_le_left _ _) (Nat.le_trans (nats_depth _) (by decide)), ?_⟩
    · rw [Dn]; exact ⟨r2, _, rfl, SqL.of (s2 _ _ hr2), nats_dn _⟩
    · rw [Dn]; exact ⟨l2, _, rfl, SqL.of upd_same, nats_dn _⟩
    rw [if_pos trivial, nats_self, if_neg (by decide)]
    exact hC _ _ ⟨_, _, rfl, S.trans (e2.trans s2)⟩
  rintro σ6 H6 ⟨x5, x6, rfl, e6⟩
  have h6 := e6 _ _ h5
  have hW6 : AtWs K H6 us (chain f g n) := Paired.mapP hu fun _ _ z => (z.keep e6).at
  have tb6 : TabOk H6 T ds_known := tb0.keep (e5.trans e6)
  refine seq_then (fun σ' H' => ∃ x5 x6, σ' = [some (.int c), some (.int (n : Nat)), some (.int (f : Nat)), some (.int (g : Nat)), some (.ref lw), x5, x6, none] ∧ SameU T H6 H' ∧ TabOk H' T ds_known) ?_ ?_
  rotate_left
  · intro C hC
    walk_at "rd"
    refine ⟨by decide, fun p hp => ?_⟩
    have s1 := same_new hp (HO.tup [V.str (Str.ofString "letter"), V.str (Str.ofString "a")])
    have hT : IsT K (upd H6 p (HO.tup [V.str (Str.ofString "letter"), V.str (Str.ofString "a")])) (.ref p) (.ltr "a") := isT_ltr.mpr ⟨p, rfl, .inl (.inl upd_same)⟩
    refine ⟨lw, .ref p, .ltr "a", us, chain f g n, ["a"], rfl, s1 _ _ h6, hW6.keep s1, chain_good _ _ _, by rw [chain_len]; omega, hT, ?_, by decide, ?_, by decide, tb6.keep s1, fun r H' e1 tb1 fr hr => ?_⟩
    · exact (word_of (by decide +kernel) : Word "a")
    · exact List.mem_singleton.mpr rfl
    rw [chain_a] at hr
    walk_at "ri"
    refine ⟨by omega, by omega, fun acc hacc => ?_⟩
    rw [Int.toNat_natCast]
    refine lcW_rangeB (fun k => decide (f ≤ k)) (by omega) hacc (fun i H2 C' hi hC' => ?_) (fun H2 e2 h2 => ?_)
    · walk_at "rd"
      refine ⟨wk_set (i := 0) rfl, ?_⟩
      rw [show decide ((f : Int) ≤ 0 + (i : Int)) = decide (f ≤ i) from decide_eq_decide.mpr (by omega)]
      exact hC'
    · refine ⟨.list ((bools n fun k => decide (f ≤ k)).map PyData.bool), ?_, .list ((bools n fun k => decide (f ≤ k)).map PyData.bool), ?_, bools_lay _, bools_lay _, Nat.le_trans (Nat.min_le_left _ _) (Nat.le_trans (bools_depth _) (by decide)), ?_⟩
      · rw [Dn]; exact ⟨r, _, rfl, SqL.of (e2 _ _ hr), bools_dn _⟩
      · rw [Dn]; exact ⟨acc, _, rfl, SqL.of h2, bools_dn _⟩
      rw [if_pos trivial, bools_self, if_neg (by decide)]
      exact hC _ _ ⟨_, _, rfl, (Same.toU s1).trans (e1.trans (Same.toU e2)), tb1.keep e2⟩
  rintro σ7 H7 ⟨x5, x6, rfl, e7, tb7⟩
  refine seq_then (fun σ' H' => ∃ x5 x6 ld, σ' = [some (.int c), some (.int (n : Nat)), some (.int (f : Nat)), some (.int (g : Nat)), some (.ref lw), x5, x6, some (.ref ld)] ∧ Same H7 H' ∧ H' ld = some (.lst (bls (bools n fun k => decide (g ≤ max k f))))) ?_ ?_
  rotate_left
  · intro C hC
    walk_at "rd"
    walk_at "ri"
    refine ⟨by omega, by omega, fun acc hacc => ?_⟩
    rw [Int.toNat_natCast]
    refine lcW_rangeB (fun k => decide (g ≤ max k f)) (by omega) hacc (fun i H2 C' hi hC' => ?_) (fun H2 e2 h2 => hC _ _ ⟨_, _, acc, rfl, e2, h2⟩)
    walk_at "rd"
    refine ⟨wk_set (i := 0) rfl, ?_⟩
    have hd : decide ((g : Int) ≤ if (f : Int) > 0 + (i : Int) then (f : Int) else 0 + (i : Int)) = decide (g ≤ max i f) := decide_eq_decide.mpr (by split <;> omega)
    rw [hd]
    exact hC'
  rintro σ8 H8 ⟨x5, x6, ld, rfl, e8, h8⟩
  have e68 : SameU T H6 H8 := e7.trans (Same.toU e8)
  walk_at "rd"
  refine ⟨by decide, fun p hp => ⟨by decide, fun p1 hp1 => ⟨by decide, fun p2 hp2 => ?_⟩⟩⟩
  have s1 := same_new hp (HO.tup [V.str (Str.ofString "letter"), V.str (Str.ofString "a")])
  have s2 := same_new hp1 (HO.tup [V.str (Str.ofString "letter"), V.str (Str.ofString "b")])
  have s3 := same_new hp2 (HO.tup [V.str (Str.ofString "then"), V.ref p, V.ref p1])
  have S := s1.trans (s2.trans s3)
  have eS := e68.trans (Same.toU S)
  have hT : IsT K (upd (upd (upd H8 p (HO.tup [V.str (Str.ofString "letter"), V.str (Str.ofString "a")])) p1 (HO.tup [V.str (Str.ofString "letter"), V.str (Str.ofString "b")])) p2 (HO.tup [V.str (Str.ofString "then"), V.ref p, V.ref p1])) (.ref p2) (.nd .thn (.ltr "a") (.ltr "b")) :=
    isT_nd.mpr ⟨p2, .ref p, .ref p1, rfl, .inl (.inl upd_same), isT_ltr.mpr ⟨p, rfl, (s2.trans s3).sqt (.inl (.inl upd_same))⟩, isT_ltr.mpr ⟨p1, rfl, s3.sqt (.inl (.inl upd_same))⟩⟩
  refine ⟨lw, .ref p2, .nd .thn (.ltr "a") (.ltr "b"), us, chain f g n, ["a", "b"], rfl, eS.toT _ _ (fun _ z => nomatch z) h6, hW6.keepU eS, chain_good _ _ _, by rw [chain_len]; omega, hT, ⟨word_of (by decide +kernel), word_of (by decide +kernel)⟩, by decide, ⟨List.mem_cons_self, List.mem_cons_of_mem _ List.mem_cons_self⟩, by decide, tb7.keep (e8.trans S), fun r H' e1 tb1 fr hr => ?_⟩
  rw [chain_if hf] at hr
  refine ⟨.list ((bools n fun k => decide (g ≤ max k f)).map PyData.bool), ?_, .list ((bools n fun k => decide (g ≤ max k f)).map PyData.bool), ?_, bools_lay _, bools_lay _, Nat.le_trans (Nat.min_le_left _ _) (Nat.le_trans (bools_depth _) (by decide)), ?_⟩
  · rw [Dn]; exact ⟨r, _, rfl, SqL.of hr, bools_dn _⟩
  · rw [Dn]; exact ⟨ld, _, rfl, SqL.of (e1.toT _ _ (fun _ z => nomatch z) (S _ _ h8)), bools_dn _⟩
  rw [if_neg Bool.false_ne_true, bools_self]
  exact q _
end
set_option Elab.async false
set_option linter.all false
set_option maxRecDepth 100000
set_option maxHeartbeats 4000000
local macro_rules | `(tactic| walk_at "rd") => `(tactic| walk_at "rdx_1")
local macro_rules | `(tactic| walk_at "ri") => `(tactic| walk_at "rdx_2")
section
variable {P : Program} {w : World} {K : PySem.W.Frag} {mg : Str → Option Value} {base : Heap}
theorem ok__law_words {k : Nat} {f__law_words : Addr} {fd__law_words : FuncData} (F__law_words : Fun K "_law_words" "_law_words" s__law_words f__law_words fd__law_words) (m_range : mg "range" = none) : FnOk P w K mg base CX0 (k + 1) f__law_words fd__law_words ["_law_cell_here", "_law_many"] sp_words := by
  refine F__law_words.ok sc__law_words (fun vs H Q E h => ?_) (fun cdv A outer s H vs Q E hr h => ?_)
  · obtain ⟨c, m, rfl, _⟩ := h
    rfl
  obtain ⟨c, m, rfl, hc0, h0, h1, q⟩ := h
  refine ⟨_, (pss_cons (ps_set (i := 2) sc__law_words.nd rfl (Or.inl rfl) (pe_lst (pa_cons pe_str (pa_cons pe_str (pa_cons pe_str (pa_cons pe_str (pa_cons pe_str (pa_cons pe_str pa_nil))))))))
  (pss_cons (ps_if (pt_cmpR (op_eq) (pe_op op_mod (pv 0) pe_int) pe_int (nomark _))
    (pss_one (ps_setLC (i := 2) sc__law_words.nd rfl (Or.inl rfl) (blk0 (N' := ["_law_k"]) (by decide +kernel) (by decide +kernel) rfl (by decide +kernel)) rfl (pi_range1 rfl m_range (pa_cons pe_int pa_nil)) (fun _ _ _ _ => (pg_name (i := 0) (show (["_law_k"] : List Str).Nodup from by decide +kernel) rfl (Or.inl rfl))) (fun _ _ _ _ => (pe_op op_mulS pe_str (pe_op op_add pe_int (pv 0)))) rfl))
    pss_nil)
  (pss_cons (ps_if (pt_cmpR (op_eq) (pe_op op_mod (pv 0) pe_int) pe_int (nomark _))
    (pss_cons (ps_set (i := 3) sc__law_words.nd rfl (Or.inr rfl) (pe_op op_add pe_int (pe_op op_mod (pe_op op_fdiv (pv 0) pe_int) pe_int)))
  (pss_cons (ps_set (i := 4) sc__law_words.nd rfl (Or.inr rfl) (pe_op op_mod (pe_op op_fdiv (pv 0) pe_int) (pv 3)))
  (pss_one (ps_setLC (i := 2) sc__law_words.nd rfl (Or.inl rfl) (blkC (N' := ["_law_k", "_law_at", "_law_size"]) (nt := 1) (ci := [4, 3]) ["_law_cell_here", "_law_many", "_law_some_here", "_law_size", "_law_at", "_law_start"] (defScope s__law_words) rfl rfl (by decide +kernel) rfl (by decide +kernel) (by decide +kernel) rfl (by decide +kernel)) rfl (pi_range1 rfl m_range (pa_cons pe_int pa_nil)) (fun _ _ _ _ => (pg_name (i := 0) (show (["_law_k", "_law_at", "_law_size"] : List Str).Nodup from by decide +kernel) rfl (Or.inl rfl))) (fun _ _ _ _ => (pe_op op_add_str (pe_op op_add_str (pe_op op_mulS pe_str (pv 1)) (pe_ix ix_str pe_str (pv 0) (fun _ _ => rfl))) (pe_op op_mulS pe_str (pe_op op_sub (pe_op op_sub (pv 2) pe_int) (pv 1))))) rfl))))
    pss_nil)
  (pss_cons (ps_if (pt_cmpR (op_eq) (pe_op op_mod (pv 0) pe_int) pe_int (nomark _))
    (pss_one (ps_set (i := 2) sc__law_words.nd rfl (Or.inl rfl) (pe_lst (pa_cons pe_str (pa_cons pe_str (pa_cons pe_str (pa_cons pe_str (pa_cons pe_str (pa_cons pe_str pa_nil)))))))))
    pss_nil)
  (pss_cons (ps_set (i := 5) sc__law_words.nd rfl (Or.inl rfl) (pe_op op_mod (pe_op op_fdiv (pv 0) pe_int) pe_int))
  (pss_one (ps_ret (pe_slice sl_list (pe_op op_cat (pe_slice sl_list (pv 2) (po_some (pv 5)) po_none) (pe_slice sl_list (pv 2) po_none (po_some (pv 5)))) po_none (po_some (pv 1)))))))))), ?_⟩
  have lit : ∀ (ws : List Str) (H1 : Hp) (p : Addr), Same H H1 → H1 p = none → ws.length = 6 → (ws.all wordB) = true → Six H (upd H1 p (.lst (ws.map V.str))) p ws := fun ws H1 p e hp hl hw =>
    ⟨e.trans (same_new hp _), e.free hp, upd_same, hl, fun x hx => word_of (List.all_eq_true.mp hw x hx)⟩
  refine seq_then (fun σ' H' => ∃ p ws x3 x4, σ' = [some (.int c), some (.int m), some (.ref p), x3, x4, none] ∧ Six H H' p ws) ?_ ?_
  rotate_left
  · intro C hC
    walk_at "rd"
    exact ⟨by decide, fun p hp => hC _ _ ⟨p, ["a", "b", "c", "d", "e", "f"], none, none, rfl, lit ["a", "b", "c", "d", "e", "f"] H p (Same.refl H) hp rfl (by decide +kernel)⟩⟩
  rintro σ1 H1 ⟨p1, w1, x3, x4, rfl, S1⟩
  refine seq_then (fun σ' H' => ∃ p ws x3 x4, σ' = [some (.int c), some (.int m), some (.ref p), x3, x4, none] ∧ Six H H' p ws) ?_ ?_
  rotate_left
  · intro C hC
    walk_at "rd"
    refine ⟨by decide, ite2 (fun _ => ?_) (fun _ => hC _ _ ⟨p1, w1, x3, x4, rfl, S1⟩)⟩
    unfold tLC
    walk_at "rd"
    refine ⟨by decide, by decide, fun acc hacc => ?_⟩
    refine lcW_range (n := 6) (lo := 0) (fun i ys H2 => H2 = upd H1 acc (.lst ys) ∧ ∃ ws, ys = ws.map V.str ∧ ws.length = i ∧ ∀ x ∈ ws, Word x) ⟨rfl, [], rfl, rfl, by simp⟩ (fun i ys H2 hi ⟨e, ws, e2, e3, _⟩ => ?_) (fun i ys H2 hi ⟨e, ws, e2, e3, e4⟩ C' hC' => ?_) (fun ys H2 ⟨e, ws, e2, e3, e4⟩ => ?_)
    · subst e; subst e2
      refine ⟨upd_same, ?_⟩
      rw [List.length_map, e3]; exact small1000 (by omega)
    · subst e; subst e2
      walk_at "rd"
      refine ⟨wk_head, by decide, by omega, by omega, ?_⟩
      refine hC' _ _ upd_same ⟨by rw [upd_upd], ws ++ [Txt.mul "k" (1 + (0 + (i : Int)))], by rw [List.map_append]; rfl, by rw [List.length_append, e3]; rfl, fun x hx => ?_⟩
      rcases List.mem_append.mp hx with z | z
      · exact e4 x z
      · have z' : x = Txt.mul "k" (1 + (0 + (i : Int))) := by simpa using z
        rw [z']
        exact word_mul (c := 107) (by decide) (by decide) (by omega) (by omega)
    · subst e; subst e2
      exact hC _ _ ⟨acc, ws, x3, x4, rfl, S1.1.trans (same_new hacc _), S1.1.free hacc, upd_same, e3, e4⟩
  rintro σ2 H2 ⟨p2, w2, x3, x4, rfl, S2⟩
  refine seq_then (fun σ' H' => ∃ p ws x3 x4, σ' = [some (.int c), some (.int m), some (.ref p), x3, x4, none] ∧ Six H H' p ws) ?_ ?_
  rotate_left
  · intro C hC
    walk_at "rd"
    refine ⟨by decide, ite2 (fun _ => ?_) (fun _ => hC _ _ ⟨p2, w2, x3, x4, rfl, S2⟩)⟩
    refine ⟨⟨by decide, by decide⟩, by decide, ⟨by decide, by decide⟩, by omega, ?_⟩
    unfold tLC
    walk_at "rd"
    refine ⟨by decide, by decide, fun acc hacc => ?_⟩
    have a0 := Int.emod_nonneg (c / 32) (show 1 + c / 4 % 8 ≠ 0 by omega)
    have a1 := Int.emod_lt_of_pos (c / 32) (show 0 < 1 + c / 4 % 8 by omega)
    generalize ea : c / 32 % (1 + c / 4 % 8) = at' at a0 a1 ⊢
    generalize es : 1 + c / 4 % 8 = size at a1 ⊢
    have hs8 : size ≤ 8 := by omega
    refine lcW_range (n := 6) (lo := 0) (fun i ys H3 => H3 = upd H2 acc (.lst ys) ∧ ∃ ws, ys = ws.map V.str ∧ ws.length = i ∧ ∀ x ∈ ws, Word x) ⟨rfl, [], rfl, rfl, by simp⟩ (fun i ys H3 hi ⟨e, ws, e2, e3, _⟩ => ?_) (fun i ys H3 hi ⟨e, ws, e2, e3, e4⟩ C' hC' => ?_) (fun ys H3 ⟨e, ws, e2, e3, e4⟩ => ?_)
    · subst e; subst e2
      refine ⟨upd_same, ?_⟩
      rw [List.length_map, e3]; exact small1000 (by omega)
    · subst e; subst e2
      walk_at "rd"
      have hcd : ∃ d : Nat, atI ("aghmxz" : Str).cps.toList (0 + (i : Int)) = some d ∧ 97 ≤ d ∧ d ≤ 122 := by
        have : i = 0 ∨ i = 1 ∨ i = 2 ∨ i = 3 ∨ i = 4 ∨ i = 5 := by omega
        rcases this with rfl | rfl | rfl | rfl | rfl | rfl
        · exact ⟨97, rfl, by decide, by decide⟩
        · exact ⟨103, rfl, by decide, by decide⟩
        · exact ⟨104, rfl, by decide, by decide⟩
        · exact ⟨109, rfl, by decide, by decide⟩
        · exact ⟨120, rfl, by decide, by decide⟩
        · exact ⟨122, rfl, by decide, by decide⟩
      obtain ⟨d, hd, d1, d2⟩ := hcd
      have l1 : (Txt.mul "m" at').length ≤ 8 := by rw [show ("m" : Str) = ⟨#[109]⟩ from rfl, mul_len]; omega
      have l2 : (Txt.mul "m" (size - 1 - at')).length ≤ 8 := by rw [show ("m" : Str) = ⟨#[109]⟩ from rfl, mul_len]; omega
      have l3 : (⟨#[d]⟩ : Str).length = 1 := rfl
      have l4 : (Txt.mul "m" at' ++ (⟨#[d]⟩ : Str)).length ≤ 9 := by rw [strLen_append]; omega
      refine ⟨wk_head, by decide, by omega, by omega, by decide, d, hd, ?_, by decide, by omega, by omega, ?_, ?_⟩
      · exact Nat.le_of_lt (small1000 (by omega))
      · exact Nat.le_of_lt (small1000 (by omega))
      refine hC' _ _ upd_same ⟨by rw [upd_upd], ws ++ [Txt.mul "m" at' ++ (⟨#[d]⟩ : Str) ++ Txt.mul "m" (size - 1 - at')], by rw [List.map_append]; rfl, by rw [List.length_append, e3]; rfl, fun x hx => ?_⟩
      rcases List.mem_append.mp hx with z | z
      · exact e4 x z
      · have z' : x = Txt.mul "m" at' ++ (⟨#[d]⟩ : Str) ++ Txt.mul "m" (size - 1 - at') := by simpa using z
        rw [z']
        exact word_mid (c := 109) (by decide) (by decide) d1 d2 (by omega) (by omega) (by omega)
    · subst e; subst e2
      exact hC _ _ ⟨acc, ws, _, _, rfl, S2.1.trans (same_new hacc _), S2.1.free hacc, upd_same, e3, e4⟩
  rintro σ3 H3 ⟨p3, w3, x3, x4, rfl, S3⟩
  refine seq_then (fun σ' H' => ∃ p ws x3 x4, σ' = [some (.int c), some (.int m), some (.ref p), x3, x4, none] ∧ Six H H' p ws) ?_ ?_
  rotate_left
  · intro C hC
    walk_at "rd"
    refine ⟨by decide, ite2 (fun _ => ?_) (fun _ => hC _ _ ⟨p3, w3, x3, x4, rfl, S3⟩)⟩
    exact ⟨by decide, fun p hp => hC _ _ ⟨p, ["low", "one", "both", "then", "letter", "lows"], _, _, rfl, lit ["low", "one", "both", "then", "letter", "lows"] H3 p S3.1 hp rfl (by decide +kernel)⟩⟩
  rintro σ4 H4 ⟨p4, w4, x3, x4, rfl, S4⟩
  walk_at "rd"
  have b0 := Int.emod_nonneg (c / 256) (show (6 : Int) ≠ 0 by decide)
  have b1 := Int.emod_lt_of_pos (c / 256) (show (0 : Int) < 6 by decide)
  generalize c / 256 % 6 = st at b0 b1 ⊢
  obtain ⟨e4, f4, h4, l4, o4⟩ := S4
  refine ⟨⟨by decide, by decide⟩, by decide, w4.map V.str, .inl (.inl h4), fun q1 hq1 => ⟨w4.map V.str, ?_, fun q2 hq2 => ?_⟩⟩
  · exact sqL_ne (.inl (.inl h4)) (ne_of_none h4 hq1)
  have n21 : q2 ≠ q1 := fun z => by subst z; rw [upd_same] at hq2; cases hq2
  refine ⟨cutV (w4.map V.str) (some st) none, ?_, cutV (w4.map V.str) none (some st), upd_same, ?_, fun q3 hq3 => ⟨_, .inl (.inl upd_same), fun q4 hq4 => ?_⟩⟩
  · rw [upd_ne (Ne.symm n21), upd_same]
  · have z1 := cutV_length (w4.map V.str) (some st) none
    have z2 := cutV_length (w4.map V.str) none (some st)
    rw [List.length_map] at z1 z2
    exact Nat.le_of_lt (small1000 (by omega))
  rw [cut_map, cut_map, ← List.map_append] at hq4 ⊢
  rw [cut_map]
  have e3' : Same H4 (upd (upd (upd H4 q1 (.lst (cutV (w4.map V.str) (some st) none))) q2 (.lst (cutV (w4.map V.str) none (some st)))) q3 (.lst (cutV (w4.map V.str) (some st) none ++ cutV (w4.map V.str) none (some st)))) := ((same_new hq1 _).trans (same_new hq2 _)).trans (same_new hq3 _)
  rw [cut_map, cut_map, ← List.map_append] at e3'
  have eA := e4.trans e3'
  have hst : st = ((st.toNat : Nat) : Int) := by omega
  have hm : m = ((m.toNat : Nat) : Int) := by omega
  refine q _ _ _ (eA.trans (same_new hq4 _)) (eA.free hq4) upd_same ⟨?_, ?_, fun x hx => ?_⟩
  · rw [hst, hm]
    simp only [List.length_take, List.length_drop, List.length_append, HT.sIx_nat, HT.sIx_none, l4]
    omega
  · rw [hst, hm]
    simp only [List.length_take, List.length_drop, List.length_append, HT.sIx_nat, HT.sIx_none, l4]
    omega
  · have hx1 := List.mem_of_mem_drop (List.mem_of_mem_take hx)
    rcases List.mem_append.mp hx1 with z | z
    · exact o4 x (List.mem_of_mem_drop (List.mem_of_mem_take z))
    · exact o4 x (List.mem_of_mem_drop (List.mem_of_mem_take z))
end
set_option Elab.async false
set_option linter.all false
set_option maxRecDepth 100000
set_option maxHeartbeats 4000000
local macro_rules | `(tactic| walk_at "rd") => `(tactic| walk_at "rdx_1")
local macro_rules | `(tactic| walk_at "ri") => `(tactic| walk_at "rdx_2")
abbrev s__law_leaf : Stmt := top 15
theorem sc__law_leaf : FnScope ["_law_cell_here", "_law_words_here"] ["_law_cell_here", "_law_words_here"] (defScope s__law_leaf) := ⟨rfl, rfl, rfl, by decide +kernel, rfl, by decide +kernel, by decide +kernel⟩
abbrev s__law_statement : Stmt := top 16
theorem sc__law_statement : FnScope ["_law_cell_here", "_law_size", "_law_words_here", "_law_rest", "_law_few", "_law_one", "_law_other"] ["_law_cell_here", "_law_size", "_law_words_here"] (defScope s__law_statement) := ⟨rfl, rfl, rfl, by decide +kernel, rfl, by decide +kernel, by decide +kernel⟩
section
variable {P : Program} {w : World} {K : PySem.W.Frag} {mg : Str → Option Value} {base : Heap}
theorem ok__law_leaf {k : Nat} {f__law_leaf : Addr} {fd__law_leaf : FuncData} (F__law_leaf : Fun K "_law_leaf" "_law_leaf" s__law_leaf f__law_leaf fd__law_leaf) (m_len : mg "len" = none) : FnOk P w K mg base CX0 (k + 1) f__law_leaf fd__law_leaf ["_law_cell_here", "_law_words_here"] (sp_leaf K) := by
  refine F__law_leaf.ok sc__law_leaf (fun vs H Q E h => ?_) (fun cdv A outer s H vs Q E hr h => ?_)
  · obtain ⟨a, ns, k, rfl, _⟩ := h
    rfl
  obtain ⟨c, wa, ws, rfl, hS, hw, q⟩ := h
  refine ⟨_, (pss_cons (ps_if (pt_cmpR (op_eq) (pe_op op_mod (pv 0) pe_int) pe_int (nomark _))
    (pss_one (ps_ret (pe_tup (pa_cons pe_str pa_nil))))
    pss_nil)
  (pss_one (ps_ret (pe_tup (pa_cons pe_str (pa_cons (pe_ix ix_list (pv 1) (pe_op op_mod (pe_op op_fdiv (pv 0) pe_int) (pe_callB call_len_seq (by exact rfl) m_len Ken.boot_len (pa_cons (pv 1) pa_nil))) (fun _ _ => rfl)) pa_nil)))))), ?_⟩
  walk_at "rd"
  refine ⟨by decide, ite2 (fun _ => ?_) (fun _ => ?_)⟩
  · exact ⟨by decide, fun p hp => q _ _ _ (same_new hp _) (made_low ws hp)⟩
  · have hl : ((ws.map V.str).length : Int) = ws.length := by rw [List.length_map]
    have h2 := hw.1
    refine ⟨⟨by decide, by decide⟩, _, .inl hS, by rw [hl]; omega, _, hS, ?_⟩
    rw [hl]
    obtain ⟨v, hv, e⟩ := at_list (xs := ws.map V.str) (i := c / 6 % (ws.length : Int)) (Int.emod_nonneg _ (by omega)) (by rw [hl]; exact Int.emod_lt_of_pos _ (by omega))
    obtain ⟨x, hx, rfl⟩ := List.mem_map.mp hv
    exact ⟨_, e, by decide, fun p hp => q _ _ _ (same_new hp _) (made_ltr hx hp)⟩
theorem ok__law_statement {k n : Nat} {f__law_statement : Addr} {fd__law_statement : FuncData} (F__law_statement : Fun K "_law_statement" "_law_statement" s__law_statement f__law_statement fd__law_statement) (G__law_statement : FnOk P w K mg base CX0 k f__law_statement fd__law_statement ["_law_cell_here", "_law_size", "_law_words_here"] (sp_stm K n)) (m__law_statement : mg "_law_statement" = some (.ref f__law_statement)) (k__law_statement : PySem.W.keepIn K (.ref f__law_statement) = true) (b__law_statement : Binds K fd__law_statement ["_law_cell_here", "_law_size", "_law_words_here"] []) {f__law_mix : Addr} {fd__law_mix : FuncData} (G__law_mix : FnOk P w K mg base CX0 k f__law_mix fd__law_mix ["_law_cell_here", "_law_k"] (sp_mix)) (m__law_mix : mg "_law_mix" = some (.ref f__law_mix)) (k__law_mix : PySem.W.keepIn K (.ref f__law_mix) = true) (b__law_mix : Binds K fd__law_mix ["_law_cell_here", "_law_k"] []) {f__law_leaf : Addr} {fd__law_leaf : FuncData} (G__law_leaf : FnOk P w K mg base CX0 k f__law_leaf fd__law_leaf ["_law_cell_here", "_law_words_here"] (sp_leaf K)) (m__law_leaf : mg "_law_leaf" = some (.ref f__law_leaf)) (k__law_leaf : PySem.W.keepIn K (.ref f__law_leaf) = true) (b__law_leaf : Binds K fd__law_leaf ["_law_cell_here", "_law_words_here"] []) : FnOk P w K mg base CX0 (k + 1) f__law_statement fd__law_statement ["_law_cell_here", "_law_size", "_law_words_here"] (sp_stm K (n + 1)) := by
  refine F__law_statement.ok sc__law_statement (fun vs H Q E h => ?_) (fun cdv A outer s H vs Q E hr h => ?_)
  · obtain ⟨c, size, wa, ws, rfl, _⟩ := h
    rfl
  obtain ⟨c, size, wa, ws, rfl, hc0, h0, h1, hn, hS, hw, q⟩ := h
  refine ⟨_, (pss_cons (ps_if (pt_cmpR (op_lt) (pv 1) pe_int (nomark _))
    (pss_one (ps_ret (pe_call G__law_leaf hr (by exact rfl) m__law_leaf k__law_leaf b__law_leaf .nil pass0 (pa_cons (pe_op op_fdiv (pv 0) pe_int) (pa_cons (pv 2) pa_nil)))))
    pss_nil)
  (pss_cons (ps_if ((pw_and (pt_cmpR (op_lt) (pv 1) pe_int (nomark _)) (pw_and1 (pt_cmpR (op_eq) (pe_op op_mod (pe_op op_fdiv (pv 0) pe_int) pe_int) pe_int (nomark _))))).pt
    (pss_one (ps_ret (pe_tup (pa_cons pe_str (pa_cons (pe_call G__law_statement hr (by exact rfl) m__law_statement k__law_statement b__law_statement .nil pass0 (pa_cons (pe_call G__law_mix hr (by exact rfl) m__law_mix k__law_mix b__law_mix .nil pass0 (pa_cons (pv 0) (pa_cons pe_int pa_nil))) (pa_cons (pe_op op_sub (pv 1) pe_int) (pa_cons (pv 2) pa_nil)))) (pa_cons (pe_tup (pa_cons pe_str pa_nil)) pa_nil))))))
    pss_nil)
  (pss_cons (ps_set (i := 3) sc__law_statement.nd rfl (Or.inl rfl) (pe_op op_sub (pv 1) pe_int))
  (pss_cons (ps_set (i := 4) sc__law_statement.nd rfl (Or.inl rfl) (pe_op op_add pe_int (pe_op op_mod (pe_call G__law_mix hr (by exact rfl) m__law_mix k__law_mix b__law_mix .nil pass0 (pa_cons (pv 0) (pa_cons pe_int pa_nil))) (pe_op op_sub (pv 3) pe_int))))
  (pss_cons (ps_if (pt_cmpR (op_ge) (pv 1) pe_int (nomark _))
    (pss_one (ps_set (i := 4) sc__law_statement.nd rfl (Or.inl rfl) (pe_op op_add (pe_op op_fdiv (pv 3) pe_int) (pe_op op_mod (pe_call G__law_mix hr (by exact rfl) m__law_mix k__law_mix b__law_mix .nil pass0 (pa_cons (pv 0) (pa_cons pe_int pa_nil))) (pe_op op_fdiv (pv 3) pe_int)))))
    pss_nil)
  (pss_cons (ps_set (i := 5) sc__law_statement.nd rfl (Or.inl rfl) (pe_call G__law_statement hr (by exact rfl) m__law_statement k__law_statement b__law_statement .nil pass0 (pa_cons (pe_call G__law_mix hr (by exact rfl) m__law_mix k__law_mix b__law_mix .nil pass0 (pa_cons (pv 0) (pa_cons pe_int pa_nil))) (pa_cons (pv 4) (pa_cons (pv 2) pa_nil)))))
  (pss_cons (ps_set (i := 6) sc__law_statement.nd rfl (Or.inl rfl) (pe_call G__law_statement hr (by exact rfl) m__law_statement k__law_statement b__law_statement .nil pass0 (pa_cons (pe_call G__law_mix hr (by exact rfl) m__law_mix k__law_mix b__law_mix .nil pass0 (pa_cons (pv 0) (pa_cons pe_int pa_nil))) (pa_cons (pe_op op_sub (pv 3) (pv 4)) (pa_cons (pv 2) pa_nil)))))
  (pss_one (ps_ret (pe_tup (pa_cons (pe_ix ix_list (pe_lst (pa_cons pe_str (pa_cons pe_str (pa_cons pe_str (pa_cons pe_str pa_nil))))) (pe_op op_mod (pv 0) pe_int) (fun _ _ => rfl)) (pa_cons (pv 5) (pa_cons (pv 6) pa_nil))))))))))))), ?_⟩
  walk_at "rd"
  have h2 := hw.1
  have tail : ∀ (few : Int), 1 ≤ few → few ≤ size - 2 → rk few < rk size → rk (size - 1 - few) < rk size →
      sp_mix [V.int c, V.int 3] H (fun x H1 => sp_stm K n [x, V.int few, V.ref wa] H1 (fun x H1 => sp_mix [V.int c, V.int 4] H1 (fun x_1 H1 => sp_stm K n [x_1, V.int (size - 1 - few), V.ref wa] H1 (fun x_2 H1 =>
        4 ≤ sizeLine ∧ ∀ (p : Addr), H1 p = none → (0 : Int) < 4 ∧ ∃ x_3, SqL K (upd H1 p (.lst [V.str "both", V.str "one", V.str "then", V.str "then"])) p x_3 ∧ ∃ x_4, atI x_3 (c % 4) = some x_4 ∧ 3 ≤ sizeLine ∧
          ∀ (p_1 : Addr), upd H1 p (.lst [V.str "both", V.str "one", V.str "then", V.str "then"]) p_1 = none → Q (V.ref p_1) (upd (upd H1 p (.lst [V.str "both", V.str "one", V.str "then", V.str "then"])) p_1 (.tup [x_4, x, x_2]))) E0) E0) E0) E0 := by
    intro few f1 f2 r1 r2
    refine ⟨_, _, rfl, by decide, by decide, ?_⟩
    refine ⟨_, _, _, ws, rfl, mix_nn _ _, by omega, by omega, by omega, hS, hw, fun x H1 a e1 m1 => ?_⟩
    refine ⟨_, _, rfl, by decide, by decide, ?_⟩
    refine ⟨_, _, _, ws, rfl, mix_nn _ _, by omega, by omega, by omega, e1.seq hS, hw, fun y H2 b e2 m2 => ?_⟩
    refine ⟨by decide, fun p hp => ⟨by decide, _, .inl (.inl upd_same), _, at_kd4 (Int.emod_nonneg _ (by decide)) (Int.emod_lt_of_pos _ (by decide)), by decide, fun p1 hp1 => ?_⟩⟩
    have k3 : KeepT K H2 (upd H2 p (.lst [V.str "both", V.str "one", V.str "then", V.str "then"])) := keepT_new hp
    have m1' := m1.mono (e2.keepT.trans k3) (Nat.le_refl _) (Nat.le_refl _)
    have m2' := m2.mono k3 (Nat.le_refl _) (Nat.le_refl _)
    refine q _ _ _ (((e1.trans e2).trans (same_new hp _)).trans (same_new hp1 _)) ((made_nd m1' m2' hp1).mono (KeepT.refl _) (by omega) (by omega))
  refine ite2 (fun c3 => ?_) (fun c3 => ?_)
  · exact ⟨⟨by decide, by decide⟩, _, _, ws, rfl, hS, hw, fun r H' t e m => q r H' t e (m.mono (KeepT.refl _) (by omega) (by omega))⟩
  have d4 : CDiv c 4 := ⟨by decide, by decide⟩
  have b4 : CDiv (size - 1) 4 := ⟨by decide, by decide⟩
  have b2 : CDiv (size - 1) 2 := ⟨by decide, by decide⟩
  have small : size < 40 → ∀ m : Int, rk (1 + m % (size - 1 - 1)) < rk size ∧ rk (size - 1 - (1 + m % (size - 1 - 1))) < rk size ∧ 1 ≤ 1 + m % (size - 1 - 1) ∧ 1 + m % (size - 1 - 1) ≤ size - 2 := fun c40 m => by
    have b0 := Int.emod_nonneg m (show size - 1 - 1 ≠ 0 by omega)
    have b1 := Int.emod_lt_of_pos m (show 0 < size - 1 - 1 by omega)
    exact ⟨rk_less (by omega) c40 (by omega), rk_less (by omega) c40 (by omega), by omega, by omega⟩
  refine ite2 (fun c40 => ?_) (fun c40 => ?_)
  · refine ⟨d4, by decide, ite2 (fun c0 => ?_) (fun c0 => ?_)⟩
    · refine ⟨_, _, rfl, by decide, by decide, ?_⟩
      have r0 := rk_two (by omega) c40
      refine ⟨_, _, _, ws, rfl, mix_nn _ _, by omega, by omega, by omega, hS, hw, fun x H1 a e1 m1 => ?_⟩
      refine ⟨by decide, fun p hp => ⟨by decide, fun p1 hp1 => ?_⟩⟩
      have m1' := m1.mono (keepT_new (o := .tup [V.str "low"]) hp) (Nat.le_refl _) (Nat.le_refl _)
      refine q _ _ _ ((e1.trans (same_new hp _)).trans (same_new hp1 _)) ((made_nd (k := .thn) m1' (made_low ws hp) hp1).mono (KeepT.refl _) (by omega) (by omega))
    · refine ⟨_, _, rfl, by decide, by decide, _, rfl, by omega, ite2 (fun c41 => by omega) (fun c41 => ?_)⟩
      obtain ⟨r1, r2, f1, f2⟩ := small c40 (mix c 2)
      exact tail _ f1 f2 r1 r2
  · refine ⟨_, _, rfl, by decide, by decide, _, rfl, by omega, ite2 (fun c41 => ?_) (fun c41 => by omega)⟩
    refine ⟨b4, _, _, rfl, by decide, by decide, b2, _, rfl, by omega, ?_⟩
    have g0 := Int.emod_nonneg (mix c 2) (show (size - 1) / 2 ≠ 0 by omega)
    have g1 := Int.emod_lt_of_pos (mix c 2) (show 0 < (size - 1) / 2 by omega)
    exact tail _ (by omega) (by omega) (rk_big (by omega) h1 (by omega)) (rk_big (by omega) h1 (by omega))
theorem stm_zero {f : Addr} {fd : FuncData} {ps : List Str} {k : Nat} : FnOk P w K mg base CX0 k f fd ps (sp_stm K 0) := by
  have no : ∀ vs H Q E, ¬ sp_stm K 0 vs H Q E := fun vs H Q E h => by
    obtain ⟨c, size, wa, ws, _, _, _, _, hn, _⟩ := h
    exact absurd hn (Nat.not_lt_zero _)
  exact ⟨fun vs H Q E h => absurd h (no vs H Q E), fun A outer s H args us vs Q E _ _ _ _ h => absurd h (no vs H Q E)⟩
theorem all__law_statement {f__law_statement : Addr} {fd__law_statement : FuncData} (F__law_statement : Fun K "_law_statement" "_law_statement" s__law_statement f__law_statement fd__law_statement) (m__law_statement : mg "_law_statement" = some (.ref f__law_statement)) (b__law_statement : Binds K fd__law_statement ["_law_cell_here", "_law_size", "_law_words_here"] [])
    {f__law_mix : Addr} {fd__law_mix : FuncData} (G__law_mix : ∀ k, FnOk P w K mg base CX0 (k + 1) f__law_mix fd__law_mix ["_law_cell_here", "_law_k"] sp_mix) (m__law_mix : mg "_law_mix" = some (.ref f__law_mix)) (k__law_mix : PySem.W.keepIn K (.ref f__law_mix) = true) (b__law_mix : Binds K fd__law_mix ["_law_cell_here", "_law_k"] [])
    {f__law_leaf : Addr} {fd__law_leaf : FuncData} (G__law_leaf : ∀ k, FnOk P w K mg base CX0 (k + 1) f__law_leaf fd__law_leaf ["_law_cell_here", "_law_words_here"] (sp_leaf K)) (m__law_leaf : mg "_law_leaf" = some (.ref f__law_leaf)) (k__law_leaf : PySem.W.keepIn K (.ref f__law_leaf) = true) (b__law_leaf : Binds K fd__law_leaf ["_law_cell_here", "_law_words_here"] []) :
    ∀ n : Nat, FnOk P w K mg base CX0 (n + 1) f__law_statement fd__law_statement ["_law_cell_here", "_law_size", "_law_words_here"] (sp_stm K n)
  | 0 => stm_zero
  | n + 1 => ok__law_statement F__law_statement (all__law_statement F__law_statement m__law_statement b__law_statement G__law_mix m__law_mix k__law_mix b__law_mix G__law_leaf m__law_leaf k__law_leaf b__law_leaf n) m__law_statement F__law_statement.kp b__law_statement (G__law_mix n) m__law_mix k__law_mix b__law_mix (G__law_leaf n) m__law_leaf k__law_leaf b__law_leaf
end
set_option Elab.async false
set_option linter.all false
set_option maxRecDepth 100000
set_option maxHeartbeats 4000000
local macro_rules | `(tactic| walk_at "rd") => `(tactic| walk_at "rdx_1")
local macro_rules | `(tactic| walk_at "ri") => `(tactic| walk_at "rdx_2")
abbrev s__law_some : Stmt := top 18
theorem sc__law_some : FnScope ["_law_cell_here", "_law_old", "_law_words_here", "_law_found", "_law_k", "_law_word"] ["_law_cell_here", "_law_old", "_law_words_here"] (defScope s__law_some) := ⟨rfl, rfl, rfl, by decide +kernel, rfl, by decide +kernel, by decide +kernel⟩
abbrev s__law_copy : Stmt := top 19
theorem sc__law_copy : FnScope ["_law_worlds_here"] ["_law_worlds_here"] (defScope s__law_copy) := ⟨rfl, rfl, rfl, by decide +kernel, rfl, by decide +kernel, by decide +kernel⟩
section
variable {P : Program} {w : World} {K : PySem.W.Frag} {mg : Str → Option Value} {base : Heap}
theorem ok__law_some {k : Nat} {f__law_some : Addr} {fd__law_some : FuncData} (F__law_some : Fun K "_law_some" "_law_some" s__law_some f__law_some fd__law_some) {f__law_mix : Addr} {fd__law_mix : FuncData} (G__law_mix : FnOk P w K mg base CX0 k f__law_mix fd__law_mix ["_law_cell_here", "_law_k"] (sp_mix)) (m__law_mix : mg "_law_mix" = some (.ref f__law_mix)) (k__law_mix : PySem.W.keepIn K (.ref f__law_mix) = true) (b__law_mix : Binds K fd__law_mix ["_law_cell_here", "_law_k"] []) (m_list : mg "list" = none) (m_enumerate : mg "enumerate" = none) (m_sorted : mg "sorted" = none) : FnOk P w K mg base CX0 (k + 1) f__law_some fd__law_some ["_law_cell_here", "_law_old", "_law_words_here"] (sp_someP K) := by
  refine F__law_some.ok sc__law_some (fun vs H Q E h => ?_) (fun cdv A outer s H vs Q E hr h => ?_)
  · obtain ⟨c, a, wa, os, ws, rfl, _⟩ := h
    rfl
  obtain ⟨c, a, wa, os, ws, rfl, hS, hw, hWs, hnd, hsub, q⟩ := h
  refine ⟨_, (pss_cons (ps_set (i := 3) sc__law_some.nd rfl (Or.inl rfl) (pe_callTy call_list_of (by exact rfl) m_list Ken.boot_list (pa_cons (pv 1) pa_nil)))
  (pss_cons (ps_for PassesOwn.never rfl (pi_enum rfl m_enumerate (pa_cons (pv 2) pa_nil)) (pg_tup rfl (pgs_cons (pg_name (i := 4) sc__law_some.nd rfl (Or.inl rfl)) (pgs_cons (pg_name (i := 5) sc__law_some.nd rfl (Or.inl rfl)) pgs_nil)))
    (pss_one (ps_if ((pw_and (pt_cmpR (op_notIn_seq) (pv 5) (pv 3) (by with_unfolding_all rfl)) (pw_and1 (pt_cmpR (op_eq) (pe_op op_mod (pe_call G__law_mix hr (by exact rfl) m__law_mix k__law_mix b__law_mix .nil pass0 (pa_cons (pv 0) (pa_cons (pe_op op_add pe_int (pv 4)) pa_nil))) pe_int) pe_int (nomark _))))).pt
    (pss_one (ps_expr (pe_bm PySem.F.plainAttrs_list PySem.F.slot_list_append PySem.F.type_list_append mt_append (pv 3) (pa_cons (pv 5) pa_nil))))
    pss_nil)))
  (pss_one (ps_ret (pe_callB call_sorted_strs (by exact rfl) m_sorted Ken.boot_sorted (pa_cons (pv 3) pa_nil)))))), ?_⟩
  refine seq_then (fun σ' H' => ∃ l, σ' = [some (.int c), some (.ref a), some (.ref wa), some (.ref l), none, none] ∧ Same H H' ∧ H l = none ∧ H' l = some (.lst (os.map V.str))) ?_ ?_
  rotate_left
  · intro C hC
    walk_at "rd"
    exact ⟨_, .inl hS, fun l hl => hC _ _ ⟨l, rfl, same_new hl _, hl, upd_same⟩⟩
  rintro σ1 H1 ⟨l, rfl, e1, f1, h1⟩
  refine seq_then (fun σ' H' => ∃ (x4 x5 : Option V) (out : List Str), σ' = [some (.int c), some (.ref a), some (.ref wa), some (.ref l), x4, x5] ∧ Same H H' ∧ H' l = some (.lst (out.map V.str)) ∧ out.Nodup ∧ (∀ y ∈ out, y ∈ ws) ∧ ∀ y ∈ os, y ∈ out) ?_ ?_
  rotate_left
  · intro C hC
    walk_at "ri"
    refine ⟨⟨_, e1.seq hw⟩, ?_⟩
    refine for_enum (D := { nx := C, rt := Q }) (xs := ws.map V.str) (fun i σ' H' => ∃ (x4 x5 : Option V) (out : List Str), σ' = [some (.int c), some (.ref a), some (.ref wa), some (.ref l), x4, x5] ∧ Same H H' ∧ H' l = some (.lst (out.map V.str)) ∧ out.Nodup ∧ (∀ y ∈ out, y ∈ ws) ∧ ∀ y ∈ os, y ∈ out) ⟨none, none, os, rfl, e1, h1, hnd, hsub, fun y hy => hy⟩ (fun i σ' H' hi hp => ?_) (fun i x σ' H' T hx hT hp => ?_) (fun σ' H' hp => hC _ _ hp)
    · obtain ⟨x4, x5, out, rfl, e, _⟩ := hp
      exact e.seq hw
    obtain ⟨x4, x5, out, rfl, e, h, hn, hs, ho⟩ := hp
    rw [List.getElem?_map] at hx
    cases hz : ws[i]? with
    | none => rw [hz] at hx; cases hx
    | some z =>
    rw [hz] at hx
    cases hx
    have hzm : z ∈ ws := List.mem_of_getElem? hz
    have hi6 : i < ws.length := (List.getElem?_eq_some_iff.mp hz).1
    have w6 := hWs.2.1
    have ol := len_le_of_sub hn hs
    walk_at "rd"
    have eT : Same H (upd H' T (.tup [.int i, .str z])) := e.trans (same_new hT _)
    have hT' := (same_new hT (.tup [.int i, .str z])) _ _ h
    refine ⟨_, .inl (.inl upd_same), rfl, _, _, rfl, _, _, rfl, rfl, ?_⟩
    refine ⟨_, .inl (SqL.of hT'), rfl, strs_flat _, ?_⟩
    rw [if_pos trivial, in_strs]
    by_cases hin : z ∈ out
    · rw [decide_eq_true hin, if_neg (by decide), if_neg Bool.false_ne_true]
      exact ⟨eT, out, hT', hn, hs, ho⟩
    · rw [decide_eq_false hin, if_pos (by decide)]
      refine ⟨_, rfl, c, _, rfl, by omega, by omega, _, rfl, by decide, ite2 (fun _ => ?_) (fun _ => ⟨eT, out, hT', hn, hs, ho⟩)⟩
      refine ⟨.inl ⟨rfl, _, SqL.of hT'⟩, _, hT', small1M (by rw [List.length_map]; omega), eT.write f1, out ++ [z], by rw [upd_same, List.map_append]; rfl, nd_snoc hn hin, fun y hy => ?_, fun y hy => List.mem_append_left _ (ho y hy)⟩
      rcases List.mem_append.mp hy with hy | hy
      · exact hs y hy
      · have : y = z := by simpa using hy
        rw [this]; exact hzm
  rintro σ2 H2 ⟨x4, x5, out, rfl, e2, h2, hn2, hs2, ho2⟩
  walk_at "rd"
  have := len_le_of_sub hn2 hs2
  have := hWs.2.1
  refine ⟨out, SqL.of h2, by omega, fun r out' hr' hp hs => ?_⟩
  exact q r _ out' (e2.trans (same_new hr' _)) (e2.free hr') upd_same (hp.nodup_iff.mpr hn2) (fun y hy => hs2 y (hp.mem_iff.mp hy)) fun y hy => hp.mem_iff.mpr (ho2 y hy)
theorem ok__law_copy {k : Nat} {f__law_copy : Addr} {fd__law_copy : FuncData} (F__law_copy : Fun K "_law_copy" "_law_copy" s__law_copy f__law_copy fd__law_copy) (m_list : mg "list" = none) : FnOk P w K mg base CX0 (k + 1) f__law_copy fd__law_copy ["_law_worlds_here"] (sp_copyW K) := by
  refine F__law_copy.ok sc__law_copy (fun vs H Q E h => ?_) (fun cdv A outer s H vs Q E hr h => ?_)
  · obtain ⟨a, xs, ws, rfl, _⟩ := h
    rfl
  obtain ⟨a, xs, ws, rfl, ha, hW, hl, q⟩ := h
  have lx : xs.length = ws.length := Paired.length hW
  refine ⟨_, (pss_one (ps_ret (pe_lc (blk0 (N' := ["_law_before", "_law_words_here"]) (by decide +kernel) (by decide +kernel) rfl (by decide +kernel)) rfl (pi_list (pv 0)) (fun _ _ _ _ => (pg_tupK (K := K) (n := 2) rfl rfl (pgs_cons (pg_name (i := 0) (show (["_law_before", "_law_words_here"] : List Str).Nodup from by decide +kernel) rfl (Or.inl rfl)) (pgs_cons (pg_name (i := 1) (show (["_law_before", "_law_words_here"] : List Str).Nodup from by decide +kernel) rfl (Or.inl rfl)) pgs_nil)) rfl rfl)) (fun _ _ _ _ => (pe_tup (pa_cons (pv 0) (pa_cons (pe_callTy (call_list_ofK (K := K) rfl) (by exact rfl) m_list Ken.boot_list (pa_cons (pv 1) pa_nil)) pa_nil))))))), ?_⟩
  unfold tRet tLC
  walk_at "rd"
  refine ⟨⟨_, SqL.of ha⟩, fun acc hacc => ?_⟩
  refine lcW_list (xs := xs) (fun i ys H' => Same H H' ∧ H' acc = some (.lst ys) ∧ Paired (AtWn K H' acc) ys (ws.take i)) ⟨same_new hacc _, upd_same, .nil⟩ (fun i ys H' hi ⟨e, h, hy⟩ => ⟨h, ?_, SqL.of (e _ _ ha)⟩) (fun i x ys H' hx ⟨e, h, hy⟩ C' hC' => ?_) (fun ys H' ⟨e, h, hy⟩ => ?_)
  · have := Paired.length hy
    rw [List.length_take] at this
    exact small1M (by omega)
  · obtain ⟨y, hy', p, qq, rfl, hs, hq⟩ := paired_get hW hx
    walk_at "rd"
    refine ⟨_, e.sqt hs, rfl, _, _, rfl, _, _, rfl, rfl, Wk.trans (wk_set (i := 0) rfl) (wk_set (i := 1) rfl), qq, rfl, _, .inl (SqL.of (e _ _ hq)), fun l hl => ⟨by decide, fun p1 hp1 => ?_⟩⟩
    have S5 : Same H' (upd (upd H' l (.lst (y.2.map V.str))) p1 (.tup [bV y.1, .ref l])) := (same_new hl _).trans (same_new hp1 _)
    have hl5 : upd (upd H' l (.lst (y.2.map V.str))) p1 (.tup [bV y.1, .ref l]) l = some (.lst (y.2.map V.str)) := (same_new hp1 _) _ _ upd_same
    have hp5 : SqT K (upd (upd H' l (.lst (y.2.map V.str))) p1 (.tup [bV y.1, .ref l])) p1 [bV y.1, .ref l] := .inl (.inl upd_same)
    generalize upd (upd H' l (.lst (y.2.map V.str))) p1 (.tup [bV y.1, .ref l]) = H5 at S5 hl5 hp5 ⊢
    have h5 := S5 _ _ h
    refine hC' _ _ h5 ⟨(e.trans S5).write hacc, upd_same, ?_⟩
    rw [List.take_succ, hy']
    refine Paired.snoc (Paired.mapP hy fun _ _ z => (z.keep S5).write h5) ⟨p1, l, Ne.symm (ne_of_none h hl), rfl, keepT_lst h5 _ _ hp5, ?_⟩
    rw [upd_ne (Ne.symm (ne_of_none h hl))]
    exact hl5
  · rw [lx, List.take_length] at hy
    exact q _ _ ys e hacc h (Paired.mapP hy fun _ _ z => z.at)
end
set_option Elab.async false
set_option linter.all false
set_option maxRecDepth 100000
set_option maxHeartbeats 4000000
local macro_rules | `(tactic| walk_at "rd") => `(tactic| walk_at "rdx_1")
local macro_rules | `(tactic| walk_at "ri") => `(tactic| walk_at "rdx_2")
abbrev s__law_worlds : Stmt := top 17
theorem sc__law_worlds : FnScope ["_law_script", "_law_start", "_law_most", "_law_words_here", "_law_made", "_law_k", "_law_cell_here", "_law_before"] ["_law_script", "_law_start", "_law_most", "_law_words_here"] (defScope s__law_worlds) := ⟨rfl, rfl, rfl, by decide +kernel, rfl, by decide +kernel, by decide +kernel⟩
section
variable {P : Program} {w : World} {K : PySem.W.Frag} {mg : Str → Option Value} {base : Heap}
theorem ok__law_worlds {k : Nat} {f__law_worlds : Addr} {fd__law_worlds : FuncData} (F__law_worlds : Fun K "_law_worlds" "_law_worlds" s__law_worlds f__law_worlds fd__law_worlds) {f__law_mix : Addr} {fd__law_mix : FuncData} (G__law_mix : FnOk P w K mg base CX0 k f__law_mix fd__law_mix ["_law_cell_here", "_law_k"] (sp_mix)) (m__law_mix : mg "_law_mix" = some (.ref f__law_mix)) (k__law_mix : PySem.W.keepIn K (.ref f__law_mix) = true) (b__law_mix : Binds K fd__law_mix ["_law_cell_here", "_law_k"] []) {f__law_some : Addr} {fd__law_some : FuncData} (G__law_some : FnOk P w K mg base CX0 k f__law_some fd__law_some ["_law_cell_here", "_law_old", "_law_words_here"] (sp_someP K)) (m__law_some : mg "_law_some" = some (.ref f__law_some)) (k__law_some : PySem.W.keepIn K (.ref f__law_some) = true) (b__law_some : Binds K fd__law_some ["_law_cell_here", "_law_old", "_law_words_here"] []) {f__law_cell : Addr} {fd__law_cell : FuncData} (G__law_cell : FnOk P w K mg base CX0 k f__law_cell fd__law_cell ["_law_script", "_law_k"] (sp_cell K)) (m__law_cell : mg "_law_cell" = some (.ref f__law_cell)) (k__law_cell : PySem.W.keepIn K (.ref f__law_cell) = true) (b__law_cell : Binds K fd__law_cell ["_law_script", "_law_k"] []) (m_range : mg "range" = none) (m_max : mg "max" = none) (m_len : mg "len" = none) : FnOk P w K mg base CX0 (k + 1) f__law_worlds fd__law_worlds ["_law_script", "_law_start", "_law_most", "_law_words_here"] (sp_worldsP K) := by
  refine F__law_worlds.ok sc__law_worlds (fun vs H Q E h => ?_) (fun cdv A outer s H vs Q E hr h => ?_)
  · obtain ⟨a, ns, st, mo, wa, us, rfl, _⟩ := h
    rfl
  obtain ⟨a, ns, start, most, wa, us, rfl, hS, hl, s0, s1, m0, m1, hw, hWs, q⟩ := h
  refine ⟨_, (pss_cons (ps_set (i := 4) sc__law_worlds.nd rfl (Or.inl rfl) (pe_lst (pa_cons (pe_tup (pa_cons pe_non (pa_cons (pe_call G__law_some hr (by exact rfl) m__law_some k__law_some b__law_some .nil pass0 (pa_cons (pe_call G__law_cell hr (by exact rfl) m__law_cell k__law_cell b__law_cell .nil pass0 (pa_cons (pv 0) (pa_cons (pv 1) pa_nil))) (pa_cons (pe_lst pa_nil) (pa_cons (pv 3) pa_nil)))) pa_nil))) pa_nil)))
  (pss_cons (ps_for PassesOwn.never rfl (pi_range2 rfl m_range (pa_cons pe_int (pa_cons (pe_op op_add pe_int (pe_op op_mod (pe_call G__law_cell hr (by exact rfl) m__law_cell k__law_cell b__law_cell .nil pass0 (pa_cons (pv 0) (pa_cons (pe_op op_add (pv 1) pe_int) pa_nil))) (pv 2))) pa_nil))) (pg_name (i := 5) sc__law_worlds.nd rfl (Or.inl rfl))
    (pss_cons (ps_set (i := 6) sc__law_worlds.nd rfl (Or.inl rfl) (pe_call G__law_mix hr (by exact rfl) m__law_mix k__law_mix b__law_mix .nil pass0 (pa_cons (pe_call G__law_cell hr (by exact rfl) m__law_cell k__law_cell b__law_cell .nil pass0 (pa_cons (pv 0) (pa_cons (pe_op op_add (pe_op op_add (pv 1) pe_int) (pe_op op_mod (pv 5) (pe_callB (call_max2 rfl) (by exact rfl) m_max Ken.boot_max (pa_cons pe_int (pa_cons (pe_callB call_len_seq (by exact rfl) m_len Ken.boot_len (pa_cons (pv 0) pa_nil)) pa_nil))))) pa_nil))) (pa_cons (pe_op op_add (pv 5) pe_int) pa_nil))))
  (pss_cons (ps_set (i := 7) sc__law_worlds.nd rfl (Or.inl rfl) (pe_op op_mod (pv 6) (pv 5)))
  (pss_cons (ps_if (pt_cmpR (op_eq) (pe_op op_mod (pe_op op_fdiv (pv 6) pe_int) pe_int) pe_int (nomark _))
    (pss_one (ps_set (i := 7) sc__law_worlds.nd rfl (Or.inl rfl) (pe_op op_sub (pv 5) pe_int)))
    pss_nil)
  (pss_one (ps_expr (pe_bm PySem.F.plainAttrs_list PySem.F.slot_list_append PySem.F.type_list_append mt_append (pv 4) (pa_cons (pe_tup (pa_cons (pv 7) (pa_cons (pe_call G__law_some hr (by exact rfl) m__law_some k__law_some b__law_some .nil pass0 (pa_cons (pe_op op_fdiv (pv 6) pe_int) (pa_cons (pe_ix ix_tup (pe_ix ix_list (pv 4) (pv 7) (fun _ _ => rfl)) pe_int (fun _ _ => rfl)) (pa_cons (pv 3) pa_nil)))) pa_nil))) pa_nil))))))))
  (pss_one (ps_ret (pv 4))))), ?_⟩
  refine seq_then (fun σ' H' => ∃ l vs ws, σ' = [some (.ref a), some (.int start), some (.int most), some (.ref wa), some (.ref l), none, none, none] ∧ Same H H' ∧ H l = none ∧ H' l = some (.lst vs) ∧ Paired (AtWn K H' l) vs ws ∧ goodB ws ∧ persB ws ∧ inWs us ws ∧ ws.length = 1) ?_ ?_
  rotate_left
  · intro C hC
    walk_at "rd"
    refine ⟨a, ns, start, rfl, hS, hl, s0, by omega, by decide, fun p0 hp0 => ⟨_, p0, wa, [], us, rfl, SqL.of upd_same, (same_new hp0 _).seq hw, hWs, List.nodup_nil, by simp, fun r H1 out e1 fr h1 hn hs _ => ⟨by decide, fun p1 hp1 => ⟨by decide, fun p2 hp2 => ?_⟩⟩⟩⟩
    have S1 : Same H H1 := (same_new hp0 _).trans e1
    have hr1 := (same_new hp1 (.tup [.non, .ref r])) _ _ h1
    refine hC _ _ ⟨p2, [.ref p1], [(none, out)], rfl, (S1.trans (same_new hp1 _)).trans (same_new hp2 _), (S1.trans (same_new hp1 _)).free hp2, upd_same, .cons ⟨p1, r, ne_of_none hr1 hp2, rfl, (same_new hp2 _).sqt (.inl (.inl upd_same)), (same_new hp2 _) _ _ hr1⟩ .nil, ?_, ?_, ?_, rfl⟩
    · intro k x hx
      cases k with
      | zero => cases hx; exact ⟨fun _ => rfl, fun z => absurd z (Nat.lt_irrefl _)⟩
      | succ k => cases hx
    · intro k x hx j ej
      cases k with
      | zero => cases hx; cases ej
      | succ k => cases hx
    · intro x hx
      rcases List.mem_singleton.mp hx with rfl
      exact ⟨hn, hs⟩
  rintro σ1 H1 ⟨l, vs, ws, rfl, e1, f1, h1, hW, hg, hpb, hi, hl1⟩
  refine seq_then (fun σ' H' => ∃ (x5 x6 x7 : Option V) (vs : List V) (ws : List Wd), σ' = [some (.ref a), some (.int start), some (.int most), some (.ref wa), some (.ref l), x5, x6, x7] ∧ Same H H' ∧ H' l = some (.lst vs) ∧ Paired (AtWn K H' l) vs ws ∧ goodB ws ∧ persB ws ∧ inWs us ws ∧ 1 ≤ ws.length ∧ (ws.length : Int) ≤ most) ?_ ?_
  rotate_left
  · intro C hC
    walk_at "ri"
    have b0 := Int.emod_nonneg (cellOf ns (start + 1)) (show most ≠ 0 by omega)
    have b1 := Int.emod_lt_of_pos (cellOf ns (start + 1)) (show 0 < most by omega)
    refine ⟨a, ns, _, rfl, e1.seq hS, hl, by omega, by omega, _, rfl, by omega, by decide, by decide, by omega, by omega, ?_⟩
    generalize cellOf ns (start + 1) % most = mm at b0 b1 ⊢
    refine for_range (D := { nx := C, rt := Q }) (n := (1 + mm - 1).toNat) (lo := 1) (fun i σ' H' => ∃ (x5 x6 x7 : Option V) (vs : List V) (ws : List Wd), σ' = [some (.ref a), some (.int start), some (.int most), some (.ref wa), some (.ref l), x5, x6, x7] ∧ Same H H' ∧ H' l = some (.lst vs) ∧ Paired (AtWn K H' l) vs ws ∧ goodB ws ∧ persB ws ∧ inWs us ws ∧ ws.length = i + 1) ⟨none, none, none, vs, ws, rfl, e1, h1, hW, hg, hpb, hi, hl1⟩ (fun i σ' H' hlt hp => ?_) (fun σ' H' hp => ?_)
    rotate_left
    · obtain ⟨x5, x6, x7, vs, ws, rfl, e, h, hW, hg, hpb, hi, hlen⟩ := hp
      exact hC _ _ ⟨x5, x6, x7, vs, ws, rfl, e, h, hW, hg, hpb, hi, by omega, by omega⟩
    obtain ⟨x5, x6, x7, vs, ws, rfl, e, h, hW, hg, hpb, hi, hlen⟩ := hp
    show tSeq _ _ _ _ _
    refine seq_then (fun σ' H2 => ∃ c : Int, 0 ≤ c ∧ σ' = [some (.ref a), some (.int start), some (.int most), some (.ref wa), some (.ref l), some (.int (1 + (i : Int))), some (.int c), x7] ∧ H2 = H') ?_ ?_
    rotate_left
    · intro C hC
      walk_at "rd"
      refine ⟨_, .inl (e.seq hS), ?_⟩
      have mx : ∃ m : Int, (if ((ns.map V.int).length : Int) > 1 then ((ns.map V.int).length : Int) else 1) = m ∧ 1 ≤ m ∧ m ≤ 63 := by
        rw [List.length_map]
        by_cases c1 : (ns.length : Int) > 1
        · rw [if_pos c1]; exact ⟨_, rfl, by omega, by omega⟩
        · rw [if_neg c1]; exact ⟨1, rfl, by decide, by decide⟩
      obtain ⟨mxv, em, hm1, hm2⟩ := mx
      rw [em]
      have c0 := Int.emod_nonneg (1 + (i : Int)) (show mxv ≠ 0 by omega)
      have c1 := Int.emod_lt_of_pos (1 + (i : Int)) (show 0 < mxv by omega)
      exact ⟨by omega, a, ns, _, rfl, e.seq hS, hl, by omega, by omega, _, _, rfl, by omega, by omega, hC _ _ ⟨_, mix_nn _ _, rfl, rfl⟩⟩
    rintro σ3 H3 ⟨c, hc, rfl, rfl⟩
    refine seq_then (fun σ' H2 => σ' = [some (.ref a), some (.int start), some (.int most), some (.ref wa), some (.ref l), some (.int (1 + (i : Int))), some (.int c), some (.int (c % (1 + (i : Int))))] ∧ H2 = H3) ?_ ?_
    rotate_left
    · intro C hC
      walk_at "rd"
      exact ⟨by omega, hC _ _ ⟨rfl, rfl⟩⟩
    rintro σ4 H4 ⟨rfl, rfl⟩
    refine seq_then (fun σ' H2 => ∃ b : Nat, b < 1 + i ∧ σ' = [some (.ref a), some (.int start), some (.int most), some (.ref wa), some (.ref l), some (.int (1 + (i : Int))), some (.int c), some (.int b)] ∧ H2 = H4) ?_ ?_
    rotate_left
    · intro C hC
      have c0 := Int.emod_nonneg c (show 1 + (i : Int) ≠ 0 by omega)
      have c1 := Int.emod_lt_of_pos c (show 0 < 1 + (i : Int) by omega)
      walk_at "rd"
      refine ⟨⟨by decide, by decide⟩, by decide, ite2 (fun _ => hC _ _ ⟨i, by omega, ?_, rfl⟩) (fun _ => hC _ _ ⟨(c % (1 + (i : Int))).toNat, by omega, ?_, rfl⟩)⟩
      · rw [show (1 + (i : Int) - 1) = (i : Int) by omega]
      · rw [show (((c % (1 + (i : Int))).toNat : Nat) : Int) = c % (1 + (i : Int)) by omega]
    rintro σ5 H5 ⟨b, hb, rfl, rfl⟩
    have lv : vs.length = ws.length := Paired.length hW
    have hbl : b < vs.length := by omega
    obtain ⟨y, hy, p, qq, nq, hv, hs, hq⟩ := paired_get hW (List.getElem?_eq_getElem hbl)
    have hyi := hi y (List.mem_of_getElem? hy)
    walk_at "rd"
    refine ⟨.inl ⟨rfl, _, SqL.of h⟩, ⟨by decide, by decide⟩, vs, SqL.of h, _, atI_nat (List.getElem?_eq_getElem hbl), p, hv, _, hs, .ref qq, rfl, _, qq, wa, y.2, us, rfl, SqL.of hq, e.seq hw, hWs, hyi.1, hyi.2, fun r H6 out e6 fr h6 hn hs' ho => ⟨by decide, fun p1 hp1 => ?_⟩⟩
    have hl6 := e6 _ _ h
    have S7 := same_new hp1 (.tup [.int (b : Nat), .ref r])
    have hl7 := S7 _ _ hl6
    have hr7 := S7 _ _ h6
    have nrl : r ≠ l := Ne.symm (ne_of_none h fr)
    refine ⟨vs, hl7, small1M (by omega), ((e.trans e6).trans S7).write f1, vs ++ [.ref p1], upd_same, ws ++ [(some b, out)], Paired.snoc (Paired.mapP hW fun _ _ z => (z.keep (e6.trans S7)).write hl7) ⟨p1, r, nrl, rfl, keepT_lst hl7 _ _ (.inl (.inl upd_same)), by rw [upd_ne nrl]; exact hr7⟩, ?_, ?_, ?_, by rw [List.length_append, hlen]; rfl⟩
    · intro k x hx
      by_cases hk : k < ws.length
      · rw [List.getElem?_append_left hk] at hx
        exact hg k x hx
      · have hk2 : k < (ws ++ [(some b, out)]).length := (List.getElem?_eq_some_iff.mp hx).1
        rw [List.length_append, List.length_singleton] at hk2
        have ek : k = ws.length := by omega
        subst ek
        rw [List.getElem?_append_right (Nat.le_refl _), Nat.sub_self] at hx
        cases hx
        exact ⟨fun z => absurd z (by omega), fun _ => ⟨b, rfl, by omega⟩⟩
    · intro k x hx j ej y' hy'
      by_cases hk : k < ws.length
      · rw [List.getElem?_append_left hk] at hx
        have hj : j < k := by
          rcases Nat.eq_zero_or_pos k with z | z
          · subst z
            rw [(hg 0 x hx).1 rfl] at ej; cases ej
          · obtain ⟨j', e', l'⟩ := (hg k x hx).2 z
            rw [e'] at ej; cases ej; exact l'
        rw [List.getElem?_append_left (by omega)] at hy'
        exact hpb k x hx j ej y' hy'
      · have hk2 : k < (ws ++ [(some b, out)]).length := (List.getElem?_eq_some_iff.mp hx).1
        rw [List.length_append, List.length_singleton] at hk2
        have ek : k = ws.length := by omega
        subst ek
        rw [List.getElem?_append_right (Nat.le_refl _), Nat.sub_self] at hx
        cases hx
        have ej' : j = b := by cases ej; rfl
        subst ej'
        rw [List.getElem?_append_left (by omega), hy] at hy'
        cases hy'
        exact ho
    · intro x hx
      rcases List.mem_append.mp hx with hx | hx
      · exact hi x hx
      · rcases List.mem_singleton.mp hx with rfl
        exact ⟨hn, hs'⟩
  rintro σ2 H2 ⟨x5, x6, x7, vs2, ws2, rfl, e2, h2, hW2, hg2, hp2, hi2, hl2, hl3⟩
  walk_at "rd"
  exact q _ _ vs2 ws2 e2 f1 h2 (Paired.mapP hW2 fun _ _ z => z.at) hg2 hp2 hi2 hl2 hl3
end
set_option Elab.async false
set_option linter.all false
set_option maxRecDepth 100000
set_option maxHeartbeats 4000000
local macro_rules | `(tactic| walk_at "rd") => `(tactic| walk_at "rdx_5")
local macro_rules | `(tactic| walk_at "ri") => `(tactic| walk_at "rdx_6")
abbrev s_law : Stmt := top 24
theorem sc_law : FnScope ["_law_script", "_law_words_here", "_law_worlds_here", "_law_statement_here", "_law_handed", "_law_found", "_law_nots", "_law_twice", "_law_size", "_law_number", "_law_before", "_law_some_here", "_law_alone_here"] ["_law_script"] (defScope s_law) := ⟨rfl, rfl, rfl, by decide +kernel, rfl, by decide +kernel, by decide +kernel⟩
def sp_law14 (T : Addr) (K : PySem.W.Frag) : Sp := fun vs H Q _ => ∃ (a : Addr) (ns : List Int), vs = [.ref a] ∧ SqL K H a (ns.map V.int) ∧ ns.length ≤ 63 ∧ TabOk H T ds_known ∧ ∀ H', Q (.bl true) H'
theorem seqU {K : PySem.W.Frag} {T : Addr} {H H' : Hp} (e : SameU T H H') {a : Addr} {xs : List V} (h : SqL K H a xs) : SqL K H' a xs := SameT.seq e.toT h
section
variable {P : Program} {w : World} {K : PySem.W.Frag} {mg : Str → Option Value} {base : Heap}
theorem ok_law {k : Nat} {T : Addr} {f_law : Addr} {fd_law : FuncData} (F_law : Fun K "law" "law" s_law f_law fd_law) {f__law_long : Addr} {fd__law_long : FuncData} (G__law_long : FnOk P w K mg base CX0 k f__law_long fd__law_long ["_law_cell_here"] (sp_long2 T)) (m__law_long : mg "_law_long" = some (.ref f__law_long)) (k__law_long : PySem.W.keepIn K (.ref f__law_long) = true) (b__law_long : Binds K fd__law_long ["_law_cell_here"] []) {f__law_words : Addr} {fd__law_words : FuncData} (G__law_words : FnOk P w K mg base CX0 k f__law_words fd__law_words ["_law_cell_here", "_law_many"] (sp_words)) (m__law_words : mg "_law_words" = some (.ref f__law_words)) (k__law_words : PySem.W.keepIn K (.ref f__law_words) = true) (b__law_words : Binds K fd__law_words ["_law_cell_here", "_law_many"] []) {f__law_worlds : Addr} {fd__law_worlds : FuncData} (G__law_worlds : FnOk P w K mg base CX0 k f__law_worlds fd__law_worlds ["_law_script", "_law_start", "_law_most", "_law_words_here"] (sp_worldsP K)) (m__law_worlds : mg "_law_worlds" = some (.ref f__law_worlds)) (k__law_worlds : PySem.W.keepIn K (.ref f__law_worlds) = true) (b__law_worlds : Binds K fd__law_worlds ["_law_script", "_law_start", "_law_most", "_law_words_here"] []) {f__law_statement : Addr} {fd__law_statement : FuncData} (G__law_statement : FnOk P w K mg base CX0 k f__law_statement fd__law_statement ["_law_cell_here", "_law_size", "_law_words_here"] (sp_stm K 47)) (m__law_statement : mg "_law_statement" = some (.ref f__law_statement)) (k__law_statement : PySem.W.keepIn K (.ref f__law_statement) = true) (b__law_statement : Binds K fd__law_statement ["_law_cell_here", "_law_size", "_law_words_here"] []) {f__law_copy : Addr} {fd__law_copy : FuncData} (G__law_copy : FnOk P w K mg base CX0 k f__law_copy fd__law_copy ["_law_worlds_here"] (sp_copyW K)) (m__law_copy : mg "_law_copy" = some (.ref f__law_copy)) (k__law_copy : PySem.W.keepIn K (.ref f__law_copy) = true) (b__law_copy : Binds K fd__law_copy ["_law_worlds_here"] []) {f__law_cell : Addr} {fd__law_cell : FuncData} (G__law_cell : FnOk P w K mg base CX0 k f__law_cell fd__law_cell ["_law_script", "_law_k"] (sp_cell K)) (m__law_cell : mg "_law_cell" = some (.ref f__law_cell)) (k__law_cell : PySem.W.keepIn K (.ref f__law_cell) = true) (b__law_cell : Binds K fd__law_cell ["_law_script", "_law_k"] []) {f__law_mix : Addr} {fd__law_mix : FuncData} (G__law_mix : FnOk P w K mg base CX0 k f__law_mix fd__law_mix ["_law_cell_here", "_law_k"] (sp_mix)) (m__law_mix : mg "_law_mix" = some (.ref f__law_mix)) (k__law_mix : PySem.W.keepIn K (.ref f__law_mix) = true) (b__law_mix : Binds K fd__law_mix ["_law_cell_here", "_law_k"] []) {f_known : Addr} {fd_known : FuncData} (G_known : FnOk P w K mg base CX0 k f_known fd_known ["worlds", "statement"] (sp_known K T ds_known)) (m_known : mg "known" = some (.ref f_known)) (k_known : PySem.W.keepIn K (.ref f_known) = true) (b_known : Binds K fd_known ["worlds", "statement"] []) {f__law_truths : Addr} {fd__law_truths : FuncData} (G__law_truths : FnOk P w K mg base CX0 k f__law_truths fd__law_truths ["_law_found", "_law_size"] (sp_truths)) (m__law_truths : mg "_law_truths" = some (.ref f__law_truths)) (k__law_truths : PySem.W.keepIn K (.ref f__law_truths) = true) (b__law_truths : Binds K fd__law_truths ["_law_found", "_law_size"] []) {f__law_later : Addr} {fd__law_later : FuncData} (G__law_later : FnOk P w K mg base CX0 k f__law_later fd__law_later ["_law_worlds_here", "_law_world"] (sp_laterL K)) (m__law_later : mg "_law_later" = some (.ref f__law_later)) (k__law_later : PySem.W.keepIn K (.ref f__law_later) = true) (b__law_later : Binds K fd__law_later ["_law_worlds_here", "_law_world"] []) {f__law_alone : Addr} {fd__law_alone : FuncData} (G__law_alone : FnOk P w K mg base CX0 k f__law_alone fd__law_alone ["_law_worlds_here", "_law_some_here"] (sp_alone K)) (m__law_alone : mg "_law_alone" = some (.ref f__law_alone)) (k__law_alone : PySem.W.keepIn K (.ref f__law_alone) = true) (b__law_alone : Binds K fd__law_alone ["_law_worlds_here", "_law_some_here"] []) (m_range : mg "range" = none) (m_len : mg "len" = none) : FnOk P w K mg base CX0 (k + 1) f_law fd_law ["_law_script"] (sp_law14 T K) := by
  refine F_law.ok sc_law (fun vs H Q E h => ?_) (fun cdv A outer s H vs Q E hr h => ?_)
  · obtain ⟨a, ns, rfl, _⟩ := h
    rfl
  obtain ⟨a, ns, rfl, hS, hl, tb0, q⟩ := h
  refine ⟨_, (pss_cons (ps_if (pt_cmpR (op_eq) (pe_op op_mod (pe_call G__law_cell hr (by exact rfl) m__law_cell k__law_cell b__law_cell .nil pass0 (pa_cons (pv 0) (pa_cons pe_int pa_nil))) pe_int) pe_int (nomark _))
    (pss_one (ps_ret (pe_call G__law_long hr (by exact rfl) m__law_long k__law_long b__law_long .nil pass0 (pa_cons (pe_call G__law_cell hr (by exact rfl) m__law_cell k__law_cell b__law_cell .nil pass0 (pa_cons (pv 0) (pa_cons pe_int pa_nil))) pa_nil))))
    pss_nil)
  (pss_cons (ps_set (i := 1) sc_law.nd rfl (Or.inl rfl) (pe_call G__law_words hr (by exact rfl) m__law_words k__law_words b__law_words .nil pass0 (pa_cons (pe_call G__law_cell hr (by exact rfl) m__law_cell k__law_cell b__law_cell .nil pass0 (pa_cons (pv 0) (pa_cons pe_int pa_nil))) (pa_cons (pe_op op_add pe_int (pe_op op_mod (pe_call G__law_cell hr (by exact rfl) m__law_cell k__law_cell b__law_cell .nil pass0 (pa_cons (pv 0) (pa_cons pe_int pa_nil))) pe_int)) pa_nil))))
  (pss_cons (ps_set (i := 2) sc_law.nd rfl (Or.inl rfl) (pe_call G__law_worlds hr (by exact rfl) m__law_worlds k__law_worlds b__law_worlds .nil pass0 (pa_cons (pv 0) (pa_cons pe_int (pa_cons pe_int (pa_cons (pv 1) pa_nil))))))
  (pss_cons (ps_set (i := 3) sc_law.nd rfl (Or.inl rfl) (pe_call G__law_statement hr (by exact rfl) m__law_statement k__law_statement b__law_statement .nil pass0 (pa_cons (pe_call G__law_mix hr (by exact rfl) m__law_mix k__law_mix b__law_mix .nil pass0 (pa_cons (pe_call G__law_cell hr (by exact rfl) m__law_cell k__law_cell b__law_cell .nil pass0 (pa_cons (pv 0) (pa_cons pe_int pa_nil))) (pa_cons pe_int pa_nil))) (pa_cons (pe_op op_add pe_int (pe_op op_mod (pe_op op_fdiv (pe_call G__law_cell hr (by exact rfl) m__law_cell k__law_cell b__law_cell .nil pass0 (pa_cons (pv 0) (pa_cons pe_int pa_nil))) pe_int) pe_int)) (pa_cons (pv 1) pa_nil)))))
  (pss_cons (ps_set (i := 4) sc_law.nd rfl (Or.inl rfl) (pe_call G__law_copy hr (by exact rfl) m__law_copy k__law_copy b__law_copy .nil pass0 (pa_cons (pv 2) pa_nil)))
  (pss_cons (ps_set (i := 5) sc_law.nd rfl (Or.inr rfl) (pe_call G_known hr (by exact rfl) m_known k_known b_known .nil pass0 (pa_cons (pv 4) (pa_cons (pv 3) pa_nil))))
  (pss_cons (ps_set (i := 6) sc_law.nd rfl (Or.inl rfl) (pe_call G_known hr (by exact rfl) m_known k_known b_known .nil pass0 (pa_cons (pv 4) (pa_cons (pe_tup (pa_cons pe_str (pa_cons (pv 3) (pa_cons (pe_tup (pa_cons pe_str pa_nil)) pa_nil)))) pa_nil))))
  (pss_cons (ps_set (i := 7) sc_law.nd rfl (Or.inl rfl) (pe_call G_known hr (by exact rfl) m_known k_known b_known .nil pass0 (pa_cons (pv 4) (pa_cons (pe_tup (pa_cons pe_str (pa_cons (pe_tup (pa_cons pe_str (pa_cons (pv 3) (pa_cons (pe_tup (pa_cons pe_str pa_nil)) pa_nil)))) (pa_cons (pe_tup (pa_cons pe_str pa_nil)) pa_nil)))) pa_nil))))
  (pss_cons (ps_set (i := 8) sc_law.nd rfl (Or.inl rfl) (pe_callB call_len_seq (by exact rfl) m_len Ken.boot_len (pa_cons (pv 2) pa_nil)))
  (pss_cons (ps_if ((pw_or (pt_not (pt_val (pe_call G__law_truths hr (by exact rfl) m__law_truths k__law_truths b__law_truths .nil pass0 (pa_cons (pv 5) (pa_cons (pv 8) pa_nil))))) (pw_or (pt_not (pt_val (pe_call G__law_truths hr (by exact rfl) m__law_truths k__law_truths b__law_truths .nil pass0 (pa_cons (pv 6) (pa_cons (pv 8) pa_nil))))) (pw_or1 (pt_not (pt_val (pe_call G__law_truths hr (by exact rfl) m__law_truths k__law_truths b__law_truths .nil pass0 (pa_cons (pv 7) (pa_cons (pv 8) pa_nil))))))))).pt
    (pss_one (ps_ret pe_bl))
    pss_nil)
  (pss_cons (ps_for PassesOwn.never rfl (pi_range1 rfl m_range (pa_cons (pv 8) pa_nil)) (pg_name (i := 9) sc_law.nd rfl (Or.inl rfl))
    (pss_cons (ps_set (i := 10) sc_law.nd rfl (Or.inl rfl) (pe_ix ix_tup (pe_ix ix_list (pv 2) (pv 9) (fun _ _ => rfl)) pe_int (fun _ _ => rfl)))
  (pss_cons (ps_if ((pw_and (pt_cmpR (op_notN) (pv 10) pe_non (nomark _)) (pw_and (pt_val (pe_ix ix_list (pv 5) (pv 10) (fun _ _ => rfl))) (pw_and1 (pt_not (pt_val (pe_ix ix_list (pv 5) (pv 9) (fun _ _ => rfl)))))))).pt
    (pss_one (ps_ret pe_bl))
    pss_nil)
  (pss_one (ps_if ((pw_and (pt_val (pe_ix ix_list (pv 5) (pv 9) (fun _ _ => rfl))) (pw_and1 ((pw_or (pt_val (pe_ix ix_list (pv 6) (pv 9) (fun _ _ => rfl))) (pw_or1 (pt_not (pt_val (pe_ix ix_list (pv 7) (pv 9) (fun _ _ => rfl))))))).pt))).pt
    (pss_one (ps_ret pe_bl))
    pss_nil)))))
  (pss_cons (ps_set (i := 11) sc_law.nd rfl (Or.inl rfl) (pe_call G__law_later hr (by exact rfl) m__law_later k__law_later b__law_later .nil pass0 (pa_cons (pv 2) (pa_cons (pe_op op_mod (pe_op op_fdiv (pe_call G__law_cell hr (by exact rfl) m__law_cell k__law_cell b__law_cell .nil pass0 (pa_cons (pv 0) (pa_cons pe_int pa_nil))) pe_int) (pv 8)) pa_nil))))
  (pss_cons (ps_set (i := 12) sc_law.nd rfl (Or.inl rfl) (pe_call G_known hr (by exact rfl) m_known k_known b_known .nil pass0 (pa_cons (pe_call G__law_alone hr (by exact rfl) m__law_alone k__law_alone b__law_alone .nil pass0 (pa_cons (pv 2) (pa_cons (pv 11) pa_nil))) (pa_cons (pv 3) pa_nil))))
  (pss_one (ps_ret (pe_and (pe_call G__law_truths hr (by exact rfl) m__law_truths k__law_truths b__law_truths .nil pass0 (pa_cons (pv 12) (pa_cons (pe_callB call_len_seq (by exact rfl) m_len Ken.boot_len (pa_cons (pv 11) pa_nil)) pa_nil))) (pe_and (pe_cmpR (op_eqD (hu_150 hr)) (pv 12) (pe_lc (blkC (N' := ["_law_number", "_law_found"]) (nt := 1) (ci := [5]) ["_law_script", "_law_words_here", "_law_worlds_here", "_law_statement_here", "_law_handed", "_law_found", "_law_nots", "_law_twice", "_law_size", "_law_number", "_law_before", "_law_some_here", "_law_alone_here"] (defScope s_law) rfl rfl (by decide +kernel) rfl (by decide +kernel) (by decide +kernel) rfl (by decide +kernel)) rfl (pi_list (pv 11)) (fun _ _ _ _ => (pg_name (i := 0) (show (["_law_number", "_law_found"] : List Str).Nodup from by decide +kernel) rfl (Or.inl rfl))) (fun _ _ _ _ => (pe_ix (ix_listK (K := K) rfl) (pv 1) (pv 0) (fun _ _ => rfl)))) (nomark _)) (pe_one (pe_cmpR (op_eqD (hu_150 hr)) (pv 4) (pv 2) (nomark _)))))))))))))))))))), ?_⟩
  refine seq_then (fun σ' H' => σ' = [some (.ref a), none, none, none, none, none, none, none, none, none, none, none, none] ∧ H' = H) ?_ ?_
  rotate_left
  · intro C hC
    walk_at "rd"
    refine ⟨a, ns, _, rfl, hS, hl, by decide, by decide, _, rfl, by decide, ?_⟩
    by_cases z : cellOf ns 4 % 24 = 7
    · rw [if_pos z]
      exact ⟨a, ns, _, rfl, hS, hl, by decide, by decide, _, rfl, cell_nn _ _, tb0, q⟩
    · rw [if_neg z]
      exact hC _ _ ⟨rfl, rfl⟩
  rintro σ0 H0 ⟨rfl, rfl⟩
  refine seq_then (fun σ' H' => ∃ wa us, σ' = [some (.ref a), some (.ref wa), none, none, none, none, none, none, none, none, none, none, none] ∧ Same H0 H' ∧ H' wa = some (.lst (us.map V.str)) ∧ Words us) ?_ ?_
  rotate_left
  · intro C hC
    walk_at "rd"
    refine ⟨a, ns, _, rfl, hS, hl, by decide, by decide, a, ns, _, rfl, hS, hl, by decide, by decide, _, rfl, by decide, _, _, rfl, cell_nn _ _, ?_, ?_, fun r H' ws e hr h hw => hC _ _ ⟨r, ws, rfl, e, h, hw⟩⟩
    · have := Int.emod_nonneg (cellOf ns 1) (show (5 : Int) ≠ 0 by decide)
      omega
    · have := Int.emod_lt_of_pos (cellOf ns 1) (show (0 : Int) < 5 by decide)
      omega
  rintro σ1 H1 ⟨wa, us, rfl, e1, h1, hu⟩
  refine seq_then (fun σ' H' => ∃ lw vs ws, σ' = [some (.ref a), some (.ref wa), some (.ref lw), none, none, none, none, none, none, none, none, none, none] ∧ Same H1 H' ∧ H' lw = some (.lst vs) ∧ AtWs K H' vs ws ∧ goodB ws ∧ persB ws ∧ okWs ws ∧ 1 ≤ ws.length ∧ ws.length ≤ 24) ?_ ?_
  rotate_left
  · intro C hC
    walk_at "rd"
    exact ⟨a, ns, _, _, wa, us, rfl, e1.seq hS, hl, by decide, by decide, by decide, by decide, SqL.of h1, hu, fun r H' vs ws e fr h hW hg hp hi l1 l2 => hC _ _ ⟨r, vs, ws, rfl, e, h, hW, hg, hp, hi.ok hu.2.2, l1, by omega⟩⟩
  rintro σ2 H2 ⟨lw, vs, ws, rfl, e2, h2, hW2, hg, hps, hok, l1, l24⟩
  have lv : vs.length = ws.length := Paired.length hW2
  have E2 := e1.trans e2
  have b0 := Int.emod_nonneg (cellOf ns 1 / 5) (show (40 : Int) ≠ 0 by decide)
  have b1 := Int.emod_lt_of_pos (cellOf ns 1 / 5) (show (0 : Int) < 40 by decide)
  refine seq_then (fun σ' H' => ∃ g t, σ' = [some (.ref a), some (.ref wa), some (.ref lw), some g, none, none, none, none, none, none, none, none, none] ∧ Same H2 H' ∧ IsT K H' g t ∧ t.inW us ∧ t.parts ≤ 40) ?_ ?_
  rotate_left
  · intro C hC
    walk_at "rd"
    refine ⟨a, ns, _, rfl, E2.seq hS, hl, by decide, by decide, _, _, rfl, by decide, by decide, a, ns, _, rfl, E2.seq hS, hl, by decide, by decide, _, rfl, ⟨by decide, by decide⟩, by decide, _, _, wa, us, rfl, mix_nn _ _, by omega, by omega, Nat.lt_of_le_of_lt (rk_le _) (by decide), SqL.of (e2 _ _ h1), hu, fun r H' t e m => hC _ _ ⟨r, t, rfl, e, m.1, m.2.1, ?_⟩⟩
    have := m.2.2.1
    omega
  rintro σ3 H3 ⟨g, t, rfl, e3, hgT, hin, hp⟩
  have htok : t.ok := hin.ok hu.2.2
  refine seq_then (fun σ' H' => ∃ lh ys, σ' = [some (.ref a), some (.ref wa), some (.ref lw), some g, some (.ref lh), none, none, none, none, none, none, none, none] ∧ Same H3 H' ∧ H' lh = some (.lst ys) ∧ AtWs K H' ys ws) ?_ ?_
  rotate_left
  · intro C hC
    walk_at "rd"
    exact ⟨lw, vs, ws, rfl, e3 _ _ h2, hW2.keep e3, by omega, fun r H' ys e fr h hW => hC _ _ ⟨r, ys, rfl, e, h, hW⟩⟩
  rintro σ4 H4 ⟨lh, ys, rfl, e4, h4h, hW4⟩
  have h4w := (e3.trans e4) _ _ h2
  have hW4w := hW2.keep (e3.trans e4)
  have h4g := hgT.keep e4.keepT
  have tb4 : TabOk H4 T ds_known := tb0.keep (E2.trans (e3.trans e4))
  have hus : us.length ≤ 40 := by have := hu.2.1; omega
  refine seq_then (fun σ' H' => ∃ lf, σ' = [some (.ref a), some (.ref wa), some (.ref lw), some g, some (.ref lh), some (.ref lf), none, none, none, none, none, none, none] ∧ SameU T H4 H' ∧ TabOk H' T ds_known ∧ H' lf = some (.lst (bls (tr ws t)))) ?_ ?_
  rotate_left
  · intro C hC
    walk_at "rd"
    exact ⟨lh, g, t, ys, ws, us, rfl, h4h, hW4, hg, by omega, h4g, htok, by omega, hin, hus, tb4, fun r H' e tb fr hr => hC _ _ ⟨r, rfl, e, tb, hr⟩⟩
  rintro σ5 H5 ⟨lf, rfl, e5, tb5, h5⟩
  refine seq_then (fun σ' H' => ∃ ln, σ' = [some (.ref a), some (.ref wa), some (.ref lw), some g, some (.ref lh), some (.ref lf), some (.ref ln), none, none, none, none, none, none] ∧ SameU T H5 H' ∧ TabOk H' T ds_known ∧ H' ln = some (.lst (bls (tr ws (.nd .thn t .low))))) ?_ ?_
  rotate_left
  · intro C hC
    walk_at "rd"
    refine ⟨by decide, fun p hp => ⟨by decide, fun p1 hp1 => ?_⟩⟩
    have s1 := same_new hp (HO.tup [V.str (Str.ofString "low")])
    have s2 := same_new hp1 (HO.tup [V.str (Str.ofString "then"), g, V.ref p])
    have S := s1.trans s2
    have eS := e5.trans (Same.toU S)
    have hT : IsT K (upd (upd H5 p (HO.tup [V.str (Str.ofString "low")])) p1 (HO.tup [V.str (Str.ofString "then"), g, V.ref p])) (.ref p1) (.nd .thn t .low) :=
      isT_nd.mpr ⟨p1, g, .ref p, rfl, .inl (.inl upd_same), h4g.keep (SameT.keepT eS.toT), isT_low.mpr ⟨p, rfl, s2.sqt (.inl (.inl upd_same))⟩⟩
    exact ⟨lh, .ref p1, .nd .thn t .low, ys, ws, us, rfl, eS.toT _ _ (fun _ z => nomatch z) h4h, hW4.keepU eS, hg, by omega, hT, ⟨htok, trivial⟩, show 1 + t.parts + 1 ≤ 300 by omega, ⟨hin, trivial⟩, hus, tb5.keep S, fun r H' e tb fr hr => hC _ _ ⟨r, rfl, (Same.toU S).trans e, tb, hr⟩⟩
  rintro σ6 H6 ⟨ln, rfl, e6, tb6, h6⟩
  refine seq_then (fun σ' H' => ∃ l2, σ' = [some (.ref a), some (.ref wa), some (.ref lw), some g, some (.ref lh), some (.ref lf), some (.ref ln), some (.ref l2), none, none, none, none, none] ∧ SameU T H6 H' ∧ TabOk H' T ds_known ∧ H' l2 = some (.lst (bls (tr ws (.nd .thn (.nd .thn t .low) .low))))) ?_ ?_
  rotate_left
  · intro C hC
    walk_at "rd"
    refine ⟨by decide, fun p hp => ⟨by decide, fun p1 hp1 => ⟨by decide, fun p2 hp2 => ⟨by decide, fun p3 hp3 => ?_⟩⟩⟩⟩
    have s1 := same_new hp (HO.tup [V.str (Str.ofString "low")])
    have s2 := same_new hp1 (HO.tup [V.str (Str.ofString "then"), g, V.ref p])
    have s3 := same_new hp2 (HO.tup [V.str (Str.ofString "low")])
    have s4 := same_new hp3 (HO.tup [V.str (Str.ofString "then"), V.ref p1, V.ref p2])
    have S := s1.trans (s2.trans (s3.trans s4))
    have eS := (e5.trans e6).trans (Same.toU S)
    have hT : IsT K (upd (upd (upd (upd H6 p (HO.tup [V.str (Str.ofString "low")])) p1 (HO.tup [V.str (Str.ofString "then"), g, V.ref p])) p2 (HO.tup [V.str (Str.ofString "low")])) p3 (HO.tup [V.str (Str.ofString "then"), V.ref p1, V.ref p2])) (.ref p3) (.nd .thn (.nd .thn t .low) .low) :=
      isT_nd.mpr ⟨p3, .ref p1, .ref p2, rfl, .inl (.inl upd_same), isT_nd.mpr ⟨p1, g, .ref p, rfl, (s3.trans s4).sqt (.inl (.inl upd_same)), h4g.keep (SameT.keepT eS.toT), isT_low.mpr ⟨p, rfl, (s2.trans (s3.trans s4)).sqt (.inl (.inl upd_same))⟩⟩, isT_low.mpr ⟨p2, rfl, s4.sqt (.inl (.inl upd_same))⟩⟩
    exact ⟨lh, .ref p3, .nd .thn (.nd .thn t .low) .low, ys, ws, us, rfl, eS.toT _ _ (fun _ z => nomatch z) h4h, hW4.keepU eS, hg, by omega, hT, ⟨⟨htok, trivial⟩, trivial⟩, show 1 + (1 + t.parts + 1) + 1 ≤ 300 by omega, ⟨⟨hin, trivial⟩, trivial⟩, hus, tb6.keep S, fun r H' e tb fr hr => hC _ _ ⟨r, rfl, (Same.toU S).trans e, tb, hr⟩⟩
  rintro σ7 H7 ⟨l2, rfl, e7, tb7, h7⟩
  have E7 : SameU T H4 H7 := e5.trans (e6.trans e7)
  have h7w := E7.toT lw (HO.lst vs) (fun _ z => nomatch z) h4w
  have h7f := (e6.trans e7).toT lf (HO.lst (bls (tr ws t))) (fun _ z => nomatch z) h5
  have h7n := e7.toT ln (HO.lst (bls (tr ws (.nd .thn t .low)))) (fun _ z => nomatch z) h6
  have hW7w := hW4w.keepU E7
  refine seq_then (fun σ' H' => σ' = [some (.ref a), some (.ref wa), some (.ref lw), some g, some (.ref lh), some (.ref lf), some (.ref ln), some (.ref l2), some (.int (ws.length : Nat)), none, none, none, none] ∧ H' = H7) ?_ ?_
  rotate_left
  · intro C hC
    walk_at "rd"
    exact ⟨_, .inl (SqL.of h7w), hC _ _ ⟨by rw [lv], rfl⟩⟩
  rintro σ8 H8 ⟨rfl, rfl⟩
  refine seq_then (fun σ' H' => σ' = [some (.ref a), some (.ref wa), some (.ref lw), some g, some (.ref lh), some (.ref lf), some (.ref ln), some (.ref l2), some (.int (ws.length : Nat)), none, none, none, none] ∧ Same H8 H') ?_ ?_
  rotate_left
  · intro C hC
    walk_at "rd"
    refine ⟨lf, tr ws t, by rw [tr_len], h7f, by rw [tr_len]; omega, fun Ha ea => ⟨true, rfl, ?_⟩⟩
    rw [if_neg (by decide)]
    refine ⟨ln, _, by rw [tr_len], ea _ _ h7n, by rw [tr_len]; omega, fun Hb eb => ⟨true, rfl, ?_⟩⟩
    rw [if_neg (by decide)]
    refine ⟨l2, _, by rw [tr_len], (ea.trans eb) _ _ h7, by rw [tr_len]; omega, fun Hc ec => ⟨true, rfl, ?_⟩⟩
    rw [if_neg (by decide)]
    exact hC _ _ ⟨rfl, ea.trans (eb.trans ec)⟩
  rintro σ9 H9 ⟨rfl, e9⟩
  refine seq_then (fun σ' H' => ∃ x9 x10, σ' = [some (.ref a), some (.ref wa), some (.ref lw), some g, some (.ref lh), some (.ref lf), some (.ref ln), some (.ref l2), some (.int (ws.length : Nat)), x9, x10, none, none] ∧ Same H9 H') ?_ ?_
  rotate_left
  · intro C hC
    walk_at "ri"
    refine ⟨by omega, by omega, ?_⟩
    rw [Int.toNat_natCast]
    refine for_range (D := { nx := C, rt := Q }) (n := ws.length) (lo := 0) (fun i σ' H' => ∃ x9 x10, σ' = [some (.ref a), some (.ref wa), some (.ref lw), some g, some (.ref lh), some (.ref lf), some (.ref ln), some (.ref l2), some (.int (ws.length : Nat)), x9, x10, none, none] ∧ Same H9 H') ⟨none, none, rfl, Same.refl _⟩ (fun i σ' H' hi hp => ?_) (fun σ' H' hp => hC _ _ hp)
    obtain ⟨x9, x10, rfl, e⟩ := hp
    have E := e9.trans e
    have hi' : i < vs.length := by omega
    obtain ⟨x, hx, p, qq, hv, hs, hq⟩ := paired_get hW7w (List.getElem?_eq_getElem hi')
    have lt0 := tr_len ws t
    have lt1 := tr_len ws (.nd .thn t .low)
    have lt2 := tr_len ws (.nd .thn (.nd .thn t .low) .low)
    have ai : atI vs (0 + (i : Int)) = some vs[i] := by rw [Int.zero_add]; exact atI_nat (List.getElem?_eq_getElem hi')
    have af : atI (bls (tr ws t)) (0 + (i : Int)) = some (.bl (tg (tr ws t) i)) := by rw [Int.zero_add]; exact bls_at (by omega)
    have an : atI (bls (tr ws (.nd .thn t .low))) (0 + (i : Int)) = some (.bl (tg (tr ws (.nd .thn t .low)) i)) := by rw [Int.zero_add]; exact bls_at (by omega)
    have a2 : atI (bls (tr ws (.nd .thn (.nd .thn t .low) .low))) (0 + (i : Int)) = some (.bl (tg (tr ws (.nd .thn (.nd .thn t .low) .low)) i)) := by rw [Int.zero_add]; exact bls_at (by omega)
    have Ef := E _ _ h7f
    simp only [gName, List.set_cons_zero, List.set_cons_succ]
    refine seq_then (fun σ' H2 => σ' = [some (.ref a), some (.ref wa), some (.ref lw), some g, some (.ref lh), some (.ref lf), some (.ref ln), some (.ref l2), some (.int (ws.length : Nat)), some (.int (0 + (i : Nat))), some (bV x.1), none, none] ∧ H2 = H') ?_ ?_
    rotate_left
    · intro C hC
      walk_at "rd"
      exact ⟨_, SqL.of (E _ _ h7w), _, ai, p, hv, _, E.sqt hs, _, rfl, hC _ _ ⟨rfl, rfl⟩⟩
    rintro σa Ha ⟨rfl, rfl⟩
    refine seq_then (fun σ' H2 => σ' = [some (.ref a), some (.ref wa), some (.ref lw), some g, some (.ref lh), some (.ref lf), some (.ref ln), some (.ref l2), some (.int (ws.length : Nat)), some (.int (0 + (i : Nat))), some (bV x.1), none, none] ∧ H2 = Ha) ?_ ?_
    rotate_left
    · intro C hC
      walk_at "rd"
      cases ex : x.1 with
      | none =>
        rw [if_neg (by show ¬ ((!decide (V.non = V.non)) = true); decide), if_neg (by decide)]
        exact hC _ _ ⟨by rw [ex], rfl⟩
      | some j =>
        rw [if_pos (by rfl)]
        have eb : bef ws i = some j := by unfold bef; rw [hx]; exact ex
        have hj := (bef_lt hg eb).2
        refine ⟨_, (j : Int), rfl, SqL.of Ef, _, bls_at (by omega), _, rfl, ?_⟩
        cases zj : tg (tr ws t) j with
        | false =>
          rw [if_neg (by decide), if_neg (by decide)]
          exact hC _ _ ⟨by rw [ex], rfl⟩
        | true =>
          rw [if_pos rfl]
          refine ⟨_, SqL.of Ef, _, af, _, rfl, ?_⟩
          rw [stays hg hps t eb zj, if_neg (by decide)]
          exact hC _ _ ⟨by rw [ex], rfl⟩
    rintro σb Hb ⟨rfl, rfl⟩
    walk_at "rd"
    refine ⟨_, SqL.of Ef, _, af, _, rfl, ?_⟩
    cases zt : tg (tr ws t) i with
    | false =>
      rw [if_neg (by decide), if_neg (by decide)]
      exact e
    | true =>
      rw [if_pos rfl]
      refine ⟨_, SqL.of (E _ _ h7n), _, an, _, rfl, ?_⟩
      have zn : tg (tr ws (.nd .thn t .low)) i = false := by
        cases z : tg (tr ws (.nd .thn t .low)) i with
        | false => rfl
        | true => rw [tr_not hg t hi z] at zt; cases zt
      rw [zn, if_neg (by decide)]
      refine ⟨_, SqL.of (E _ _ h7), _, a2, _, rfl, ?_⟩
      rw [tr_twice hg hps (by omega) t hi zt, if_neg (by decide)]
      exact e
  rintro σ10 H10 ⟨x9, x10, rfl, e10⟩
  have E10 := e9.trans e10
  refine seq_then (fun σ' H' => ∃ ls v, v < ws.length ∧ σ' = [some (.ref a), some (.ref wa), some (.ref lw), some g, some (.ref lh), some (.ref lf), some (.ref ln), some (.ref l2), some (.int (ws.length : Nat)), x9, x10, some (.ref ls), none] ∧ Same H10 H' ∧ H' ls = some (.lst (natsV (lat ws v)))) ?_ ?_
  rotate_left
  · intro C hC
    walk_at "rd"
    have h0 := Int.emod_nonneg (cellOf ns 0 / 1152) (show (ws.length : Int) ≠ 0 by omega)
    have h1 := Int.emod_lt_of_pos (cellOf ns 0 / 1152) (show (0 : Int) < ws.length by omega)
    have hw' := E10 _ _ h7w
    refine ⟨a, ns, _, rfl, (E10.seq (seqU E7 ((E2.trans (e3.trans e4)).seq hS))), hl, by decide, by decide, _, rfl, ⟨by decide, by decide⟩, by omega, lw, vs, ws, (cellOf ns 0 / 1152 % ws.length).toNat, by rw [Int.toNat_of_nonneg (by omega)], hw', hW7w.keep E10, hg, by omega, by omega, fun r H' e fr hr => hC _ _ ⟨r, _, by omega, rfl, e, hr⟩⟩
  rintro σ11 H11 ⟨ls, v, hv, rfl, e11, h11⟩
  have E11 := E10.trans e11
  refine seq_then (fun σ' H' => ∃ la ws', σ' = [some (.ref a), some (.ref wa), some (.ref lw), some g, some (.ref lh), some (.ref lf), some (.ref ln), some (.ref l2), some (.int (ws.length : Nat)), x9, x10, some (.ref ls), some (.ref la)] ∧ SameU T H11 H' ∧ H' la = some (.lst (bls (tr ws' t))) ∧ AloneI ws (lat ws v) (lat ws v).length ws') ?_ ?_
  rotate_left
  · intro C hC
    walk_at "rd"
    refine ⟨lw, ls, vs, ws, v, rfl, E11 _ _ h7w, hW7w.keep E11, hg, hok, hv, by omega, h11, fun r H' zs ws' e fr hr hz hA => ?_⟩
    have C' : Closed ws v (lat ws v) := latN_closed hg hv (by omega)
    have lA := hA.len
    have ll := C'.len
    exact ⟨r, g, t, zs, ws', us, rfl, hr, hz, alone_good hA C', by omega, h4g.keep (KeepT.trans (SameT.keepT E7.toT) (E11.trans e).keepT), htok, by omega, hin, hus, tb7.keep (E11.trans e), fun r2 H2 e2 tb2 fr2 hr2 => hC _ _ ⟨r2, ws', rfl, (Same.toU e).trans e2, hr2, hA⟩⟩
  rintro σ12 H12 ⟨la, ws', rfl, e12, h12, hA⟩
  have C' : Closed ws v (lat ws v) := latN_closed hg hv (by omega)
  have lA := hA.len
  have ll := C'.len
  have hg' := alone_good hA C'
  have sb := alone_sub hg hA C' (fun n hn => (latN_le _ n hn).1)
  have h12s := e12.toT ls (HO.lst (natsV (lat ws v))) (fun _ z => nomatch z) h11
  have E12 : SameU T H8 H12 := (Same.toU E11).trans e12
  have h12f := E12.toT lf (HO.lst (bls (tr ws t))) (fun _ z => nomatch z) h7f
  have key : bls (tr ws' t) = (lat ws v).map fun n => V.bl (tg (tr ws t) n) := by
    have lt' := tr_len ws' t
    refine List.ext_getElem? fun i => ?_
    rw [List.getElem?_map, List.getElem?_map]
    by_cases hi : i < (lat ws v).length
    · have en : (lat ws v)[i]? = some (lat ws v)[i] := List.getElem?_eq_getElem hi
      have et : (tr ws' t)[i]? = some (tg (tr ws' t) i) := by
        unfold tg
        rw [List.getElem?_eq_getElem (by omega)]; rfl
      rw [en, et]
      show some (V.bl _) = some (V.bl _)
      rw [sub_tr sb hg hg' t i _ en]
    · rw [List.getElem?_eq_none (by omega), List.getElem?_eq_none (by omega)]; rfl
  walk_at "rd"
  refine ⟨_, .inl (SqL.of h12s), la, tr ws' t, by rw [natsV_len, tr_len, lA], h12, by rw [tr_len]; omega, fun Ha ea => ⟨true, rfl, ?_⟩⟩
  rw [if_pos rfl]
  walk_at "ri"
  refine ⟨⟨_, SqL.of (ea _ _ h12s)⟩, fun acc hacc => ?_⟩
  refine lcW_list (xs := natsV (lat ws v)) (fun i ys H2 => Same Ha H2 ∧ H2 acc = some (.lst ys) ∧ ys = ((lat ws v).take i).map fun n => V.bl (tg (tr ws t) n)) ⟨same_new hacc _, upd_same, rfl⟩ (fun i ys H2 hi ⟨e, h, hy⟩ => ⟨h, ?_, SqL.of ((ea.trans e) _ _ h12s)⟩) (fun i x ys H2 hx ⟨e, h, hy⟩ C2 hC2 => ?_) (fun ys2 H2 ⟨e, h, hy⟩ => ?_)
  · rw [hy, List.length_map, List.length_take]
    exact small1M (by omega)
  · unfold natsV at hx
    rw [List.getElem?_map] at hx
    cases en : (lat ws v)[i]? with
    | none => rw [en] at hx; cases hx
    | some n =>
      rw [en] at hx; cases hx
      have hn := C'.low n (List.mem_of_getElem? en)
      have ltl := tr_len ws t
      walk_at "rd"
      refine ⟨wk_set (i := 0) rfl, _, SqL.of ((ea.trans e) _ _ h12f), _, bls_at (by omega), hC2 _ _ h ⟨e.write hacc, upd_same, ?_⟩⟩
      rw [hy, take_snoc en, List.map_append]; rfl
  · rw [natsV_len, List.take_length, ← key] at hy
    refine ⟨.list ((tr ws' t).map PyData.bool), ?_, .list ((tr ws' t).map PyData.bool), ?_, bools_lay _, bools_lay _, Nat.le_trans (Nat.min_le_left _ _) (Nat.le_trans (bools_depth _) (by decide)), ?_⟩
    · rw [Dn]; exact ⟨la, _, rfl, SqL.of ((ea.trans e) _ _ h12), bools_dn _⟩
    · rw [Dn]; exact ⟨acc, _, rfl, SqL.of (hy ▸ h), bools_dn _⟩
    rw [if_neg Bool.false_ne_true, bools_self, if_pos rfl]
    have S : SameU T H8 H2 := E12.trans (Same.toU (ea.trans e))
    have S4 := E7.trans S
    refine ⟨.list (ws.map wdD), ?_, .list (ws.map wdD), ?_, wds_lay hok, wds_lay hok, Nat.le_trans (Nat.min_le_left _ _) (Nat.le_trans (wds_depth ws) (by decide)), ?_⟩
    · rw [Dn]; exact ⟨lh, _, rfl, SqL.of (S4.toT _ _ (fun _ z => nomatch z) h4h), wds_dn (hW4.keepU S4)⟩
    · rw [Dn]; exact ⟨lw, _, rfl, SqL.of (S4.toT _ _ (fun _ z => nomatch z) h4w), wds_dn (hW4w.keepU S4)⟩
    rw [if_neg Bool.false_ne_true, wds_self]
    exact q _
end
set_option Elab.async false
set_option linter.all false
set_option maxRecDepth 100000
set_option maxHeartbeats 4000000
theorem all_mk {l : PySem.W.OpenLaw} {w : World} {K0 K : PySem.W.Frag} {h : Heap} {mg : Str → Option Value} {fa bm T_known : Addr} (X : K0.In h) (G : h.Ns mainGlobals mg) (hfa : mg "law" = some (.ref fa)) (kle : ∀ a o, K0.lookup a = some o → K.lookup a = some o) (hblt : BltK K mg bm) (nT : ∀ p ∈ [T_known], bm ≠ p)
    {f__law_mix : Addr} {od__law_mix an__law_mix : Option Addr} {sl__law_mix : Array (Option Value)} {oc__law_mix kV__law_mix dc__law_mix pm__law_mix cd__law_mix ct__law_mix : Value}
    {f__law_cell : Addr} {od__law_cell an__law_cell : Option Addr} {sl__law_cell : Array (Option Value)} {oc__law_cell kV__law_cell dc__law_cell pm__law_cell cd__law_cell ct__law_cell : Value}
    {f__law_words : Addr} {od__law_words an__law_words : Option Addr} {sl__law_words : Array (Option Value)} {oc__law_words kV__law_words dc__law_words pm__law_words cd__law_words ct__law_words : Value}
    {f__law_leaf : Addr} {od__law_leaf an__law_leaf : Option Addr} {sl__law_leaf : Array (Option Value)} {oc__law_leaf kV__law_leaf dc__law_leaf pm__law_leaf cd__law_leaf ct__law_leaf : Value}
    {f__law_statement : Addr} {od__law_statement an__law_statement : Option Addr} {sl__law_statement : Array (Option Value)} {oc__law_statement kV__law_statement dc__law_statement pm__law_statement cd__law_statement ct__law_statement : Value}
    {f__law_some : Addr} {od__law_some an__law_some : Option Addr} {sl__law_some : Array (Option Value)} {oc__law_some kV__law_some dc__law_some pm__law_some cd__law_some ct__law_some : Value}
    {f__law_worlds : Addr} {od__law_worlds an__law_worlds : Option Addr} {sl__law_worlds : Array (Option Value)} {oc__law_worlds kV__law_worlds dc__law_worlds pm__law_worlds cd__law_worlds ct__law_worlds : Value}
    {f__law_copy : Addr} {od__law_copy an__law_copy : Option Addr} {sl__law_copy : Array (Option Value)} {oc__law_copy kV__law_copy dc__law_copy pm__law_copy cd__law_copy ct__law_copy : Value}
    {f_within : Addr} {od_within an_within : Option Addr} {sl_within : Array (Option Value)} {oc_within kV_within dc_within pm_within cd_within ct_within : Value}
    {f_pieces : Addr} {od_pieces an_pieces : Option Addr} {sl_pieces : Array (Option Value)} {oc_pieces kV_pieces dc_pieces pm_pieces cd_pieces ct_pieces : Value}
    {f_folded : Addr} {od_folded an_folded : Option Addr} {sl_folded : Array (Option Value)} {oc_folded kV_folded dc_folded pm_folded cd_folded ct_folded : Value}
    {f_letters : Addr} {od_letters an_letters : Option Addr} {sl_letters : Array (Option Value)} {oc_letters kV_letters dc_letters pm_letters cd_letters ct_letters : Value}
    {f_later : Addr} {od_later an_later : Option Addr} {sl_later : Array (Option Value)} {oc_later kV_later dc_later pm_later cd_later ct_later : Value}
    {f_where_letters : Addr} {od_where_letters an_where_letters : Option Addr} {sl_where_letters : Array (Option Value)} {oc_where_letters kV_where_letters dc_where_letters pm_where_letters cd_where_letters ct_where_letters : Value}
    {f_where_then : Addr} {od_where_then an_where_then : Option Addr} {sl_where_then : Array (Option Value)} {oc_where_then kV_where_then dc_where_then pm_where_then cd_where_then ct_where_then : Value}
    {f_known ca_known : Addr} {od_known an_known od2_known : Option Addr} {sl_known sl2_known : Array (Option Value)} {vs_known : Array Value} {oc_known kV_known dc_known pm_known ct_known : Value}
    {f__law_later : Addr} {od__law_later an__law_later : Option Addr} {sl__law_later : Array (Option Value)} {oc__law_later kV__law_later dc__law_later pm__law_later cd__law_later ct__law_later : Value}
    {f__law_truths : Addr} {od__law_truths an__law_truths : Option Addr} {sl__law_truths : Array (Option Value)} {oc__law_truths kV__law_truths dc__law_truths pm__law_truths cd__law_truths ct__law_truths : Value}
    {f__law_alone : Addr} {od__law_alone an__law_alone : Option Addr} {sl__law_alone : Array (Option Value)} {oc__law_alone kV__law_alone dc__law_alone pm__law_alone cd__law_alone ct__law_alone : Value}
    {f__law_long : Addr} {od__law_long an__law_long : Option Addr} {sl__law_long : Array (Option Value)} {oc__law_long kV__law_long dc__law_long pm__law_long cd__law_long ct__law_long : Value}
    {f_law : Addr} {od_law an_law : Option Addr} {sl_law : Array (Option Value)} {oc_law kV_law dc_law pm_law cd_law ct_law : Value}
    {aPAIRED : Addr} {od_PAIRED : Option Addr} {sl_PAIRED : Array (Option Value)} {n_PAIRED tk_PAIRED_0 tk_PAIRED_1 tk_PAIRED_2 : Nat}
    (a__law_mix : PySem.W.nsIn K0 mainGlobals "_law_mix" = some (some (.ref f__law_mix))) (l__law_mix : K0.lookup f__law_mix = some ⟨oc__law_mix, od__law_mix, .func (PySem.W.fnOf "_law_mix" "_law_mix" (defArgs s__law_mix) (defBody s__law_mix) (defScope s__law_mix) .none kV__law_mix dc__law_mix pm__law_mix an__law_mix cd__law_mix ct__law_mix), sl__law_mix⟩) (c__law_mix : PySem.W.codeIn K0 cd__law_mix "_law_mix" = true) (k__law_mix : PySem.W.keepIn K0 (.ref f__law_mix) = true)
    (a__law_cell : PySem.W.nsIn K0 mainGlobals "_law_cell" = some (some (.ref f__law_cell))) (l__law_cell : K0.lookup f__law_cell = some ⟨oc__law_cell, od__law_cell, .func (PySem.W.fnOf "_law_cell" "_law_cell" (defArgs s__law_cell) (defBody s__law_cell) (defScope s__law_cell) .none kV__law_cell dc__law_cell pm__law_cell an__law_cell cd__law_cell ct__law_cell), sl__law_cell⟩) (c__law_cell : PySem.W.codeIn K0 cd__law_cell "_law_cell" = true) (k__law_cell : PySem.W.keepIn K0 (.ref f__law_cell) = true)
    (a__law_words : PySem.W.nsIn K0 mainGlobals "_law_words" = some (some (.ref f__law_words))) (l__law_words : K0.lookup f__law_words = some ⟨oc__law_words, od__law_words, .func (PySem.W.fnOf "_law_words" "_law_words" (defArgs s__law_words) (defBody s__law_words) (defScope s__law_words) .none kV__law_words dc__law_words pm__law_words an__law_words cd__law_words ct__law_words), sl__law_words⟩) (c__law_words : PySem.W.codeIn K0 cd__law_words "_law_words" = true) (k__law_words : PySem.W.keepIn K0 (.ref f__law_words) = true)
    (a__law_leaf : PySem.W.nsIn K0 mainGlobals "_law_leaf" = some (some (.ref f__law_leaf))) (l__law_leaf : K0.lookup f__law_leaf = some ⟨oc__law_leaf, od__law_leaf, .func (PySem.W.fnOf "_law_leaf" "_law_leaf" (defArgs s__law_leaf) (defBody s__law_leaf) (defScope s__law_leaf) .none kV__law_leaf dc__law_leaf pm__law_leaf an__law_leaf cd__law_leaf ct__law_leaf), sl__law_leaf⟩) (c__law_leaf : PySem.W.codeIn K0 cd__law_leaf "_law_leaf" = true) (k__law_leaf : PySem.W.keepIn K0 (.ref f__law_leaf) = true)
    (a__law_statement : PySem.W.nsIn K0 mainGlobals "_law_statement" = some (some (.ref f__law_statement))) (l__law_statement : K0.lookup f__law_statement = some ⟨oc__law_statement, od__law_statement, .func (PySem.W.fnOf "_law_statement" "_law_statement" (defArgs s__law_statement) (defBody s__law_statement) (defScope s__law_statement) .none kV__law_statement dc__law_statement pm__law_statement an__law_statement cd__law_statement ct__law_statement), sl__law_statement⟩) (c__law_statement : PySem.W.codeIn K0 cd__law_statement "_law_statement" = true) (k__law_statement : PySem.W.keepIn K0 (.ref f__law_statement) = true)
    (a__law_some : PySem.W.nsIn K0 mainGlobals "_law_some" = some (some (.ref f__law_some))) (l__law_some : K0.lookup f__law_some = some ⟨oc__law_some, od__law_some, .func (PySem.W.fnOf "_law_some" "_law_some" (defArgs s__law_some) (defBody s__law_some) (defScope s__law_some) .none kV__law_some dc__law_some pm__law_some an__law_some cd__law_some ct__law_some), sl__law_some⟩) (c__law_some : PySem.W.codeIn K0 cd__law_some "_law_some" = true) (k__law_some : PySem.W.keepIn K0 (.ref f__law_some) = true)
    (a__law_worlds : PySem.W.nsIn K0 mainGlobals "_law_worlds" = some (some (.ref f__law_worlds))) (l__law_worlds : K0.lookup f__law_worlds = some ⟨oc__law_worlds, od__law_worlds, .func (PySem.W.fnOf "_law_worlds" "_law_worlds" (defArgs s__law_worlds) (defBody s__law_worlds) (defScope s__law_worlds) .none kV__law_worlds dc__law_worlds pm__law_worlds an__law_worlds cd__law_worlds ct__law_worlds), sl__law_worlds⟩) (c__law_worlds : PySem.W.codeIn K0 cd__law_worlds "_law_worlds" = true) (k__law_worlds : PySem.W.keepIn K0 (.ref f__law_worlds) = true)
    (a__law_copy : PySem.W.nsIn K0 mainGlobals "_law_copy" = some (some (.ref f__law_copy))) (l__law_copy : K0.lookup f__law_copy = some ⟨oc__law_copy, od__law_copy, .func (PySem.W.fnOf "_law_copy" "_law_copy" (defArgs s__law_copy) (defBody s__law_copy) (defScope s__law_copy) .none kV__law_copy dc__law_copy pm__law_copy an__law_copy cd__law_copy ct__law_copy), sl__law_copy⟩) (c__law_copy : PySem.W.codeIn K0 cd__law_copy "_law_copy" = true) (k__law_copy : PySem.W.keepIn K0 (.ref f__law_copy) = true)
    (a_within : PySem.W.nsIn K0 mainGlobals "within" = some (some (.ref f_within))) (l_within : K0.lookup f_within = some ⟨oc_within, od_within, .func (PySem.W.fnOf "within" "within" (defArgs s_within) (defBody s_within) (defScope s_within) .none kV_within dc_within pm_within an_within cd_within ct_within), sl_within⟩) (c_within : PySem.W.codeIn K0 cd_within "within" = true) (k_within : PySem.W.keepIn K0 (.ref f_within) = true)
    (a_pieces : PySem.W.nsIn K0 mainGlobals "pieces" = some (some (.ref f_pieces))) (l_pieces : K0.lookup f_pieces = some ⟨oc_pieces, od_pieces, .func (PySem.W.fnOf "pieces" "pieces" (defArgs s_pieces) (defBody s_pieces) (defScope s_pieces) .none kV_pieces dc_pieces pm_pieces an_pieces cd_pieces ct_pieces), sl_pieces⟩) (c_pieces : PySem.W.codeIn K0 cd_pieces "pieces" = true) (k_pieces : PySem.W.keepIn K0 (.ref f_pieces) = true)
    (a_folded : PySem.W.nsIn K0 mainGlobals "folded" = some (some (.ref f_folded))) (l_folded : K0.lookup f_folded = some ⟨oc_folded, od_folded, .func (PySem.W.fnOf "folded" "folded" (defArgs s_folded) (defBody s_folded) (defScope s_folded) .none kV_folded dc_folded pm_folded an_folded cd_folded ct_folded), sl_folded⟩) (c_folded : PySem.W.codeIn K0 cd_folded "folded" = true) (k_folded : PySem.W.keepIn K0 (.ref f_folded) = true)
    (a_letters : PySem.W.nsIn K0 mainGlobals "letters" = some (some (.ref f_letters))) (l_letters : K0.lookup f_letters = some ⟨oc_letters, od_letters, .func (PySem.W.fnOf "letters" "letters" (defArgs s_letters) (defBody s_letters) (defScope s_letters) .none kV_letters dc_letters pm_letters an_letters cd_letters ct_letters), sl_letters⟩) (c_letters : PySem.W.codeIn K0 cd_letters "letters" = true) (k_letters : PySem.W.keepIn K0 (.ref f_letters) = true)
    (a_later : PySem.W.nsIn K0 mainGlobals "later" = some (some (.ref f_later))) (l_later : K0.lookup f_later = some ⟨oc_later, od_later, .func (PySem.W.fnOf "later" "later" (defArgs s_later) (defBody s_later) (defScope s_later) .none kV_later dc_later pm_later an_later cd_later ct_later), sl_later⟩) (c_later : PySem.W.codeIn K0 cd_later "later" = true) (k_later : PySem.W.keepIn K0 (.ref f_later) = true)
    (a_where_letters : PySem.W.nsIn K0 mainGlobals "where_letters" = some (some (.ref f_where_letters))) (l_where_letters : K0.lookup f_where_letters = some ⟨oc_where_letters, od_where_letters, .func (PySem.W.fnOf "where_letters" "where_letters" (defArgs s_where_letters) (defBody s_where_letters) (defScope s_where_letters) .none kV_where_letters dc_where_letters pm_where_letters an_where_letters cd_where_letters ct_where_letters), sl_where_letters⟩) (c_where_letters : PySem.W.codeIn K0 cd_where_letters "where_letters" = true) (k_where_letters : PySem.W.keepIn K0 (.ref f_where_letters) = true)
    (a_where_then : PySem.W.nsIn K0 mainGlobals "where_then" = some (some (.ref f_where_then))) (l_where_then : K0.lookup f_where_then = some ⟨oc_where_then, od_where_then, .func (PySem.W.fnOf "where_then" "where_then" (defArgs s_where_then) (defBody s_where_then) (defScope s_where_then) .none kV_where_then dc_where_then pm_where_then an_where_then cd_where_then ct_where_then), sl_where_then⟩) (c_where_then : PySem.W.codeIn K0 cd_where_then "where_then" = true) (k_where_then : PySem.W.keepIn K0 (.ref f_where_then) = true)
    (a_known : PySem.W.nsIn K0 mainGlobals "known" = some (some (.ref f_known))) (l_known : K0.lookup f_known = some ⟨oc_known, od_known, .func (PySem.W.fnOf "known" "known" (defArgs s_known) (defBody s_known) (defScope s_known) .none kV_known dc_known pm_known an_known (.ref ca_known) ct_known), sl_known⟩) (c_known : PySem.W.codeIn K0 (.ref ca_known) "known" = true) (k_known : PySem.W.keepIn K0 (.ref f_known) = true) (e_known : K0.lookup ca_known = some ⟨.type "code", od2_known, .fields vs_known, sl2_known⟩) (x_known : CodeFs vs_known T_known) (n_known : ca_known ≠ T_known) (v_known : mainGlobals ≠ T_known)
    (a__law_later : PySem.W.nsIn K0 mainGlobals "_law_later" = some (some (.ref f__law_later))) (l__law_later : K0.lookup f__law_later = some ⟨oc__law_later, od__law_later, .func (PySem.W.fnOf "_law_later" "_law_later" (defArgs s__law_later) (defBody s__law_later) (defScope s__law_later) .none kV__law_later dc__law_later pm__law_later an__law_later cd__law_later ct__law_later), sl__law_later⟩) (c__law_later : PySem.W.codeIn K0 cd__law_later "_law_later" = true) (k__law_later : PySem.W.keepIn K0 (.ref f__law_later) = true)
    (a__law_truths : PySem.W.nsIn K0 mainGlobals "_law_truths" = some (some (.ref f__law_truths))) (l__law_truths : K0.lookup f__law_truths = some ⟨oc__law_truths, od__law_truths, .func (PySem.W.fnOf "_law_truths" "_law_truths" (defArgs s__law_truths) (defBody s__law_truths) (defScope s__law_truths) .none kV__law_truths dc__law_truths pm__law_truths an__law_truths cd__law_truths ct__law_truths), sl__law_truths⟩) (c__law_truths : PySem.W.codeIn K0 cd__law_truths "_law_truths" = true) (k__law_truths : PySem.W.keepIn K0 (.ref f__law_truths) = true)
    (a__law_alone : PySem.W.nsIn K0 mainGlobals "_law_alone" = some (some (.ref f__law_alone))) (l__law_alone : K0.lookup f__law_alone = some ⟨oc__law_alone, od__law_alone, .func (PySem.W.fnOf "_law_alone" "_law_alone" (defArgs s__law_alone) (defBody s__law_alone) (defScope s__law_alone) .none kV__law_alone dc__law_alone pm__law_alone an__law_alone cd__law_alone ct__law_alone), sl__law_alone⟩) (c__law_alone : PySem.W.codeIn K0 cd__law_alone "_law_alone" = true) (k__law_alone : PySem.W.keepIn K0 (.ref f__law_alone) = true)
    (a__law_long : PySem.W.nsIn K0 mainGlobals "_law_long" = some (some (.ref f__law_long))) (l__law_long : K0.lookup f__law_long = some ⟨oc__law_long, od__law_long, .func (PySem.W.fnOf "_law_long" "_law_long" (defArgs s__law_long) (defBody s__law_long) (defScope s__law_long) .none kV__law_long dc__law_long pm__law_long an__law_long cd__law_long ct__law_long), sl__law_long⟩) (c__law_long : PySem.W.codeIn K0 cd__law_long "_law_long" = true) (k__law_long : PySem.W.keepIn K0 (.ref f__law_long) = true)
    (a_law : PySem.W.nsIn K0 mainGlobals "law" = some (some (.ref f_law))) (l_law : K0.lookup f_law = some ⟨oc_law, od_law, .func (PySem.W.fnOf "law" "law" (defArgs s_law) (defBody s_law) (defScope s_law) .none kV_law dc_law pm_law an_law cd_law ct_law), sl_law⟩) (c_law : PySem.W.codeIn K0 cd_law "law" = true) (k_law : PySem.W.keepIn K0 (.ref f_law) = true)
    (g_PAIRED : PySem.W.nsIn K0 mainGlobals "PAIRED" = some (some (.ref aPAIRED))) (o_PAIRED : K0.lookup aPAIRED = some ⟨.type "tuple", od_PAIRED, .seq #[.str "both" tk_PAIRED_0, .str "one" tk_PAIRED_1, .str "then" tk_PAIRED_2] n_PAIRED, sl_PAIRED⟩)
    (z_len : PySem.W.nsIn K0 mainGlobals "len" = some none)
    (z_range : PySem.W.nsIn K0 mainGlobals "range" = some none)
    (z_list : PySem.W.nsIn K0 mainGlobals "list" = some none)
    (z_enumerate : PySem.W.nsIn K0 mainGlobals "enumerate" = some none)
    (z_sorted : PySem.W.nsIn K0 mainGlobals "sorted" = some none)
    (z_max : PySem.W.nsIn K0 mainGlobals "max" = some none)
    (z_zip : PySem.W.nsIn K0 mainGlobals "zip" = some none)
    (z_isinstance : PySem.W.nsIn K0 mainGlobals "isinstance" = some none)
    (z_bool : PySem.W.nsIn K0 mainGlobals "bool" = some none)
    (z_int : PySem.W.nsIn K0 mainGlobals "int" = some none)
    (z_reversed : PySem.W.nsIn K0 mainGlobals "reversed" = some none) :
    ∃ fd : FuncData, (∀ (s : Shared) (v : Value), BindsTo s fd ⟨[v], []⟩ [("_law_script", v)]) ∧ ∀ base : Heap, K.In base → base.Ns mainGlobals mg → FnOk l.prog w K mg base CX0 49 fa fd ["_law_script"] (sp_law14 T_known K) := by
  have e := hfa.symm.trans (PySem.W.mg_of X G a_law)
  cases e
  have l__law_mix := kle _ _ l__law_mix
  have c__law_mix := codeIn_le kle c__law_mix
  have k__law_mix := keepIn_fn l__law_mix
  have m__law_mix := PySem.W.mg_of X G a__law_mix
  have b__law_mix := (fun_mk (st := s__law_mix) l__law_mix c__law_mix k__law_mix).binds (ps := ["_law_cell_here", "_law_k"]) fun _ _ _ _ _ _ us hl => match us, hl with | [_, _], _ => rfl
  have F__law_mix := fun_mk (st := s__law_mix) l__law_mix c__law_mix k__law_mix
  have l__law_cell := kle _ _ l__law_cell
  have c__law_cell := codeIn_le kle c__law_cell
  have k__law_cell := keepIn_fn l__law_cell
  have m__law_cell := PySem.W.mg_of X G a__law_cell
  have b__law_cell := (fun_mk (st := s__law_cell) l__law_cell c__law_cell k__law_cell).binds (ps := ["_law_script", "_law_k"]) fun _ _ _ _ _ _ us hl => match us, hl with | [_, _], _ => rfl
  have F__law_cell := fun_mk (st := s__law_cell) l__law_cell c__law_cell k__law_cell
  have l__law_words := kle _ _ l__law_words
  have c__law_words := codeIn_le kle c__law_words
  have k__law_words := keepIn_fn l__law_words
  have m__law_words := PySem.W.mg_of X G a__law_words
  have b__law_words := (fun_mk (st := s__law_words) l__law_words c__law_words k__law_words).binds (ps := ["_law_cell_here", "_law_many"]) fun _ _ _ _ _ _ us hl => match us, hl with | [_, _], _ => rfl
  have F__law_words := fun_mk (st := s__law_words) l__law_words c__law_words k__law_words
  have l__law_leaf := kle _ _ l__law_leaf
  have c__law_leaf := codeIn_le kle c__law_leaf
  have k__law_leaf := keepIn_fn l__law_leaf
  have m__law_leaf := PySem.W.mg_of X G a__law_leaf
  have b__law_leaf := (fun_mk (st := s__law_leaf) l__law_leaf c__law_leaf k__law_leaf).binds (ps := ["_law_cell_here", "_law_words_here"]) fun _ _ _ _ _ _ us hl => match us, hl with | [_, _], _ => rfl
  have F__law_leaf := fun_mk (st := s__law_leaf) l__law_leaf c__law_leaf k__law_leaf
  have l__law_statement := kle _ _ l__law_statement
  have c__law_statement := codeIn_le kle c__law_statement
  have k__law_statement := keepIn_fn l__law_statement
  have m__law_statement := PySem.W.mg_of X G a__law_statement
  have b__law_statement := (fun_mk (st := s__law_statement) l__law_statement c__law_statement k__law_statement).binds (ps := ["_law_cell_here", "_law_size", "_law_words_here"]) fun _ _ _ _ _ _ us hl => match us, hl with | [_, _, _], _ => rfl
  have F__law_statement := fun_mk (st := s__law_statement) l__law_statement c__law_statement k__law_statement
  have l__law_some := kle _ _ l__law_some
  have c__law_some := codeIn_le kle c__law_some
  have k__law_some := keepIn_fn l__law_some
  have m__law_some := PySem.W.mg_of X G a__law_some
  have b__law_some := (fun_mk (st := s__law_some) l__law_some c__law_some k__law_some).binds (ps := ["_law_cell_here", "_law_old", "_law_words_here"]) fun _ _ _ _ _ _ us hl => match us, hl with | [_, _, _], _ => rfl
  have F__law_some := fun_mk (st := s__law_some) l__law_some c__law_some k__law_some
  have l__law_worlds := kle _ _ l__law_worlds
  have c__law_worlds := codeIn_le kle c__law_worlds
  have k__law_worlds := keepIn_fn l__law_worlds
  have m__law_worlds := PySem.W.mg_of X G a__law_worlds
  have b__law_worlds := (fun_mk (st := s__law_worlds) l__law_worlds c__law_worlds k__law_worlds).binds (ps := ["_law_script", "_law_start", "_law_most", "_law_words_here"]) fun _ _ _ _ _ _ us hl => match us, hl with | [_, _, _, _], _ => rfl
  have F__law_worlds := fun_mk (st := s__law_worlds) l__law_worlds c__law_worlds k__law_worlds
  have l__law_copy := kle _ _ l__law_copy
  have c__law_copy := codeIn_le kle c__law_copy
  have k__law_copy := keepIn_fn l__law_copy
  have m__law_copy := PySem.W.mg_of X G a__law_copy
  have b__law_copy := (fun_mk (st := s__law_copy) l__law_copy c__law_copy k__law_copy).binds (ps := ["_law_worlds_here"]) fun _ _ _ _ _ _ us hl => match us, hl with | [_], _ => rfl
  have F__law_copy := fun_mk (st := s__law_copy) l__law_copy c__law_copy k__law_copy
  have l_within := kle _ _ l_within
  have c_within := codeIn_le kle c_within
  have k_within := keepIn_fn l_within
  have m_within := PySem.W.mg_of X G a_within
  have b_within := (fun_mk (st := s_within) l_within c_within k_within).binds (ps := ["statement"]) fun _ _ _ _ _ _ us hl => match us, hl with | [_], _ => rfl
  have F_within := fun_mk (st := s_within) l_within c_within k_within
  have l_pieces := kle _ _ l_pieces
  have c_pieces := codeIn_le kle c_pieces
  have k_pieces := keepIn_fn l_pieces
  have m_pieces := PySem.W.mg_of X G a_pieces
  have b_pieces := (fun_mk (st := s_pieces) l_pieces c_pieces k_pieces).binds (ps := ["statement"]) fun _ _ _ _ _ _ us hl => match us, hl with | [_], _ => rfl
  have F_pieces := fun_mk (st := s_pieces) l_pieces c_pieces k_pieces
  have l_folded := kle _ _ l_folded
  have c_folded := codeIn_le kle c_folded
  have k_folded := keepIn_fn l_folded
  have m_folded := PySem.W.mg_of X G a_folded
  have b_folded := (fun_mk (st := s_folded) l_folded c_folded k_folded).binds (ps := ["statement", "of_simple", "of_pair"]) fun _ _ _ _ _ _ us hl => match us, hl with | [_, _, _], _ => rfl
  have F_folded := fun_mk (st := s_folded) l_folded c_folded k_folded
  have l_letters := kle _ _ l_letters
  have c_letters := codeIn_le kle c_letters
  have k_letters := keepIn_fn l_letters
  have m_letters := PySem.W.mg_of X G a_letters
  have b_letters := (fun_mk (st := s_letters) l_letters c_letters k_letters).binds (ps := ["statement"]) fun _ _ _ _ _ _ us hl => match us, hl with | [_], _ => rfl
  have F_letters := fun_mk (st := s_letters) l_letters c_letters k_letters
  have l_later := kle _ _ l_later
  have c_later := codeIn_le kle c_later
  have k_later := keepIn_fn l_later
  have m_later := PySem.W.mg_of X G a_later
  have b_later := (fun_mk (st := s_later) l_later c_later k_later).binds (ps := ["worlds", "world"]) fun _ _ _ _ _ _ us hl => match us, hl with | [_, _], _ => rfl
  have F_later := fun_mk (st := s_later) l_later c_later k_later
  have l_where_letters := kle _ _ l_where_letters
  have c_where_letters := codeIn_le kle c_where_letters
  have k_where_letters := keepIn_fn l_where_letters
  have m_where_letters := PySem.W.mg_of X G a_where_letters
  have b_where_letters := (fun_mk (st := s_where_letters) l_where_letters c_where_letters k_where_letters).binds (ps := ["worlds", "words"]) fun _ _ _ _ _ _ us hl => match us, hl with | [_, _], _ => rfl
  have F_where_letters := fun_mk (st := s_where_letters) l_where_letters c_where_letters k_where_letters
  have l_where_then := kle _ _ l_where_then
  have c_where_then := codeIn_le kle c_where_then
  have k_where_then := keepIn_fn l_where_then
  have m_where_then := PySem.W.mg_of X G a_where_then
  have b_where_then := (fun_mk (st := s_where_then) l_where_then c_where_then k_where_then).binds (ps := ["worlds", "first", "second"]) fun _ _ _ _ _ _ us hl => match us, hl with | [_, _, _], _ => rfl
  have F_where_then := fun_mk (st := s_where_then) l_where_then c_where_then k_where_then
  have m_known := PySem.W.mg_of X G a_known
  have l_known := kle _ _ l_known
  have c_known := codeIn_le kle c_known
  have k_known := keepIn_fn l_known
  have e_known := kle _ _ e_known
  have b_known := (fun_mk (st := s_known) l_known c_known k_known).binds (ps := ["worlds", "statement"]) fun _ _ _ _ _ _ us hl => match us, hl with | [_, _], _ => rfl
  have F_known := funT_mk (st := s_known) l_known c_known k_known (codeHd_of e_known x_known n_known)
  have hB_known := fun h k => hblt.at (nT T_known (by simp)) h k
  have l__law_later := kle _ _ l__law_later
  have c__law_later := codeIn_le kle c__law_later
  have k__law_later := keepIn_fn l__law_later
  have m__law_later := PySem.W.mg_of X G a__law_later
  have b__law_later := (fun_mk (st := s__law_later) l__law_later c__law_later k__law_later).binds (ps := ["_law_worlds_here", "_law_world"]) fun _ _ _ _ _ _ us hl => match us, hl with | [_, _], _ => rfl
  have F__law_later := fun_mk (st := s__law_later) l__law_later c__law_later k__law_later
  have l__law_truths := kle _ _ l__law_truths
  have c__law_truths := codeIn_le kle c__law_truths
  have k__law_truths := keepIn_fn l__law_truths
  have m__law_truths := PySem.W.mg_of X G a__law_truths
  have b__law_truths := (fun_mk (st := s__law_truths) l__law_truths c__law_truths k__law_truths).binds (ps := ["_law_found", "_law_size"]) fun _ _ _ _ _ _ us hl => match us, hl with | [_, _], _ => rfl
  have F__law_truths := fun_mk (st := s__law_truths) l__law_truths c__law_truths k__law_truths
  have l__law_alone := kle _ _ l__law_alone
  have c__law_alone := codeIn_le kle c__law_alone
  have k__law_alone := keepIn_fn l__law_alone
  have m__law_alone := PySem.W.mg_of X G a__law_alone
  have b__law_alone := (fun_mk (st := s__law_alone) l__law_alone c__law_alone k__law_alone).binds (ps := ["_law_worlds_here", "_law_some_here"]) fun _ _ _ _ _ _ us hl => match us, hl with | [_, _], _ => rfl
  have F__law_alone := fun_mk (st := s__law_alone) l__law_alone c__law_alone k__law_alone
  have l__law_long := kle _ _ l__law_long
  have c__law_long := codeIn_le kle c__law_long
  have k__law_long := keepIn_fn l__law_long
  have m__law_long := PySem.W.mg_of X G a__law_long
  have b__law_long := (fun_mk (st := s__law_long) l__law_long c__law_long k__law_long).binds (ps := ["_law_cell_here"]) fun _ _ _ _ _ _ us hl => match us, hl with | [_], _ => rfl
  have F__law_long := fun_mk (st := s__law_long) l__law_long c__law_long k__law_long
  have l_law := kle _ _ l_law
  have c_law := codeIn_le kle c_law
  have k_law := keepIn_fn l_law
  have F_law := fun_mk (st := s_law) l_law c_law k_law
  have m_PAIRED := PySem.W.mg_of X G g_PAIRED
  have o_PAIRED := kle _ _ o_PAIRED
  have t_PAIRED : ∀ H, SqT K H aPAIRED [.str "both", .str "one", .str "then"] := fun H => .inr ⟨_, _, _, o_PAIRED, rfl, rfl, (show 3 ≤ sizeLine by decide), .cons ⟨_, rfl⟩ (.cons ⟨_, rfl⟩ (.cons ⟨_, rfl⟩ (.nil)))⟩
  have m_len := PySem.W.mg_none_of X G z_len
  have m_range := PySem.W.mg_none_of X G z_range
  have m_list := PySem.W.mg_none_of X G z_list
  have m_enumerate := PySem.W.mg_none_of X G z_enumerate
  have m_sorted := PySem.W.mg_none_of X G z_sorted
  have m_max := PySem.W.mg_none_of X G z_max
  have m_zip := PySem.W.mg_none_of X G z_zip
  have m_isinstance := PySem.W.mg_none_of X G z_isinstance
  have m_bool := PySem.W.mg_none_of X G z_bool
  have m_int := PySem.W.mg_none_of X G z_int
  have m_reversed := PySem.W.mg_none_of X G z_reversed
  refine ⟨PySem.W.fnOf "law" "law" (defArgs s_law) (defBody s_law) (defScope s_law) .none kV_law dc_law pm_law an_law cd_law ct_law, fun s v => .of_eq rfl, fun base _ _ => ?_⟩
  have G__law_mix := ok__law_mix (P := l.prog) (w := w) (K := K) (mg := mg) (base := base) (k := 0) F__law_mix
  have G__law_cell := ok__law_cell (P := l.prog) (w := w) (K := K) (mg := mg) (base := base) (k := 1) F__law_cell (G__law_mix.mono (by decide)) m__law_mix k__law_mix b__law_mix m_len
  have G__law_words := ok__law_words (P := l.prog) (w := w) (K := K) (mg := mg) (base := base) (k := 0) F__law_words m_range
  have G__law_leaf := ok__law_leaf (P := l.prog) (w := w) (K := K) (mg := mg) (base := base) (k := 0) F__law_leaf m_len
  have G__law_statement := all__law_statement (P := l.prog) (w := w) (K := K) (mg := mg) (base := base) F__law_statement m__law_statement b__law_statement (fun k => ok__law_mix F__law_mix) m__law_mix k__law_mix b__law_mix (fun k => ok__law_leaf F__law_leaf m_len) m__law_leaf k__law_leaf b__law_leaf 47
  have G__law_some := ok__law_some (P := l.prog) (w := w) (K := K) (mg := mg) (base := base) (k := 1) F__law_some (G__law_mix.mono (by decide)) m__law_mix k__law_mix b__law_mix m_list m_enumerate m_sorted
  have G__law_worlds := ok__law_worlds (P := l.prog) (w := w) (K := K) (mg := mg) (base := base) (k := 2) F__law_worlds (G__law_mix.mono (by decide)) m__law_mix k__law_mix b__law_mix (G__law_some.mono (by decide)) m__law_some k__law_some b__law_some (G__law_cell.mono (by decide)) m__law_cell k__law_cell b__law_cell m_range m_max m_len
  have G__law_copy := ok__law_copy (P := l.prog) (w := w) (K := K) (mg := mg) (base := base) (k := 0) F__law_copy m_list
  have G_within := ok_within (P := l.prog) (w := w) (K := K) (mg := mg) (base := base) (k := 0) F_within m_PAIRED t_PAIRED
  have G_pieces := ok_pieces (P := l.prog) (w := w) (K := K) (mg := mg) (base := base) (k := 1) F_pieces (G_within.mono (by decide)) m_within k_within b_within
  have G_folded := True.intro
  have G_letters := ok_letters (P := l.prog) (w := w) (K := K) (mg := mg) (base := base) (k := 2) F_letters (G_pieces.mono (by decide)) m_pieces k_pieces b_pieces m_sorted
  have G_later := ok_later (P := l.prog) (w := w) (K := K) (mg := mg) (base := base) (k := 0) F_later m_range m_list m_len
  have G_where_letters := ok_where_letters (P := l.prog) (w := w) (K := K) (mg := mg) (base := base) (k := 0) F_where_letters m_enumerate m_len
  have G_where_then := ok_where_then (P := l.prog) (w := w) (K := K) (mg := mg) (base := base) (k := 0) F_where_then m_range m_zip m_len
  have G_known := ok_known (P := l.prog) (w := w) (K := K) (mg := mg) (base := base) (j := 2) F_known hB_known v_known m_folded k_folded b_folded (G_letters.mono (by decide)) m_letters k_letters b_letters (G_where_letters.mono (by decide)) m_where_letters k_where_letters b_where_letters m_where_then k_where_then b_where_then (fun K' base' kle => FnOk.mono (ok_where_then (P := l.prog) (w := w) (K := K') (mg := mg) (base := base') (k := 0) (F_where_then.le kle) m_range m_zip m_len) (by decide)) (fun K' kle => ⟨(F_where_then.le kle).kp, b_where_then.le kle⟩) (fun K' base' H0 AD G tv f1 f2 fd1 fd2 kle hA G1 k1 b1 G2 k2 b2 => ok_foldedL (P := l.prog) (w := w) (K := K') (mg := mg) (base := base') (k := 3) hA (F_folded.le kle) (FnOk.mono (ok_pieces (P := l.prog) (w := w) (K := K') (mg := mg) (base := base') (k := 1) (F_pieces.le kle) (ok_within (P := l.prog) (w := w) (K := K') (mg := mg) (base := base') (k := 0) (F_within.le kle) m_PAIRED (fun H => (t_PAIRED H).le kle)) m_within (F_within.le kle).kp (b_within.le kle)) (by decide)) m_pieces (F_pieces.le kle).kp (b_pieces.le kle) m_PAIRED (fun H => (t_PAIRED H).le kle) m_reversed G1 k1 b1 G2 k2 b2) m_len m_zip
  have G__law_later := ok__law_later (P := l.prog) (w := w) (K := K) (mg := mg) (base := base) (k := 0) F__law_later m_range m_len
  have G__law_truths := ok__law_truths (P := l.prog) (w := w) (K := K) (mg := mg) (base := base) (k := 0) F__law_truths m_isinstance m_list m_len m_bool
  have G__law_alone := ok__law_alone (P := l.prog) (w := w) (K := K) (mg := mg) (base := base) (k := 0) F__law_alone m_list
  have G__law_long := ok__law_long (P := l.prog) (w := w) (K := K) (mg := mg) (base := base) (k := 5) F__law_long (G__law_mix.mono (by decide)) m__law_mix k__law_mix b__law_mix (G_later.mono (by decide)) m_later k_later b_later (G_known.mono (by decide)) m_known k_known b_known m_range m_list m_max m_int
  have G_law := ok_law (P := l.prog) (w := w) (K := K) (mg := mg) (base := base) (k := 48) F_law (G__law_long.mono (by decide)) m__law_long k__law_long b__law_long (G__law_words.mono (by decide)) m__law_words k__law_words b__law_words (G__law_worlds.mono (by decide)) m__law_worlds k__law_worlds b__law_worlds (G__law_statement.mono (by decide)) m__law_statement k__law_statement b__law_statement (G__law_copy.mono (by decide)) m__law_copy k__law_copy b__law_copy (G__law_cell.mono (by decide)) m__law_cell k__law_cell b__law_cell (G__law_mix.mono (by decide)) m__law_mix k__law_mix b__law_mix (G_known.mono (by decide)) m_known k_known b_known (G__law_truths.mono (by decide)) m__law_truths k__law_truths b__law_truths (G__law_later.mono (by decide)) m__law_later k__law_later b__law_later (G__law_alone.mono (by decide)) m__law_alone k__law_alone b__law_alone m_range m_len
  exact G_law
theorem walk {T_known : Addr} {l : PySem.W.OpenLaw} {q : Program} {loose : List Str} {XP : (Str → Option Value) → Heap → Prop} {d : DefRec} {as : List Addr} {K : Params → PySem.W.Frag} {ee : ∀ (P : Params), as = List.map (fun x => x.fst) (K P)} (hn : l.most = some 63) (hdf : d.params.defaults = []) (hts : ∀ p ∈ [T_known], p ∉ as)
    (hct : ∀ (w : World) (h : Heap), (K w.params).In h → ∀ p ∈ [T_known], isCodeTable h p)
    (F : ∀ (w : World) (mg : Str → Option Value) (fa : Addr) (h : Heap) (K' : PySem.W.Frag) (bm : Addr), (K w.params).In h → h.Ns mainGlobals mg → mg d.name = some (.ref fa) → (∀ a o, (K w.params).lookup a = some o → K'.lookup a = some o) → BltK K' mg bm → (∀ p ∈ [T_known], bm ≠ p) →
      ∃ fd : FuncData, (∀ (s : Shared) (u : Value), BindsTo s fd ⟨[u], []⟩ [("_law_script", u)]) ∧ ∀ base : Heap, K'.In base → base.Ns mainGlobals mg → FnOk l.prog w K' mg base CX0 49 fa fd ["_law_script"] (sp_law14 T_known K')) :
    PySem.W.WalkO q loose XP (PySem.W.kmHook K as ee [T_known]).says l.row.toRowW d [] (fun f vs => PySem.call f vs) :=
  L2.walk_ofT (n := 63) (k := 49) (x := "_law_script") (CX := CX0) (sp := fun K => sp_law14 T_known K) hn (by decide) hdf ⟨rfl, by decide, by decide⟩ hts hct F (fun _ _ a ns hl hO hS => ⟨a, ns, rfl, hS, hl, TabOk.new (hO _ (by simp)), fun _ => rfl⟩) fun _ _ _ _ z => z
end KLaw
open PySem PySem.W PyProof.Rows
set_option maxRecDepth 100000 in
set_option maxHeartbeats 0 in
theorem PySem.Challenge.cw_ken_k14_known_stays_holds : PySem.Challenge.rw_ken_k14_known_stays.Holds := by
  w_on; o_law; k_head; (case hw => w_witness2)
  k_fill
  refine KLaw.walk (l := PySem.Challenge.rw_ken_k14_known_stays) rfl rfl (by decide) ?T ?F
  case T =>
    intro w h KX p hp
    obtain rfl : p = _ := List.mem_singleton.mp hp
    refine' L2.isTable_of (x := "known") KX ?ta ?tl ?te ?tv
    (case ta => k_is)
    (case tl => k_is)
    (case te => k_is)
    (case tv => rfl)
  case F =>
    intro w mg fa h K' bm KX G hmg kle hb nT
    refine' KLaw.all_mk KX G hmg kle hb nT ?a__law_mix ?l__law_mix ?c__law_mix ?k__law_mix ?a__law_cell ?l__law_cell ?c__law_cell ?k__law_cell ?a__law_words ?l__law_words ?c__law_words ?k__law_words ?a__law_leaf ?l__law_leaf ?c__law_leaf ?k__law_leaf ?a__law_statement ?l__law_statement ?c__law_statement ?k__law_statement ?a__law_some ?l__law_some ?c__law_some ?k__law_some ?a__law_worlds ?l__law_worlds ?c__law_worlds ?k__law_worlds ?a__law_copy ?l__law_copy ?c__law_copy ?k__law_copy ?a_within ?l_within ?c_within ?k_within ?a_pieces ?l_pieces ?c_pieces ?k_pieces ?a_folded ?l_folded ?c_folded ?k_folded ?a_letters ?l_letters ?c_letters ?k_letters ?a_later ?l_later ?c_later ?k_later ?a_where_letters ?l_where_letters ?c_where_letters ?k_where_letters ?a_where_then ?l_where_then ?c_where_then ?k_where_then ?a_known ?l_known ?c_known ?k_known ?e_known ?x_known ?n_known ?v_known ?a__law_later ?l__law_later ?c__law_later ?k__law_later ?a__law_truths ?l__law_truths ?c__law_truths ?k__law_truths ?a__law_alone ?l__law_alone ?c__law_alone ?k__law_alone ?a__law_long ?l__law_long ?c__law_long ?k__law_long ?a_law ?l_law ?c_law ?k_law ?g_PAIRED ?o_PAIRED ?z_len ?z_range ?z_list ?z_enumerate ?z_sorted ?z_max ?z_zip ?z_isinstance ?z_bool ?z_int ?z_reversed
    (case a__law_mix => k_is)
    (case l__law_mix => k_is)
    (case c__law_mix => k_is)
    (case k__law_mix => k_is)
    (case a__law_cell => k_is)
    (case l__law_cell => k_is)
    (case c__law_cell => k_is)
    (case k__law_cell => k_is)
    (case a__law_words => k_is)
    (case l__law_words => k_is)
    (case c__law_words => k_is)
    (case k__law_words => k_is)
    (case a__law_leaf => k_is)
    (case l__law_leaf => k_is)
    (case c__law_leaf => k_is)
    (case k__law_leaf => k_is)
    (case a__law_statement => k_is)
    (case l__law_statement => k_is)
    (case c__law_statement => k_is)
    (case k__law_statement => k_is)
    (case a__law_some => k_is)
    (case l__law_some => k_is)
    (case c__law_some => k_is)
    (case k__law_some => k_is)
    (case a__law_worlds => k_is)
    (case l__law_worlds => k_is)
    (case c__law_worlds => k_is)
    (case k__law_worlds => k_is)
    (case a__law_copy => k_is)
    (case l__law_copy => k_is)
    (case c__law_copy => k_is)
    (case k__law_copy => k_is)
    (case a_within => k_is)
    (case l_within => k_is)
    (case c_within => k_is)
    (case k_within => k_is)
    (case a_pieces => k_is)
    (case l_pieces => k_is)
    (case c_pieces => k_is)
    (case k_pieces => k_is)
    (case a_folded => k_is)
    (case l_folded => k_is)
    (case c_folded => k_is)
    (case k_folded => k_is)
    (case a_letters => k_is)
    (case l_letters => k_is)
    (case c_letters => k_is)
    (case k_letters => k_is)
    (case a_later => k_is)
    (case l_later => k_is)
    (case c_later => k_is)
    (case k_later => k_is)
    (case a_where_letters => k_is)
    (case l_where_letters => k_is)
    (case c_where_letters => k_is)
    (case k_where_letters => k_is)
    (case a_where_then => k_is)
    (case l_where_then => k_is)
    (case c_where_then => k_is)
    (case k_where_then => k_is)
    (case a_known => k_is)
    (case l_known => k_is)
    (case c_known => k_is)
    (case k_known => k_is)
    (case e_known => k_is)
    (case x_known => exact ⟨rfl, rfl, ⟨_, _, rfl⟩, ⟨_, _, rfl⟩, ⟨_, rfl⟩, ⟨_, _, rfl⟩⟩)
    (case n_known => decide)
    (case v_known => decide)
    (case a__law_later => k_is)
    (case l__law_later => k_is)
    (case c__law_later => k_is)
    (case k__law_later => k_is)
    (case a__law_truths => k_is)
    (case l__law_truths => k_is)
    (case c__law_truths => k_is)
    (case k__law_truths => k_is)
    (case a__law_alone => k_is)
    (case l__law_alone => k_is)
    (case c__law_alone => k_is)
    (case k__law_alone => k_is)
    (case a__law_long => k_is)
    (case l__law_long => k_is)
    (case c__law_long => k_is)
    (case k__law_long => k_is)
    (case a_law => k_is)
    (case l_law => k_is)
    (case c_law => k_is)
    (case k_law => k_is)
    (case g_PAIRED => k_is)
    (case o_PAIRED => k_is)
    (case z_len => k_is)
    (case z_range => k_is)
    (case z_list => k_is)
    (case z_enumerate => k_is)
    (case z_sorted => k_is)
    (case z_max => k_is)
    (case z_zip => k_is)
    (case z_isinstance => k_is)
    (case z_bool => k_is)
    (case z_int => k_is)
    (case z_reversed => k_is)
