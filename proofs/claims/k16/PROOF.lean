import PyProof.Rows.All
import Wide.All
import OpenK.AllK
import Wide.FinOn
import Lean
import PyProof.EqAt
import PyProof.EqKinds
import PyProof.TupleCall
import PyProof.NeData
import PyProof.P3In
import PyProof.ZipIter
import PyProof.Rows.ZipGen
import KE.KRevIter
import PyProof.CollectIter
import PyProof.ListRange
import PyProof.EnumMake
import PyProof.EnumFor
import PyProof.EnumStmt
import PyProof.Rows.SortStr
import KE.KDictList
import KE.KSortTup
import KE.KSortAsk
import PySem.Challenge.RW_ken_k16_row_against
import PyProof.SumAny
import PyProof.WalksMore
import KE.KTupSum
import PyProof.FactsAll.set
import PyProof.Rows.Range3
import PyProof.Rows.SetFrom
import PyProof.FactsAll.tuple_2
import PyProof.Rows.SeqMore2
set_option Elab.async false
set_option linter.all false
set_option maxRecDepth 100000
namespace L2
open PySem PySem.Spec PyProof.Rows
abbrev Key := Sum Int Str
def keyIs : Key → Value → Bool
  | .inl k, v => Value.isInt k v
  | .inr x, v => Value.isStrOf x v
def keyH (w : World) : Key → Int
  | .inl k => hashInt k
  | .inr x => hashStr w x
theorem keyIs_shape : ∀ {k : Key} {v : Value}, keyIs k v = true → (∃ i t, k = Sum.inl i ∧ v = Value.int i t) ∨ (∃ x t, k = Sum.inr x ∧ v = Value.str x t)
  | .inl i, v, h => by
    obtain ⟨t, e⟩ := Value.isInt_shape (k := i) (v := v) h
    exact .inl ⟨i, t, rfl, e⟩
  | .inr x, v, h => by
    obtain ⟨t, e⟩ := Value.isStrOf_shape (x := x) (v := v) h
    exact .inr ⟨x, t, rfl, e⟩
theorem keyIs_int (i : Int) (t : Tok) : keyIs (.inl i) (.int i t) = true := by simp [keyIs, Value.isInt]
theorem keyIs_str (x : Str) (t : Tok) : keyIs (.inr x) (.str x t) = true := by simp [keyIs, Value.isStrOf]
theorem key_ll (a b : Int) : decide ((Sum.inl a : Key) = Sum.inl b) = (a == b) := by
  by_cases e : a = b
  · subst e; simp
  · have h : ¬ (Sum.inl a : Key) = Sum.inl b := fun q => e (Sum.inl.inj q)
    rw [decide_eq_false h]
    exact (beq_eq_false_iff_ne.mpr e).symm
theorem key_rr (a b : Str) : decide ((Sum.inr a : Key) = Sum.inr b) = decide (a = b) := by
  by_cases e : a = b
  · subst e; simp
  · have h : ¬ (Sum.inr a : Key) = Sum.inr b := fun q => e (Sum.inr.inj q)
    rw [decide_eq_false h, decide_eq_false e]
theorem key_lr (a : Int) (b : Str) : decide ((Sum.inl a : Key) = Sum.inr b) = false := decide_eq_false (fun q => nomatch q)
theorem key_rl (a : Str) (b : Int) : decide ((Sum.inr a : Key) = Sum.inl b) = false := decide_eq_false (fun q => nomatch q)
def mixKind (prog : Program) (w : World) : PySem.KeyKind prog w Key where
  is := keyIs
  hash := keyH w
  inj := fun v a b ha hb => by
    rcases keyIs_shape ha with ⟨i, t, rfl, rfl⟩ | ⟨x, t, rfl, rfl⟩
    · rcases keyIs_shape hb with ⟨j, u, rfl, e⟩ | ⟨y, u, rfl, e⟩
      · injection e with e1 _; rw [e1]
      · exact nomatch e
    · rcases keyIs_shape hb with ⟨j, u, rfl, e⟩ | ⟨y, u, rfl, e⟩
      · exact nomatch e
      · injection e with e1 _; rw [e1]
  byValue := fun k v h => by
    rcases keyIs_shape h with ⟨i, t, rfl, rfl⟩ | ⟨x, t, rfl, rfl⟩ <;> rfl
  pyHash := fun hv h => by
    rcases keyIs_shape hv with ⟨i, t, rfl, rfl⟩ | ⟨x, t, rfl, rfl⟩
    · exact wpAny_pyHash_int h
    · exact wpAny_pyHash_str h
  eqBool := fun hu hv h => by
    rcases keyIs_shape hu with ⟨i, t, rfl, rfl⟩ | ⟨x, t, rfl, rfl⟩
    · rcases keyIs_shape hv with ⟨j, u, rfl, rfl⟩ | ⟨y, u, rfl, rfl⟩
      · rw [key_ll] at h; exact wpAny_eqBool_int h
      · rw [key_lr] at h; exact SeqAt.EqAt.int_str i t y u _ _ _ _ h
    · rcases keyIs_shape hv with ⟨j, u, rfl, rfl⟩ | ⟨y, u, rfl, rfl⟩
      · rw [key_rl] at h; exact SeqAt.EqAt.str_int x t j u _ _ _ _ h
      · rw [key_rr] at h; exact wpAny_eqBool_str h
  «strs» := fun k x t v h => by
    rcases keyIs_shape h with ⟨i, u, rfl, e⟩ | ⟨y, u, rfl, e⟩
    · exact nomatch e
    · injection e with e1 _
      subst e1
      cases v <;> rfl
theorem mixKind_int (prog : Program) (w : World) (i : Int) (t : Tok) : (mixKind prog w).is (.inl i) (.int i t) = true := keyIs_int i t
theorem mixKind_str (prog : Program) (w : World) (x : Str) (t : Tok) : (mixKind prog w).is (.inr x) (.str x t) = true := keyIs_str x t
end L2
namespace L2
open PySem PySem.Spec PyProof.Rows
inductive V where
  | non | bl (b : Bool) | int (i : Int) | str (x : Str) | byt (b : Array UInt8) | flt (b : UInt64) | ref (a : Addr) | ty (n : String)
  deriving DecidableEq
def RelV : V → Value → Prop
  | .non, u => u = Value.none
  | .bl b, u => u = Value.bool b
  | .int i, u => ∃ t, u = Value.int i t
  | .str x, u => ∃ t, u = Value.str x t
  | .byt b, u => ∃ t, u = Value.bytes b t
  | .flt b, u => ∃ t, u = Value.float b t
  | .ref a, u => u = Value.ref a
  | .ty n, u => u = Value.type n
abbrev Vals : List V → List Value → Prop := Paired RelV
theorem Vals.length {xs : List V} {us : List Value} (r : Vals xs us) : xs.length = us.length := Paired.length r
theorem Vals.get : ∀ {xs : List V} {us : List Value} {i : Nat} {x : V}, Vals xs us → xs[i]? = some x → ∃ u, us[i]? = some u ∧ RelV x u
  | _, _, _, _, .nil, e => by simp at e
  | _, _, 0, _, .cons r _, e => by simp at e; subst e; exact ⟨_, rfl, r⟩
  | _, _, i + 1, x, .cons _ t, e => by
    obtain ⟨u, h1, h2⟩ := Vals.get (i := i) (x := x) t (by simpa using e)
    exact ⟨u, by simpa using h1, h2⟩
theorem Vals.set {x : V} {u : Value} (r : RelV x u) : ∀ {xs : List V} {us : List Value} (i : Nat), Vals xs us → Vals (xs.set i x) (us.set i u)
  | _, _, _, .nil => .nil
  | _, _, 0, .cons _ t => .cons r t
  | _, _, i + 1, .cons q t => .cons q (Vals.set r i t)
theorem Vals.append : ∀ {xs ys : List V} {us ws : List Value}, Vals xs us → Vals ys ws → Vals (xs ++ ys) (us ++ ws)
  | _, _, _, _, .nil, s => s
  | _, _, _, _, .cons r t, s => .cons r (Vals.append t s)
theorem Vals.take : ∀ {xs : List V} {us : List Value} (n : Nat), Vals xs us → Vals (xs.take n) (us.take n)
  | _, _, 0, _ => .nil
  | _, _, _ + 1, .nil => .nil
  | _, _, n + 1, .cons r t => .cons r (Vals.take n t)
theorem Vals.drop : ∀ {xs : List V} {us : List Value} (n : Nat), Vals xs us → Vals (xs.drop n) (us.drop n)
  | _, _, 0, r => r
  | _, _, _ + 1, .nil => .nil
  | _, _, n + 1, .cons _ t => Vals.drop n t
def RelO : Option V → Option Value → Prop
  | some v, some u => RelV v u
  | none, none => True
  | _, _ => False
def KV {κ : Type} : List (κ × V) → List (κ × Value) → Prop := Paired fun (p : κ × V) (q : κ × Value) => p.1 = q.1 ∧ RelV p.2 q.2
def kV : Key → V
  | .inl i => .int i
  | .inr x => .str x
inductive HO where
  /-- a list -/
  | lst (xs : List V)
  /-- a tuple (never changes) -/
  | tup (xs : List V)
  /-- a dict whose keys are ints and texts; one whose keys are tuples of ints and texts (the empty one is both) -/
  | dK (kvs : List (Key × V)) | dT (kvs : List (List Key × V))
  /-- a set of ints: its members, its size -/
  | set (S : Int → Bool) (n : Nat)
  /-- an instance of the class at C, its dict at dx, its attributes -/
  | ins (C dx : Addr) (fs : List (Str × V))
  /-- the dict of the instance at x -/
  | own (x : Addr)
  /-- the dict of an exception -/
  | xd (fs : List (Str × V))
  /-- a bound method, f of x -/
  | met (f x : Addr)
  /-- a range object lo, lo + 1, .. below hi -/
  | rng (lo hi : Int)
  /-- a thing that is known to the object (the script; a dict while a loop walks it): read, never written while it is so -/
  | frz (o : Obj) (u : HO)
  /-- a code object's table -/
  | tbl (ps : Array Value)
  /-- any other thing, by what is true of its one object (a def of one's own: SetO a S n := HO.ext fun h => ..) -/
  | ext (φ : Heap → Prop)
abbrev Hp := Addr → Option HO
def upd (H : Hp) (a : Addr) (o : HO) : Hp := fun b => if b = a then some o else H b
theorem upd_same {H : Hp} {a : Addr} {o : HO} : upd H a o a = some o := by unfold upd; rw [if_pos rfl]
theorem upd_ne {H : Hp} {a b : Addr} {o : HO} (h : b ≠ a) : upd H a o b = H b := by unfold upd; rw [if_neg h]
theorem upd_upd {H : Hp} {a : Addr} {o u : HO} : upd (upd H a o) a u = upd H a u := by
  funext b; unfold upd; split <;> rfl
theorem ne_of {H : Hp} {a b : Addr} {o u : HO} (h : H a = some o) (h' : H b = some u) (d : o ≠ u) : a ≠ b := by
  intro e; subst e; rw [h] at h'; exact d (Option.some.inj h')
theorem ne_of_none {H : Hp} {a b : Addr} {o : HO} (h : H a = some o) (h' : H b = none) : a ≠ b := by
  intro e; subst e; rw [h] at h'; cases h'
section
variable (P : Program) (w : World)
def ObjOk (H : Hp) (h : Heap) (a : Addr) : HO → Prop
  | .lst xs => xs.length ≤ sizeLine ∧ ∃ (its : List Value) (n : Nat), Vals xs its ∧ h.get? a = some { cls := .type "list", data := .seq its.toArray n }
  | .tup xs => xs.length ≤ sizeLine ∧ ∃ its : List Value, Vals xs its ∧ IsTup h a its.toArray
  | .dK kvs => kvs.length ≤ sizeLine ∧ (a == sysModules) = false ∧ ∃ vs, KV kvs vs ∧ h.DictOf (mixKind P w) a vs
  | .dT kvs => kvs.length ≤ sizeLine ∧ (a == sysModules) = false ∧ ∃ xs : List (List Key × Addr × Value),
      Paired (fun (p : List Key × V) (q : List Key × Addr × Value) => p.1 = q.1 ∧ H q.2.1 = some (.tup (p.1.map kV)) ∧ RelV p.2 q.2.2) kvs xs ∧
      ∃ o es ep, h.get? a = some o ∧ o.ExactDict ∧ o.data = .dict es ep ∧ es.toList = xs.map (entryOfKey (tupleKind (mixKind P w))) ∧ (xs.map (·.1)).Nodup
  | .set S n => h.SetOf (intKind P w) a S n
  | .ins C dx fs => H dx = some (.own a) ∧ fs.length ≤ 1000 ∧ dx ≠ a ∧ h.get? a = some (PySem.W.instObj C dx) ∧
      ∃ mA, h.Ns1 dx mA ∧ (∀ f, RelO (fs.lookup f) (mA f)) ∧ PySem.Within mA (fs.map (·.1))
  | .own _ => ∃ o, h.get? a = some o
  | .xd fs => ∃ mA, h.Ns1 a mA ∧ ∀ f, RelO (fs.lookup f) (mA f)
  | .rng lo hi => ∃ t u v, h.get? a = some { cls := .type "range", data := .fields #[.int lo t, .int hi u, .int 1 v] }
  | .frz o u => h.get? a = some o ∧ ObjOk H h a u
  | .tbl ps => h.get? a = some { cls := .none, data := .fields ps }
  | .met f x => h.get? a = some (PySem.W.methodObj (.ref f) (.ref x))
  | .ext φ => φ h ∧ (∃ o, h.get? a = some o) ∧ ∀ h1 h2 : Heap, φ h1 → (∀ o, h1.get? a = some o → h2.get? a = some o) → φ h2
def HOk (H : Hp) (h : Heap) : Prop := ∀ a o, H a = some o → ObjOk P w H h a o
end
section
variable {P : Program} {w : World} {H H' : Hp} {h h' : Heap} {a : Addr} {o : HO}
theorem ObjOk.lt (x : ObjOk P w H h a o) : a < h.objs.size := by
  cases o with
  | lst xs => obtain ⟨_, _, _, _, e⟩ := x; exact Heap.lt_size e
  | tup xs => obtain ⟨_, _, _, p⟩ := x; exact p.lt
  | dK kvs => obtain ⟨_, _, _, _, o, _, _, e, _⟩ := x; exact Heap.lt_size e
  | dT kvs => obtain ⟨_, _, _, _, o, _, _, e, _⟩ := x; exact Heap.lt_size e
  | set S n => obtain ⟨o, _, _, _, e, _⟩ := x; exact Heap.lt_size e
  | ins C dx fs => obtain ⟨_, _, _, e, _⟩ := x; exact Heap.lt_size e
  | own y => obtain ⟨_, e⟩ := x; exact Heap.lt_size e
  | xd fs => obtain ⟨_, ⟨_, _, _, e, _⟩, _⟩ := x; exact Heap.lt_size e
  | rng lo hi => obtain ⟨_, _, _, e⟩ := x; exact Heap.lt_size e
  | frz ob u => obtain ⟨e, _⟩ := x; exact Heap.lt_size e
  | tbl ps => exact Heap.lt_size (show h.get? a = some _ from x)
  | met f y => exact Heap.lt_size (show h.get? a = some _ from x)
  | ext φ => obtain ⟨_, ⟨_, e⟩, _⟩ := x; exact Heap.lt_size e
theorem Paired.mapP {α β : Type} {F G : α → β → Prop} : ∀ {l₁ : List α} {l₂ : List β}, Paired F l₁ l₂ → (∀ a b, F a b → G a b) → Paired G l₁ l₂
  | _, _, .nil, _ => .nil
  | _, _, .cons r t, f => .cons (f _ _ r) (Paired.mapP t f)
theorem ObjOk.stay (x : ObjOk P w H h a o) (k : ∀ b u, (b = a ∨ H b = some (.own a)) → h.get? b = some u → h'.get? b = some u)
    (ho : ∀ b, H b = some (.own a) → H' b = some (.own a)) (ht : ∀ b xs, H b = some (.tup xs) → H' b = some (.tup xs)) : ObjOk P w H' h' a o := by
  induction o with
  | lst xs => obtain ⟨z, its, n, r, e⟩ := x; exact ⟨z, its, n, r, k _ _ (.inl rfl) e⟩
  | tup xs => obtain ⟨z, its, r, ob, e, c⟩ := x; exact ⟨z, its, r, ob, k _ _ (.inl rfl) e, c⟩
  | dK kvs => obtain ⟨z, y, vs, r, ob, es, ep, e, c⟩ := x; exact ⟨z, y, vs, r, ob, es, ep, k _ _ (.inl rfl) e, c⟩
  | dT kvs =>
    obtain ⟨z, y, xs, r, ob, es, ep, e, c⟩ := x
    exact ⟨z, y, xs, Paired.mapP r fun p q z => ⟨z.1, ht _ _ z.2.1, z.2.2⟩, ob, es, ep, k _ _ (.inl rfl) e, c⟩
  | set S n => obtain ⟨ob, es, ep, t, e, c⟩ := x; exact ⟨ob, es, ep, t, k _ _ (.inl rfl) e, c⟩
  | ins C dx fs =>
    obtain ⟨d, z, ne, e, mA, ⟨od, es, ep, e2, c⟩, r⟩ := x
    exact ⟨ho _ d, z, ne, k _ _ (.inl rfl) e, mA, ⟨od, es, ep, k _ _ (.inr d) e2, c⟩, r⟩
  | own y => obtain ⟨ob, e⟩ := x; exact ⟨ob, k _ _ (.inl rfl) e⟩
  | xd fs => obtain ⟨mA, ⟨od, es, ep, e, c⟩, r⟩ := x; exact ⟨mA, ⟨od, es, ep, k _ _ (.inl rfl) e, c⟩, r⟩
  | rng lo hi => obtain ⟨t, u, v, e⟩ := x; exact ⟨t, u, v, k _ _ (.inl rfl) e⟩
  | frz ob u ih => obtain ⟨e, q⟩ := x; exact ⟨k _ _ (.inl rfl) e, ih q⟩
  | tbl ps =>
    have e : h.get? a = some { cls := .none, data := .fields ps } := x
    show h'.get? a = some { cls := .none, data := .fields ps }
    exact k a _ (.inl rfl) e
  | met f y =>
    have e : h.get? a = some (PySem.W.methodObj (.ref f) (.ref y)) := x
    show h'.get? a = some (PySem.W.methodObj (.ref f) (.ref y))
    exact k a _ (.inl rfl) e
  | ext φ => obtain ⟨p, ⟨o, e⟩, st⟩ := x; exact ⟨st _ _ p fun o q => k _ _ (.inl rfl) q, ⟨o, k _ _ (.inl rfl) e⟩, st⟩
theorem HOk.lt (x : HOk P w H h) (e : H a = some o) : a < h.objs.size := (x a o e).lt
theorem HOk.fresh (x : HOk P w H h) (e : h.objs.size ≤ a) : H a = none := by
  cases q : H a with
  | none => rfl
  | some u => exact absurd (Nat.lt_of_lt_of_le (x.lt q) e) (Nat.lt_irrefl _)
theorem HOk.kept (x : HOk P w H h) (k : ∀ b u, h.get? b = some u → h'.get? b = some u) : HOk P w H h' := fun a o e =>
  (x a o e).stay (fun b u _ q => k b u q) (fun _ q => q) fun _ _ q => q
theorem HOk.laid (x : HOk P w H h) (k : ∀ b u, h.get? b = some u → h'.get? b = some u) (hp : h.objs.size ≤ a) (new : ObjOk P w (upd H a o) h' a o) : HOk P w (upd H a o) h' := fun b u e => by
  have hn := x.fresh hp
  by_cases hb : b = a
  · subst hb; rw [upd_same] at e; cases e; exact new
  · rw [upd_ne hb] at e
    exact (x b u e).stay (fun c v _ q => k c v q) (fun c q => by rw [upd_ne (ne_of_none q hn)]; exact q) fun c xs q => by rw [upd_ne (ne_of_none q hn)]; exact q
end
def Rd (H : Hp) (a : Addr) (u : HO) : Prop := H a = some u ∨ ∃ o, H a = some (.frz o u)
theorem Rd.of {H : Hp} {a : Addr} {u : HO} (h : H a = some u) : Rd H a u := .inl h
theorem Rd.ok {P : Program} {w : World} {H : Hp} {h : Heap} {a : Addr} {u : HO} (r : Rd H a u) (x : HOk P w H h) : ObjOk P w H h a u := by
  rcases r with r | ⟨o, r⟩
  · exact x a u r
  · obtain ⟨_, q⟩ := x a _ r
    exact q
def Mut : Option HO → Prop
  | some (.lst _) => True
  | some (.dK _) => True
  | some (.dT _) => True
  | some (.set _ _) => True
  | some (.ins _ _ _) => True
  | some (.ext _) => True
  | _ => False
section
variable {P : Program} {w : World} {H : Hp} {h h' : Heap} {x e : Addr} {o' : HO}
theorem HOk.write (ok : HOk P w H h) (mu : Mut (H x)) (he : e = x ∨ H e = some (.own x)) (k : ∀ b u, b ≠ e → h.get? b = some u → h'.get? b = some u) (heo : ∃ u, h'.get? e = some u)
    (new : ObjOk P w (upd H x o') h' x o') : HOk P w (upd H x o') h' := fun b u q => by
  have nown : ∀ c y, H c = some (.own y) → c ≠ x := fun c y r z => by subst z; rw [r] at mu; exact mu
  have ntup : ∀ c xs, H c = some (.tup xs) → c ≠ x := fun c xs r z => by subst z; rw [r] at mu; exact mu
  by_cases hb : b = x
  · subst hb; rw [upd_same] at q; cases q; exact new
  · rw [upd_ne hb] at q
    by_cases hbe : b = e
    · have q' : H b = some (.own x) := by
        rcases he with z | z
        · exact absurd (hbe.trans z) hb
        · rw [hbe]; exact z
      rw [q] at q'; cases q'
      obtain ⟨v, hv⟩ := heo
      exact ⟨v, by rw [hbe]; exact hv⟩
    · refine (ok b u q).stay (fun c v hc r => k c v ?_ r) (fun c r => by rw [upd_ne (nown c b r)]; exact r) fun c xs r => by rw [upd_ne (ntup c xs r)]; exact r
      rcases hc with rfl | hc
      · exact hbe
      · rintro rfl
        rcases he with z | z
        · exact nown c b hc z
        · rw [hc] at z; cases z; exact hb rfl
end
structure Un (fs ex : List Addr) (H H' : Hp) (h h' : Heap) : Prop where
  keep : ∀ b o, h.get? b = some o → H b = none → b ∉ fs → b ∉ ex → h'.get? b = some o
  slot : ∀ b o, h.get? b = some o → H b = none → b ∈ fs → b ∉ ex → ∃ sl, h'.get? b = some { o with slots := sl }
  free : ∀ b o, h.get? b = some o → H b = none → b ∉ ex → H' b = none
  there : ∀ b o, h.get? b = some o → b ∉ ex → ∃ o', h'.get? b = some o'
  tups : ∀ b xs, H b = some (.tup xs) → H' b = some (.tup xs)
  frzs : ∀ b o u, H b = some (.frz o u) → H' b = some (.frz o u)
  tbls : ∀ b ps, H b = some (.tbl ps) → ∃ more, H' b = some (.tbl (ps ++ more))
section
variable {fs fs' ex ex' : List Addr} {H H1 H2 : Hp} {h h1 h2 h' : Heap} {a x e : Addr} {o : HO}
theorem Un.any (u : Un fs ex H H1 h h1) {b : Addr} {ob : Obj} (q : h.get? b = some ob) (n : H b = none) (hx : b ∉ ex) : ∃ sl, h1.get? b = some { ob with slots := sl } := by
  by_cases hb : b ∈ fs
  · exact u.slot b ob q n hb hx
  · exact ⟨ob.slots, u.keep b ob q n hb hx⟩
theorem Un.trans (a : Un fs ex H H1 h h1) (b : Un fs ex H1 H2 h1 h2) : Un fs ex H H2 h h2 where
  keep := fun c ob q n hc hx => b.keep c ob (a.keep c ob q n hc hx) (a.free c ob q n hx) hc hx
  slot := fun c ob q n hc hx => by
    obtain ⟨sl, e1⟩ := a.slot c ob q n hc hx
    obtain ⟨sl', e2⟩ := b.slot c _ e1 (a.free c ob q n hx) hc hx
    exact ⟨sl', e2⟩
  free := fun c ob q n hx => by
    obtain ⟨o', e1⟩ := a.there c ob q hx
    exact b.free c o' e1 (a.free c ob q n hx) hx
  there := fun c ob q hx => by
    obtain ⟨o', e1⟩ := a.there c ob q hx
    exact b.there c o' e1 hx
  tups := fun c xs q => b.tups c xs (a.tups c xs q)
  frzs := fun c ob xs q => b.frzs c ob xs (a.frzs c ob xs q)
  tbls := fun c ps q => by
    obtain ⟨m1, e1⟩ := a.tbls c ps q
    obtain ⟨m2, e2⟩ := b.tbls c _ e1
    exact ⟨m1 ++ m2, by rw [e2, Array.append_assoc]⟩
theorem Un.kept (k : ∀ b u, h.get? b = some u → h'.get? b = some u) : Un fs ex H H h h' :=
  ⟨fun b ob q _ _ _ => k b ob q, fun b ob q _ _ _ => ⟨ob.slots, k b ob q⟩, fun _ _ _ n _ => n, fun b ob q _ => ⟨ob, k b ob q⟩, fun _ _ q => q, fun _ _ _ q => q, fun _ ps q => ⟨#[], by rw [q]; simp⟩⟩
theorem Un.refl : Un fs ex H H h h := Un.kept fun _ _ q => q
theorem Un.laid (k : ∀ b u, h.get? b = some u → h'.get? b = some u) (hp : h.objs.size ≤ a) (hn : H a = none) : Un fs ex H (upd H a o) h h' where
  keep := fun b u q _ _ _ => k b u q
  slot := fun b u q _ _ _ => ⟨u.slots, k b u q⟩
  free := fun b u q n _ => by rw [upd_ne (Nat.ne_of_lt (Nat.lt_of_lt_of_le (Heap.lt_size q) hp))]; exact n
  there := fun b u q _ => ⟨u, k b u q⟩
  tups := fun b xs q => by rw [upd_ne (ne_of_none q hn)]; exact q
  frzs := fun b u xs q => by rw [upd_ne (ne_of_none q hn)]; exact q
  tbls := fun b ps q => ⟨#[], by rw [upd_ne (ne_of_none q hn), q]; simp⟩
theorem Un.write (mu : Mut (H x)) (he : e = x ∨ H e = some (.own x)) (k : ∀ b u, b ≠ e → h.get? b = some u → h'.get? b = some u) (heo : ∃ u, h'.get? e = some u) : Un fs ex H (upd H x o) h h' := by
  have hx : ∀ b, H b = none → b ≠ x := fun b n z => by subst z; rw [n] at mu; exact mu
  have hb : ∀ b, H b = none → b ≠ e := fun b n z => by
    subst z
    rcases he with r | r
    · exact hx b n r
    · rw [n] at r; cases r
  have hm : ∀ b u, H b = some u → ¬ Mut (some u) → b ≠ x := fun b u q nm z => by subst z; rw [q] at mu; exact nm mu
  refine ⟨fun b u q n _ _ => k b u (hb b n) q, fun b u q n _ _ => ⟨u.slots, k b u (hb b n) q⟩, fun b u q n _ => by rw [upd_ne (hx b n)]; exact n, fun b u q _ => ?_,
    fun b xs q => by rw [upd_ne (hm b _ q fun z => z)]; exact q, fun b u xs q => by rw [upd_ne (hm b _ q fun z => z)]; exact q, fun b ps q => ⟨#[], by rw [upd_ne (hm b _ q fun z => z), q]; simp⟩⟩
  by_cases hbe : b = e
  · subst hbe; exact heo
  · exact ⟨u, k b u hbe q⟩
theorem Un.mono (u : Un fs ex H H1 h h1) (hs : ∀ b ∈ fs, b ∈ fs') (hx : ∀ b ∈ ex, b ∈ ex') : Un fs' ex' H H1 h h1 :=
  ⟨fun b ob q n hb he => u.keep b ob q n (fun z => hb (hs b z)) fun z => he (hx b z), fun _ _ q n _ he => u.any q n fun z => he (hx _ z), fun b ob q n he => u.free b ob q n fun z => he (hx b z), fun b ob q he => u.there b ob q fun z => he (hx b z), u.tups, u.frzs, u.tbls⟩
end
def trk (h : Heap) (H : Hp) : List Addr := (List.range h.objs.size).filter fun a => (H a).isSome
def hidT (h : Heap) (H : Hp) : Heap := PySem.W.hideAll h (trk h H)
theorem hidT_size (h : Heap) (H : Hp) : (hidT h H).objs.size = h.objs.size := PySem.W.hideAll_size _ _
theorem hidT_get {h : Heap} {H : Hp} {b : Addr} {o : Obj} (e : h.get? b = some o) (n : H b = none) : (hidT h H).get? b = some o :=
  PySem.W.hideAll_get _ e fun hm => by
    have q : (H b).isSome = true := (List.mem_filter.mp hm).2
    rw [n] at q; simp at q
theorem of_hidT {h : Heap} {H : Hp} {b : Addr} {o : Obj} (e : (hidT h H).get? b = some o) : h.get? b = some o ∧ H b = none := by
  have e' : h.get? b = some o := PySem.W.of_hideAll (trk h H) e
  refine ⟨e', ?_⟩
  cases q : H b with
  | none => rfl
  | some x =>
    have hm : b ∈ trk h H := List.mem_filter.mpr ⟨List.mem_range.mpr (Heap.lt_size e'), by simp [q]⟩
    have z : (hidT h H).get? b = none := PySem.W.hideAll_none (trk h H) hm
    rw [z] at e; cases e
def allNews (g h : Heap) (L : Addr) : List (Addr × Obj) := (List.range h.objs.size).filterMap fun a => if a = L ∨ (g.get? a).isSome = true then none else (h.get? a).map fun o => (a, o)
def rest (g h : Heap) (L d : Addr) : List (Addr × Obj) := (allNews g h L).filter fun p => decide (p.1 ≠ d)
end L2
namespace L2
open PySem PySem.Spec PyProof.Rows
structure Mod (K : PySem.W.Frag) (mg : Str → Option Value) (base : Heap) : Prop where
  kin : K.In base
  glob : base.Ns mainGlobals mg
  blt : ∃ mb, base.Ns builtinsNs mb ∧ ∀ x : Str, x ≠ "__name__" → mb x = bootBuiltins x
  nolimit : base.NoLimit
structure Cx where
  prog : Program
  w : World
  K : PySem.W.Frag
  mg : Str → Option Value
  base : Heap
  A : Around
  N : List Str
  s₀ : Shared
  H₀ : Hp
  env : Env
  outer : List Env
  stack : List Env
  ex : List Addr
  fn : Str → Bool
  calm : Bool
  pn : List (Addr × Obj)
  xe : Value → Shared → Prop
def frs (l : List Env) : List Addr := l.filterMap (·.frame)
abbrev Cx.fs (X : Cx) : List Addr := frs X.outer
def Vis (sc : Scope) (x : Str) : Prop := sc.names.lookup x = some .local ∨ sc.names.lookup x = some .cell ∨ sc.names.lookup x = some .free
def Loc (sc : Scope) (x : Str) : Prop := sc.names.lookup x = some .local ∨ sc.names.lookup x = some .cell
def Look (env : Env) (h : Heap) (m : Str → Option Value) (x : Str) (u : Value) : Prop :=
  (env.kindOf x = some .local ∧ m x = some u) ∨ ((env.kindOf x = some .cell ∨ env.kindOf x = some .free) ∧ ∃ c, env.cells.lookup x = some c ∧ h.IsCell c (some u))
structure Cx.Ok (X : Cx) : Prop where
  mod : Mod X.K X.mg X.base
  kind : X.env.scope.kind = .function
  glob : X.env.globals = mainGlobals
  blt : X.env.builtins = builtinsNs
  above : X.s₀.heap.objs.size ≤ X.env.locals
  inj : ∀ x y c, X.env.cells.lookup x = some c → X.env.cells.lookup y = some c → x = y
  has : ∀ x, (X.env.kindOf x = some .cell ∨ X.env.kindOf x = some .free) → ∃ c, X.env.cells.lookup x = some c
  cab : ∀ x c, X.fn x = true → X.env.cells.lookup x = some c → X.s₀.heap.objs.size ≤ c
  hd : X.calm = true → X.A.handled = none
  frames : X.A.frames = some X.stack
  stk : X.stack = X.outer ∨ (X.stack = X.env :: X.outer ∧ X.env.frame = some X.env.locals)
  exf : ∀ b ∈ X.ex, b ≠ X.env.locals ∧ ∀ x c, X.env.cells.lookup x = some c → c ≠ b
  bs : ∀ b o, X.base.get? b = some o → X.s₀.heap.get? b = some o ∧ X.H₀ b = none
  bsz : X.base.objs.size ≤ X.s₀.heap.objs.size
  noex : ∀ b o, X.base.get? b = some o → b ∉ X.ex
  exfs : ∀ b ∈ X.ex, b ∉ X.fs
  funs : X.s₀.heap.FunFrames X.base X.outer
  frf : ∀ b ∈ X.fs, X.H₀ b = none
structure Inv (X : Cx) (pins : List (Addr × Obj)) (σ : List (Option V)) (H : Hp) (s : Shared) : Prop where
  ok : X.Ok
  os : s.os = X.s₀.os
  bare : AllBare s.gens
  base : Un X.fs X.ex X.H₀ H X.s₀.heap s.heap
  loc : ∃ m, s.heap.Ns X.env.locals m ∧ ∀ (i : Nat) (x : Str) (v : V), X.N[i]? = some x → σ[i]? = some (some v) → Vis X.env.scope x → ∃ u, RelV v u ∧ Look X.env s.heap m x u
  cell : ∀ x c, X.env.cells.lookup x = some c → ∃ v, s.heap.IsCell c v
  free : H X.env.locals = none
  freeC : ∀ x c, X.env.cells.lookup x = some c → H c = none
  pin : ∀ p ∈ X.pn ++ pins, s.heap.get? p.1 = some p.2 ∧ H p.1 = none ∧ p.1 ≠ X.env.locals ∧ p.1 ∉ X.fs ∧ ∀ v, p.2.data ≠ .cell v
  hok : HOk X.prog X.w H s.heap
  len : σ.length = X.N.length
section
variable {X : Cx} {pins : List (Addr × Obj)} {σ : List (Option V)} {H H' : Hp} {s : Shared} {h' : Heap}
theorem Cx.Ok.nofr (ok : X.Ok) {b : Addr} {o : Obj} (e : X.base.get? b = some o) : b ∉ X.fs := fun hb => by
  have := (ok.funs.mem hb).1
  rw [e] at this; cases this
theorem Inv.bs (I : Inv X pins σ H s) : ∀ b o, X.base.get? b = some o → s.heap.get? b = some o ∧ H b = none := fun b o e =>
  ⟨I.base.keep b o (I.ok.bs b o e).1 (I.ok.bs b o e).2 (I.ok.nofr e) (I.ok.noex b o e), I.base.free b o (I.ok.bs b o e).1 (I.ok.bs b o e).2 (I.ok.noex b o e)⟩
theorem Inv.bk (I : Inv X pins σ H s) : ∀ b o, X.base.get? b = some o → s.heap.get? b = some o := fun b o e => (I.bs b o e).1
theorem Inv.mod (I : Inv X pins σ H s) : Mod X.K X.mg X.base := I.ok.mod
theorem Inv.kIn (I : Inv X pins σ H s) : X.K.In s.heap := I.ok.mod.kin.keeps I.bk
theorem Inv.nolimit (I : Inv X pins σ H s) : s.heap.NoLimit := I.ok.mod.nolimit.keeps I.bk
theorem Inv.fr (I : Inv X pins σ H s) : ∃ m, Fr X.base X.env.locals s.heap m :=
  let ⟨m, hn, _⟩ := I.loc
  ⟨m, hn, I.bk, Nat.le_trans I.ok.bsz I.ok.above⟩
theorem Inv.lt (I : Inv X pins σ H s) : X.env.locals < s.heap.objs.size := let ⟨_, hn, _⟩ := I.loc; hn.lt
theorem Inv.sz (I : Inv X pins σ H s) : X.s₀.heap.objs.size ≤ s.heap.objs.size := Nat.le_trans I.ok.above (Nat.le_of_lt I.lt)
theorem Inv.nofs (I : Inv X pins σ H s) {a : Addr} (h : s.heap.objs.size ≤ a) : a ∉ X.fs := fun hb => by
  obtain ⟨_, o, ho, _⟩ := I.ok.funs.mem hb
  exact absurd (Nat.lt_of_lt_of_le (Heap.lt_size ho) (Nat.le_trans I.sz h)) (Nat.lt_irrefl _)
theorem Inv.cne (I : Inv X pins σ H s) : ∀ x c, X.env.cells.lookup x = some c → c ≠ X.env.locals := fun x c e z => by
  obtain ⟨v, o, ho, hd⟩ := I.cell x c e
  obtain ⟨m, ⟨o', es, ep, ho', hd', _⟩, _⟩ := I.loc
  rw [z, ho'] at ho; cases ho; rw [hd'] at hd; cases hd
theorem Inv.funs (I : Inv X pins σ H s) : s.heap.FunFrames X.base X.outer := by
  have all : ∀ (l : List Env), (∀ b ∈ frs l, b ∈ X.fs) → X.s₀.heap.FunFrames X.base l → s.heap.FunFrames X.base l := by
    intro l
    induction l with
    | nil => intro _ _; trivial
    | cons env r ih =>
      intro hs hl
      obtain ⟨hk, ⟨L, o, hf, hn, ho, hd⟩, hr⟩ := hl
      have hL : L ∈ X.fs := hs L (by unfold frs; rw [List.filterMap_cons, hf]; exact List.mem_cons_self)
      obtain ⟨sl, e⟩ := I.base.slot L o ho (I.ok.frf L hL) hL fun z => I.ok.exfs L z hL
      exact ⟨hk, ⟨L, _, hf, hn, e, hd⟩, ih (fun b hb => hs b (by unfold frs; rw [List.filterMap_cons, hf]; exact List.mem_cons_of_mem _ hb)) hr⟩
  exact all X.outer (fun _ hb => hb) I.ok.funs
theorem Inv.stack (I : Inv X pins σ H s) : s.heap.FunFrames X.base X.stack := by
  rcases I.ok.stk with e | ⟨e, hf⟩
  · rw [e]; exact I.funs
  · rw [e]
    obtain ⟨m, hn, _⟩ := I.loc
    refine .cons (by rw [I.ok.kind]; decide) hf hn ?_ I.funs
    exact Heap.get?_none_of_le (Nat.le_trans I.ok.bsz I.ok.above)
theorem Inv.stkSub (I : Inv X pins σ H s) : ∀ b ∈ frs X.stack, b ∈ X.env.locals :: X.fs := fun b hb => by
  rcases I.ok.stk with e | ⟨e, hf⟩
  · rw [e] at hb; exact List.mem_cons_of_mem _ hb
  · rw [e] at hb
    unfold frs at hb
    rw [List.filterMap_cons, hf] at hb
    exact hb
theorem Inv.stkFree (I : Inv X pins σ H s) : ∀ b ∈ frs X.stack, H b = none := fun b hb => by
  rcases List.mem_cons.mp (I.stkSub b hb) with e | hb
  · rw [e]; exact I.free
  · obtain ⟨_, o, ho, _⟩ := I.ok.funs.mem hb
    exact I.base.free b o ho (I.ok.frf b hb) fun z => I.ok.exfs b z hb
theorem Inv.step {g' : Array GenState} {t' : Nat} {d' : Drawn} {ch : List Addr} (I : Inv X pins σ H s)
    (hch : ∀ b ∈ ch, (b ∈ X.ex ∨ X.s₀.heap.objs.size ≤ b) ∧ b ≠ X.env.locals ∧ (∀ x c, X.env.cells.lookup x = some c → c ≠ b) ∧ ∀ p ∈ X.pn ++ pins, p.1 ≠ b)
    (keep : ∀ b o, b ≠ X.env.locals → b ∉ X.fs → b ∉ ch → s.heap.get? b = some o → H b = none → h'.get? b = some o)
    (slot : ∀ b o, b ≠ X.env.locals → b ∈ X.fs → b ∉ ch → s.heap.get? b = some o → H b = none → ∃ sl, h'.get? b = some { o with slots := sl }) (free : ∀ b o, b ∉ ch → s.heap.get? b = some o → H b = none → H' b = none)
    (there : ∀ b o, b ∉ ch → s.heap.get? b = some o → ∃ o', h'.get? b = some o')
    (tups : ∀ b xs, H b = some (.tup xs) → H' b = some (.tup xs)) (frzs : ∀ b o u, H b = some (.frz o u) → H' b = some (.frz o u)) (tbls : ∀ b ps, H b = some (.tbl ps) → ∃ more, H' b = some (.tbl (ps ++ more)))
    (ns : ∀ m, s.heap.Ns X.env.locals m → h'.Ns X.env.locals m) (hok : HOk X.prog X.w H' h') (hg : AllBare g') :
    Inv X pins σ H' { s with heap := h', gens := g', drawn := d', toks := t' } := by
  have neL : ∀ b o, X.s₀.heap.get? b = some o → b ≠ X.env.locals := fun b o e => Nat.ne_of_lt (Nat.lt_of_lt_of_le (Heap.lt_size e) I.ok.above)
  have neC : ∀ b o, X.s₀.heap.get? b = some o → b ∉ X.ex → b ∉ ch := fun b o e hx hb => by
    rcases (hch b hb).1 with z | z
    · exact hx z
    · exact absurd (Nat.lt_of_lt_of_le (Heap.lt_size e) z) (Nat.lt_irrefl _)
  have cellK : ∀ x c, X.env.cells.lookup x = some c → ∀ v, s.heap.IsCell c v → h'.IsCell c v := fun x c e v ⟨o, ho, hd⟩ => by
    have nch : c ∉ ch := fun z => (hch c z).2.2.1 x c e rfl
    by_cases hc : c ∈ X.fs
    · obtain ⟨sl, q⟩ := slot c o (I.cne x c e) hc nch ho (I.freeC x c e)
      exact ⟨_, q, hd⟩
    · exact ⟨o, keep c o (I.cne x c e) hc nch ho (I.freeC x c e), hd⟩
  refine ⟨I.ok, I.os, hg, ⟨fun b o e n hb hx => ?_, fun b o e n hb hx => ?_, fun b o e n hx => ?_, fun b o e hx => ?_, fun b xs e => tups b xs (I.base.tups b xs e), fun b o xs e => frzs b o xs (I.base.frzs b o xs e), fun b ps e => ?_⟩, ?_, fun x c e => ?_, ?_, fun x c e => ?_, fun p hp => ?_, hok, I.len⟩
  · exact keep b o (neL b o e) hb (neC b o e hx) (I.base.keep b o e n hb hx) (I.base.free b o e n hx)
  · obtain ⟨sl, e1⟩ := I.base.slot b o e n hb hx
    obtain ⟨sl', e2⟩ := slot b _ (neL b o e) hb (neC b o e hx) e1 (I.base.free b o e n hx)
    exact ⟨sl', e2⟩
  · obtain ⟨o', e1⟩ := I.base.there b o e hx
    exact free b o' (neC b o e hx) e1 (I.base.free b o e n hx)
  · obtain ⟨o', e1⟩ := I.base.there b o e hx
    exact there b o' (neC b o e hx) e1
  · obtain ⟨m1, e1⟩ := I.base.tbls b ps e
    obtain ⟨m2, e2⟩ := tbls b _ e1
    exact ⟨m1 ++ m2, by rw [e2, Array.append_assoc]⟩
  · obtain ⟨m, hn, hl⟩ := I.loc
    refine ⟨m, ns m hn, fun i x v e1 e2 e3 => ?_⟩
    obtain ⟨u, r, l⟩ := hl i x v e1 e2 e3
    refine ⟨u, r, ?_⟩
    rcases l with l | ⟨k, c, e, z⟩
    · exact .inl l
    · exact .inr ⟨k, c, e, cellK x c e _ z⟩
  · obtain ⟨v, z⟩ := I.cell x c e
    exact ⟨v, cellK x c e v z⟩
  · obtain ⟨m, ⟨o, _, _, ho, _⟩, _⟩ := I.loc
    exact free _ o (fun z => (hch _ z).2.1 rfl) ho I.free
  · obtain ⟨v, o, ho, hd⟩ := I.cell x c e
    exact free c o (fun z => (hch c z).2.2.1 x c e rfl) ho (I.freeC x c e)
  · obtain ⟨e, n, ne, nf, d⟩ := I.pin p hp
    have nch : p.1 ∉ ch := fun z => (hch p.1 z).2.2.2 p hp rfl
    exact ⟨keep p.1 p.2 ne nf nch e n, free p.1 p.2 nch e n, ne, nf, d⟩
theorem Inv.un {t' : Nat} (I : Inv X pins σ H s) (u : Un X.fs [] H H' s.heap h') (hok : HOk X.prog X.w H' h') : Inv X pins σ H' { s with heap := h', toks := t' } := by
  obtain ⟨m, ⟨o, es, ep, ho, r⟩, _⟩ := id I.loc
  obtain ⟨sl, hL⟩ := u.any ho I.free (by simp)
  exact I.step (g' := s.gens) (d' := s.drawn) (ch := []) (fun _ z => nomatch z) (fun b o _ hb _ e n => u.keep b o e n hb (by simp)) (fun b o _ hb _ e n => u.slot b o e n hb (by simp)) (fun b o _ e n => u.free b o e n (by simp)) (fun b o _ e => u.there b o e (by simp)) u.tups u.frzs u.tbls (fun m' hm => by
    obtain ⟨o', es', ep', ho', r'⟩ := hm
    rw [ho] at ho'; cases ho'
    exact ⟨_, es', ep', hL, r'⟩) hok I.bare
theorem Inv.call {g' : Array GenState} {t' : Nat} {d' : Drawn} {ch : List Addr} (I : Inv X pins σ H s) (u : Un (frs X.stack) ch H H' s.heap h') (hok : HOk X.prog X.w H' h') (hg : AllBare g')
    (hch : ∀ b ∈ ch, (b ∈ X.ex ∨ X.s₀.heap.objs.size ≤ b) ∧ b ≠ X.env.locals ∧ (∀ x c, X.env.cells.lookup x = some c → c ≠ b) ∧ ∀ p ∈ X.pn ++ pins, p.1 ≠ b) :
    Inv X pins σ H' { s with heap := h', gens := g', drawn := d', toks := t' } := by
  obtain ⟨m, ⟨o, es, ep, ho, r⟩, _⟩ := id I.loc
  obtain ⟨sl, hL⟩ := u.any ho I.free fun z => (hch _ z).2.1 rfl
  exact I.step (ch := ch) hch (fun b o hL hb hc e n => u.keep b o e n (fun z => (List.mem_cons.mp (I.stkSub b z)).elim hL hb) hc) (fun b o _ _ hc e n => u.any e n hc) (fun b o hc e n => u.free b o e n hc) (fun b o hc e => u.there b o e hc) u.tups u.frzs u.tbls (fun m' hm => by
    obtain ⟨o', es', ep', ho', r'⟩ := hm
    rw [ho] at ho'; cases ho'
    exact ⟨_, es', ep', hL, r'⟩) hok hg
theorem Inv.turned {t' : Nat} {it : Addr} (I : Inv X pins σ H s) (k : ∀ b o, b ≠ it → s.heap.get? b = some o → h'.get? b = some o) (hn : H it = none) (hL : it ≠ X.env.locals)
    (h1 : it ∈ X.ex ∨ X.s₀.heap.objs.size ≤ it) (h2 : ∀ x c, X.env.cells.lookup x = some c → c ≠ it) (h3 : ∀ p ∈ X.pn ++ pins, p.1 ≠ it) : Inv X pins σ H { s with heap := h', toks := t' } := by
  have nit : ∀ b u, H b = some u → b ≠ it := fun b u e z => by rw [z, hn] at e; cases e
  refine I.step (g' := s.gens) (d' := s.drawn) (ch := [it]) (fun b hb => ?_) (fun b o _ _ hc e _ => k b o (fun z => hc (by simp [z])) e) (fun b o _ _ hc e _ => ⟨o.slots, k b o (fun z => hc (by simp [z])) e⟩) (fun _ _ _ _ n => n)
    (fun b o hc e => ⟨o, k b o (fun z => hc (by simp [z])) e⟩) (fun _ _ e => e) (fun _ _ _ e => e) (fun b ps e => ⟨#[], by rw [e]; simp⟩) (fun m hm => ?_) (fun b u e => ?_) I.bare
  · have e : b = it := by simpa using hb
    subst e
    exact ⟨h1, hL, h2, h3⟩
  · obtain ⟨o, es, ep, ho, r⟩ := hm
    exact ⟨o, es, ep, k _ o (Ne.symm hL) ho, r⟩
  · refine (I.hok b u e).stay (fun c v hc q => k c v ?_ q) (fun _ q => q) fun _ _ q => q
    rcases hc with z | z
    · rw [z]; exact nit b u e
    · exact nit c _ z
theorem Inv.tok (I : Inv X pins σ H s) (t : Nat) : Inv X pins σ H { s with toks := t } := I.un (h' := s.heap) (t' := t) Un.refl I.hok
theorem Inv.kept {t' : Nat} (I : Inv X pins σ H s) (k : ∀ b u, s.heap.get? b = some u → h'.get? b = some u) : Inv X pins σ H { s with heap := h', toks := t' } := I.un (Un.kept k) (I.hok.kept k)
theorem Inv.laid {a : Addr} {o : HO} {t' : Nat} (I : Inv X pins σ H s) (k : ∀ b u, s.heap.get? b = some u → h'.get? b = some u) (hp : s.heap.objs.size ≤ a) (new : ObjOk X.prog X.w (upd H a o) h' a o) :
    Inv X pins σ (upd H a o) { s with heap := h', toks := t' } := I.un (Un.laid k hp (I.hok.fresh hp)) (I.hok.laid k hp new)
theorem Inv.write {x e : Addr} {o : HO} {t' : Nat} (I : Inv X pins σ H s) (mu : Mut (H x)) (he : e = x ∨ H e = some (.own x)) (k : ∀ b u, b ≠ e → s.heap.get? b = some u → h'.get? b = some u) (heo : ∃ u, h'.get? e = some u)
    (new : ObjOk X.prog X.w (upd H x o) h' x o) : Inv X pins σ (upd H x o) { s with heap := h', toks := t' } := I.un (Un.write mu he k heo) (I.hok.write mu he k heo new)
theorem Inv.weak {σ' : List (Option V)} (I : Inv X pins σ H s) (hl : σ'.length = σ.length) (w : ∀ (i : Nat) v, σ'[i]? = some (some v) → σ[i]? = some (some v)) : Inv X pins σ' H s :=
  ⟨I.ok, I.os, I.bare, I.base, let ⟨m, hn, hl'⟩ := I.loc; ⟨m, hn, fun i x v e1 e2 e3 => hl' i x v e1 (w i v e2) e3⟩, I.cell, I.free, I.freeC, I.pin, I.hok, hl.trans I.len⟩
theorem Inv.pins_of {pins' : List (Addr × Obj)} (I : Inv X pins σ H s) (h : ∀ p ∈ pins', s.heap.get? p.1 = some p.2 ∧ H p.1 = none ∧ p.1 ≠ X.env.locals ∧ p.1 ∉ X.fs ∧ ∀ v, p.2.data ≠ .cell v) : Inv X pins' σ H s :=
  ⟨I.ok, I.os, I.bare, I.base, I.loc, I.cell, I.free, I.freeC, fun p hp => (List.mem_append.mp hp).elim (fun z => I.pin p (List.mem_append_left _ z)) (h p), I.hok, I.len⟩
theorem nodup_ix {N : List Str} (hN : N.Nodup) {i j : Nat} {x : Str} (a : N[i]? = some x) (b : N[j]? = some x) : i = j := by
  obtain ⟨h1, e1⟩ := List.getElem?_eq_some_iff.mp a
  obtain ⟨h2, e2⟩ := List.getElem?_eq_some_iff.mp b
  exact (List.getElem_inj hN).mp (e1.trans e2.symm)
theorem store_ok2 {M : Model} {A : Around} {E : Value → Shared → Prop} {i : Nat} {x : Str} {v : V} {u : Value} {Q : Unit → Shared → Prop} (I : Inv X pins σ H s) (hN : X.N.Nodup) (hi : X.N[i]? = some x) (hx : Loc X.env.scope x) (r : RelV v u)
    (h : ∀ s', Inv X pins (σ.set i (some v)) H s' → (∃ a, Heap.SameBut a s.heap s'.heap ∧ (a = X.env.locals ∨ X.env.cells.lookup x = some a)) → Q () s') (hf : X.fn x = true ∨ X.env.scope.names.lookup x = some .local := by first | exact .inl rfl | exact .inr rfl | assumption) : wpAny M A (storeName X.env x u) Q E s := by
  obtain ⟨m, hn, hl⟩ := id I.loc
  have hcls : (X.env.scope.kind == .class || (X.env.scope.kind == .module && X.env.locals != X.env.globals)) = false := by rw [I.ok.kind]; rfl
  have hiσ : i < σ.length := by rw [I.len]; exact (List.getElem?_eq_some_iff.mp hi).1
  have cne := I.cne
  have tracked : ∀ {a : Addr} {h' : Heap}, (∃ o, s.heap.get? a = some o ∧ H a = none) → Heap.SameBut a s.heap h' → HOk X.prog X.w H h' := fun {a h'} ha hs b ob e => by
    obtain ⟨_, _, hfree⟩ := ha
    refine (I.hok b ob e).stay (fun c w' hc q => (hs.2 c ?_).trans q) (fun _ q => q) fun _ _ q => q
    rintro rfl
    rcases hc with rfl | hc
    · rw [hfree] at e; cases e
    · rw [hfree] at hc; cases hc
  rcases hx with hk | hk
  · refine wpAny_storeName_local hk hn (fun h' hn' hs => ?_) hcls
    obtain ⟨oL, _, _, hoL, _⟩ := id hn
    refine h _ ⟨I.ok, I.os, I.bare, ⟨fun b o e n hb hx => ?_, fun b o e n hb hx => ?_, I.base.free, fun b o e hx => ?_, I.base.tups, I.base.frzs, I.base.tbls⟩, ⟨_, hn', fun j y v' e1 e2 e3 => ?_⟩, fun y c e => ?_, I.free, I.freeC, fun p hp => ?_, tracked ⟨oL, hoL, I.free⟩ hs, by simpa using I.len⟩ ⟨_, hs, .inl rfl⟩
    · exact (hs.2 b (Nat.ne_of_lt (Nat.lt_of_lt_of_le (Heap.lt_size e) I.ok.above))).trans (I.base.keep b o e n hb hx)
    · obtain ⟨sl, e1⟩ := I.base.slot b o e n hb hx
      exact ⟨sl, (hs.2 b (Nat.ne_of_lt (Nat.lt_of_lt_of_le (Heap.lt_size e) I.ok.above))).trans e1⟩
    · obtain ⟨o', e1⟩ := I.base.there b o e hx
      exact ⟨o', (hs.2 b (Nat.ne_of_lt (Nat.lt_of_lt_of_le (Heap.lt_size e) I.ok.above))).trans e1⟩
    · by_cases hj : j = i
      · subst hj
        rw [hi] at e1; cases e1
        rw [List.getElem?_set_self hiσ] at e2
        cases e2
        exact ⟨u, r, .inl ⟨hk, by simp⟩⟩
      · rw [List.getElem?_set_ne (Ne.symm hj)] at e2
        obtain ⟨u', r', q⟩ := hl j y v' e1 e2 e3
        refine ⟨u', r', ?_⟩
        rcases q with ⟨k, e⟩ | ⟨k, c, e, z⟩
        · refine .inl ⟨k, ?_⟩
          have : y ≠ x := fun e => hj (nodup_ix hN e1 (e ▸ hi))
          simp [this, e]
        · exact .inr ⟨k, c, e, z.sameBut hs (cne y c e)⟩
    · obtain ⟨w', z⟩ := I.cell y c e
      exact ⟨w', z.sameBut hs (cne y c e)⟩
    · obtain ⟨e, n, ne, nf, d⟩ := I.pin p hp
      exact ⟨(hs.2 p.1 ne).trans e, n, ne, nf, d⟩
  · have hfn : X.fn x = true := by
      rcases hf with z | z
      · exact z
      · rw [z] at hk; cases hk
    obtain ⟨c, hc⟩ := I.ok.has x (.inl hk)
    obtain ⟨w', z⟩ := I.cell x c hc
    refine wpAny_storeName_cell I.ok.kind hk hc z (fun h' hc' hs => ?_)
    obtain ⟨oc, hoc, hocd⟩ := id z
    refine h { s with heap := h' } ⟨I.ok, I.os, I.bare, ⟨fun b o e n hb hx => ?_, fun b o e n hb hx => ?_, I.base.free, fun b o e hx => ?_, I.base.tups, I.base.frzs, I.base.tbls⟩, ⟨m, hn.sameBut hs (Ne.symm (cne x c hc)), fun j y v' e1 e2 e3 => ?_⟩, fun y c' e => ?_, I.free, I.freeC, fun p hp => ?_, tracked ⟨oc, hoc, I.freeC x c hc⟩ hs, by simpa using I.len⟩ ⟨c, hs, .inr hc⟩
    · exact (hs.2 b (Nat.ne_of_lt (Nat.lt_of_lt_of_le (Heap.lt_size e) (I.ok.cab x c hfn hc)))).trans (I.base.keep b o e n hb hx)
    · obtain ⟨sl, e1⟩ := I.base.slot b o e n hb hx
      exact ⟨sl, (hs.2 b (Nat.ne_of_lt (Nat.lt_of_lt_of_le (Heap.lt_size e) (I.ok.cab x c hfn hc)))).trans e1⟩
    · obtain ⟨o', e1⟩ := I.base.there b o e hx
      exact ⟨o', (hs.2 b (Nat.ne_of_lt (Nat.lt_of_lt_of_le (Heap.lt_size e) (I.ok.cab x c hfn hc)))).trans e1⟩
    · by_cases hj : j = i
      · subst hj
        rw [hi] at e1; cases e1
        rw [List.getElem?_set_self hiσ] at e2
        cases e2
        exact ⟨u, r, .inr ⟨.inl hk, c, hc, hc'⟩⟩
      · rw [List.getElem?_set_ne (Ne.symm hj)] at e2
        obtain ⟨u', r', q⟩ := hl j y v' e1 e2 e3
        refine ⟨u', r', ?_⟩
        rcases q with q | ⟨k, c', e, z'⟩
        · exact .inl q
        · refine .inr ⟨k, c', e, z'.sameBut hs ?_⟩
          rintro rfl
          exact hj (nodup_ix hN e1 (I.ok.inj _ _ _ e hc ▸ hi))
    · by_cases hcc : c' = c
      · subst hcc; exact ⟨_, hc'⟩
      · obtain ⟨w2, z2⟩ := I.cell y c' e
        exact ⟨w2, z2.sameBut hs hcc⟩
    · obtain ⟨e, n, ne, nf, d⟩ := I.pin p hp
      refine ⟨(hs.2 p.1 ?_).trans e, n, ne, nf, d⟩
      intro q
      rw [q, hoc] at e
      have q' : oc = p.2 := Option.some.inj e
      exact d w' (by rw [← q']; exact hocd)
theorem store_ok {M : Model} {A : Around} {E : Value → Shared → Prop} {i : Nat} {x : Str} {v : V} {u : Value} {Q : Unit → Shared → Prop} (I : Inv X pins σ H s) (hN : X.N.Nodup) (hi : X.N[i]? = some x) (hx : Loc X.env.scope x) (r : RelV v u)
    (h : ∀ s', Inv X pins (σ.set i (some v)) H s' → Q () s') (hf : X.fn x = true ∨ X.env.scope.names.lookup x = some .local := by first | exact .inl rfl | exact .inr rfl | assumption) : wpAny M A (storeName X.env x u) Q E s :=
  store_ok2 I hN hi hx r (fun s' I' _ => h s' I') hf
theorem Inv.call' {s' : Shared} {ch : List Addr} (I : Inv X pins σ H s) (ho : s'.os = s.os) (u : Un (frs X.stack) ch H H' s.heap s'.heap) (hok : HOk X.prog X.w H' s'.heap) (hg : AllBare s'.gens)
    (hch : ∀ b ∈ ch, (b ∈ X.ex ∨ X.s₀.heap.objs.size ≤ b) ∧ b ≠ X.env.locals ∧ (∀ x c, X.env.cells.lookup x = some c → c ≠ b) ∧ ∀ p ∈ X.pn ++ pins, p.1 ≠ b) : Inv X pins σ H' s' := by
  obtain ⟨h', g', d', t', o'⟩ := s'
  have e : o' = s.os := ho
  subst e
  exact I.call (g' := g') (t' := t') (d' := d') u hok hg hch
end
abbrev XK := Value → Option Addr → Hp → Prop
abbrev St := List (Option V)
abbrev VK := V → Hp → Prop
abbrev TE := St → Hp → VK → Prop
abbrev TT := St → Hp → (Bool → Hp → Prop) → Prop
abbrev TA := St → Hp → (List V → Hp → Prop) → Prop
structure Ends where
  nx : St → Hp → Prop
  rt : VK
  bk : St → Hp → Prop := fun _ _ => False
  ct : St → Hp → Prop := fun _ _ => False
abbrev TS := Ends → St → Hp → Prop
def EP (X : Cx) (pins : List (Addr × Obj)) (σ : St) (Q : VK) (u : Value) (s' : Shared) : Prop := ∃ v H', Inv X pins σ H' s' ∧ RelV v u ∧ Q v H'
def TP (X : Cx) (pins : List (Addr × Obj)) (σ : St) (Q : Bool → Hp → Prop) (b : Bool) (s' : Shared) : Prop := ∃ H', Inv X pins σ H' s' ∧ Q b H'
def AP (X : Cx) (pins : List (Addr × Obj)) (σ : St) (Q : List V → Hp → Prop) (us : List Value) (s' : Shared) : Prop := ∃ vs H', Inv X pins σ H' s' ∧ Vals vs us ∧ Q vs H'
def SP (X : Cx) (pins : List (Addr × Obj)) (D : Ends) (f : Flow) (s' : Shared) : Prop :=
  match f with
  | .next => ∃ σ' H', Inv X pins σ' H' s' ∧ D.nx σ' H'
  | .brk => ∃ σ' H', Inv X pins σ' H' s' ∧ D.bk σ' H'
  | .cont => ∃ σ' H', Inv X pins σ' H' s' ∧ D.ct σ' H'
  | .ret u => ∃ v σ' H', Inv X pins σ' H' s' ∧ RelV v u ∧ D.rt v H'
def PE (X : Cx) (e : Expr) (t : TE) : Prop :=
  ∀ (pins : List (Addr × Obj)) (s : Shared) (σ : St) (H : Hp) (Q : VK), Inv X pins σ H s → t σ H Q → wpAny (model X.prog X.w) X.A (eval e X.env) (EP X pins σ Q) X.xe s
def PT (X : Cx) (e : Expr) (t : TT) : Prop :=
  ∀ (pins : List (Addr × Obj)) (s : Shared) (σ : St) (H : Hp) (Q : Bool → Hp → Prop), Inv X pins σ H s → t σ H Q → wpAny (model X.prog X.w) X.A (isTrue e X.env (eval e X.env)) (TP X pins σ Q) X.xe s
def PW (X : Cx) (e : Expr) (t : TT) : Prop :=
  ∀ (whole : Sem Value) (pins : List (Addr × Obj)) (s : Shared) (σ : St) (H : Hp) (Q : Bool → Hp → Prop), Inv X pins σ H s → t σ H Q → wpAny (model X.prog X.w) X.A (isTrue e X.env whole) (TP X pins σ Q) X.xe s
theorem PW.pt {X : Cx} {e : Expr} {t : TT} (h : PW X e t) : PT X e t := h _
def PA (X : Cx) (es : List Expr) (t : TA) : Prop :=
  ∀ (pos : Pos) (pins : List (Addr × Obj)) (s : Shared) (σ : St) (H : Hp) (Q : List V → Hp → Prop), Inv X pins σ H s → t σ H Q → wpAny (model X.prog X.w) X.A (spliced (backTo pos (starEach es X.env))) (AP X pins σ Q) X.xe s
def PS (X : Cx) (st : Stmt) (t : TS) : Prop :=
  ∀ (pins : List (Addr × Obj)) (s : Shared) (σ : St) (H : Hp) (D : Ends), Inv X pins σ H s → t D σ H → wpAny (model X.prog X.w) X.A (exec st X.env) (SP X pins D) X.xe s
def PSs (X : Cx) (st : List Stmt) (t : TS) : Prop :=
  ∀ (pins : List (Addr × Obj)) (s : Shared) (σ : St) (H : Hp) (D : Ends), Inv X pins σ H s → t D σ H → wpAny (model X.prog X.w) X.A (execs st X.env) (SP X pins D) X.xe s
theorem thn {α : Type} {t : Sem α} {Q Q' : α → Shared → Prop} {M : Model} {A : Around} {E : Value → Shared → Prop} {s : Shared} (h : wpAny M A t Q E s) (hQ : ∀ a s, Q a s → Q' a s) : wpAny M A t Q' E s := wpAny_mono h hQ fun _ _ x => x
end L2
namespace L2
open PySem PySem.Spec PyProof.Rows
section
variable {X : Cx}
def tVar (i : Nat) : TE := fun σ H Q => ∃ v, σ[i]? = some (some v) ∧ Q v H
def tC (v : V) : TE := fun _ H Q => Q v H
theorem pe_var {i : Nat} {x : Str} {pos : Pos} (hN : X.N[i]? = some x) (hv : Vis X.env.scope x) (hd : (x == ("__debug__" : Str)) = false := by decide) (hcd : (x == ("__classdict__" : Str)) = false := by decide) : PE X (.Name x pos) (tVar i) := by
  intro pins s σ H Q I h
  obtain ⟨v, e, h⟩ := h
  obtain ⟨m, hn, hl⟩ := I.loc
  obtain ⟨u, r, l⟩ := hl i x v hN e hv
  have fin : EP X pins σ Q u s := ⟨v, H, I, r, h⟩
  rcases l with ⟨hk, hm⟩ | ⟨hk, c, hc, hcell⟩
  · exact wpAny_Name (wpAny_loadName_local I.ok.kind hk hn hm fin) hd
  · rcases hk with hk | hk
    · exact wpAny_Name (wpAny_loadName_cell I.ok.kind hk hc hcell fin) hd
    · exact wpAny_Name (wpAny_loadName_free I.ok.kind hk hc hcell fin hcd) hd
theorem pe_int {i j pos} : PE X (.Constant (.int i) j pos) (tC (.int i)) := fun _ _ _ H _ I h => wpAny_Constant_int ⟨.int i, H, I.tok _, ⟨_, rfl⟩, h⟩
theorem pe_bl {b j pos} : PE X (.Constant (.bool b) j pos) (tC (.bl b)) := fun _ _ _ H _ I h => Constant_bool ⟨.bl b, H, I, rfl, h⟩
theorem pe_non {j pos} : PE X (.Constant .none j pos) (tC .non) := fun _ _ _ H _ I h => Constant_none ⟨.non, H, I, rfl, h⟩
theorem pe_str {x j pos} : PE X (.Constant (.str x) j pos) (tC (.str x)) := fun _ _ _ H _ I h => Calls.Constant_str ⟨.str x, H, I.tok _, ⟨_, rfl⟩, h⟩
def Gl (X : Cx) (x : Str) : Prop := X.env.kindOf x = some .globalImplicit
theorem ld_glob {E : Value → Shared → Prop} {pins : List (Addr × Obj)} {s : Shared} {σ : St} {H : Hp} {x : Str} {u : Value} {pos : Pos} {Q : Value → Shared → Prop} (I : Inv X pins σ H s) (hg : Gl X x) (hm : X.mg x = some u) (h : Q u s)
    (hd : (x == ("__debug__" : Str)) = false := by decide) : wpAny (model X.prog X.w) X.A (eval (.Name x pos) X.env) Q E s :=
  Calls.Name_function_global I.ok.kind hg (Calls.loadGlobal_global (by rw [I.ok.glob]; exact I.mod.glob.keeps I.bk) hm h) hd
theorem ld_blt {E : Value → Shared → Prop} {pins : List (Addr × Obj)} {s : Shared} {σ : St} {H : Hp} {x : Str} {u : Value} {pos : Pos} {Q : Value → Shared → Prop} (I : Inv X pins σ H s) (hg : Gl X x) (hm : X.mg x = none) (hv : bootBuiltins x = some u) (h : Q u s)
    (hn : x ≠ "__name__" := by decide) (hd : (x == ("__debug__" : Str)) = false := by decide) : wpAny (model X.prog X.w) X.A (eval (.Name x pos) X.env) Q E s := by
  obtain ⟨mb, h1, h2⟩ := I.mod.blt
  exact Calls.Name_function_global I.ok.kind hg (Calls.loadGlobal_builtin (by rw [I.ok.glob]; exact I.mod.glob.keeps I.bk) hm (by rw [I.ok.blt]; exact h1.keeps I.bk) ((h2 x hn).trans hv) h) hd
theorem pe_glob {x : Str} {v : V} {u : Value} {pos : Pos} (hg : Gl X x) (hm : X.mg x = some u) (r : RelV v u) (hd : (x == ("__debug__" : Str)) = false := by decide) : PE X (.Name x pos) (tC v) :=
  fun _ _ _ H _ I h => ld_glob I hg hm ⟨v, H, I, r, h⟩ hd
theorem pe_bltn {x : Str} {v : V} {u : Value} {pos : Pos} (hg : Gl X x) (hm : X.mg x = none) (hv : bootBuiltins x = some u) (r : RelV v u) (hn : x ≠ "__name__" := by decide) (hd : (x == ("__debug__" : Str)) = false := by decide) : PE X (.Name x pos) (tC v) :=
  fun _ _ _ H _ I h => ld_blt I hg hm hv ⟨v, H, I, r, h⟩ hn hd
variable {a b : Expr} {ta tb : TE} {pos : Pos}
def tB (t : TE) : TT := fun σ H Q => t σ H fun x H1 => ∃ c, x = .bl c ∧ Q c H1
theorem pt_val {e : Expr} {t : TE} (h : PE X e t) (he : ∀ whole, isTrue e X.env whole = (do let v ← whole; standAt e.pos; holding [v] (truthy v)) := by intro _; rfl) : PT X e (tB t) := by
  intro pins s σ H Q I hw
  refine isTrue_plain (thn (h pins s σ H _ I hw) fun v s1 ⟨x, H1, I1, r1, q1⟩ => ?_) (he _)
  obtain ⟨d, rfl, q⟩ := q1
  cases r1
  exact wpAny_truthy_bool ⟨H1, I1, q⟩
variable {tA tB' : TT} {rest : List Expr}
def tAnd (t u : TT) : TT := fun σ H Q => t σ H fun c H1 => if c = true then u σ H1 Q else Q false H1
def tOr (t u : TT) : TT := fun σ H Q => t σ H fun c H1 => if c = true then Q true H1 else u σ H1 Q
def tNot (t : TT) : TT := fun σ H Q => t σ H fun c H1 => Q (!c) H1
theorem pw_and1 (ha : PT X a tA) : PW X (.BoolOp .And [a] pos) tA := by
  intro wh pins s σ H Q I h
  refine isTrue_and (thn (ha pins s σ H Q I h) fun c s1 e => ?_)
  cases c with
  | true => exact isTrue_and_nil e
  | false => exact e
theorem pw_or1 (ha : PT X a tA) : PW X (.BoolOp .Or [a] pos) tA := by
  intro wh pins s σ H Q I h
  refine isTrue_or (thn (ha pins s σ H Q I h) fun c s1 e => ?_)
  cases c with
  | false => exact isTrue_or_nil e
  | true => exact e
theorem pw_and (ha : PT X a tA) (hb : PW X (.BoolOp .And (b :: rest) pos) tB') : PW X (.BoolOp .And (a :: b :: rest) pos) (tAnd tA tB') := by
  intro wh pins s σ H Q I h
  refine isTrue_and (thn (ha pins s σ H _ I h) fun c s1 ⟨H1, I1, q1⟩ => ?_)
  cases c with
  | true => exact hb wh pins s1 σ H1 Q I1 q1
  | false => exact ⟨H1, I1, q1⟩
theorem pw_or (ha : PT X a tA) (hb : PW X (.BoolOp .Or (b :: rest) pos) tB') : PW X (.BoolOp .Or (a :: b :: rest) pos) (tOr tA tB') := by
  intro wh pins s σ H Q I h
  refine isTrue_or (thn (ha pins s σ H _ I h) fun c s1 ⟨H1, I1, q1⟩ => ?_)
  cases c with
  | true => exact ⟨H1, I1, q1⟩
  | false => exact hb wh pins s1 σ H1 Q I1 q1
theorem pt_not (ha : PT X a tA) : PT X (.UnaryOp .Not a pos) (tNot tA) := by
  intro pins s σ H Q I h
  exact isTrue_not (ha pins s σ H (fun c H1 => Q (!c) H1) I h)
def tAndV (ta tb : TE) : TE := fun σ H Q => ta σ H fun x H1 => ∃ c, x = .bl c ∧ if c = true then tb σ H1 Q else Q (.bl false) H1
def tOrV (ta tb : TE) : TE := fun σ H Q => ta σ H fun x H1 => ∃ c, x = .bl c ∧ if c = true then Q (.bl true) H1 else tb σ H1 Q
def tNotV (ta : TE) : TE := fun σ H Q => ta σ H fun x H1 => ∃ c, x = .bl c ∧ Q (.bl (!c)) H1
theorem pe_one {op} {t : TE} (h : PE X a t) : PE X (.BoolOp op [a] pos) t := fun pins s σ H Q I hw => BoolOp_one (h pins s σ H Q I hw)
theorem pe_and (ha : PE X a ta) (hb : PE X (.BoolOp .And (b :: rest) pos) tb) : PE X (.BoolOp .And (a :: b :: rest) pos) (tAndV ta tb) := by
  intro pins s σ H Q I h
  refine BoolOp_and (thn (ha pins s σ H _ I h) fun v s1 ⟨x, H1, I1, r1, q1⟩ => ?_)
  obtain ⟨c, rfl, q1⟩ := q1
  cases r1
  refine wpAny_truthy_bool ?_
  cases c with
  | true => exact hb pins s1 σ H1 Q I1 q1
  | false => exact ⟨.bl false, H1, I1, rfl, q1⟩
theorem pe_or (ha : PE X a ta) (hb : PE X (.BoolOp .Or (b :: rest) pos) tb) : PE X (.BoolOp .Or (a :: b :: rest) pos) (tOrV ta tb) := by
  intro pins s σ H Q I h
  refine BoolOp_or (thn (ha pins s σ H _ I h) fun v s1 ⟨x, H1, I1, r1, q1⟩ => ?_)
  obtain ⟨c, rfl, q1⟩ := q1
  cases r1
  refine wpAny_truthy_bool ?_
  cases c with
  | false => exact hb pins s1 σ H1 Q I1 q1
  | true => exact ⟨.bl true, H1, I1, rfl, q1⟩
theorem pe_not (ha : PE X a ta) : PE X (.UnaryOp .Not a pos) (tNotV ta) := by
  intro pins s σ H Q I h
  refine UnaryOp_ (thn (ha pins s σ H _ I h) fun v s1 ⟨x, H1, I1, r1, q1⟩ => ?_)
  obtain ⟨c, rfl, q1⟩ := q1
  cases r1
  exact not_of (wpAny_truthy_bool ⟨.bl (!c), H1, I1, rfl, q1⟩)
def tIf (t : TT) (ta tb : TE) : TE := fun σ H Q => t σ H fun c H1 => if c = true then ta σ H1 Q else tb σ H1 Q
theorem pe_ifExp {c : Expr} (hc : PT X c tA) (ha : PE X a ta) (hb : PE X b tb) : PE X (.IfExp c a b pos) (tIf tA ta tb) := by
  intro pins s σ H Q I h
  refine wpAny_IfExp (thn (hc pins s σ H _ I h) fun d s1 ⟨H1, I1, q1⟩ => ?_)
  cases d with
  | true => exact ha pins s1 σ H1 Q I1 q1
  | false => exact hb pins s1 σ H1 Q I1 q1
end
end L2
namespace L2
open PySem PySem.Spec PyProof.Rows
def SqL (K : PySem.W.Frag) (H : Hp) (a : Addr) (xs : List V) : Prop :=
  Rd H a (.lst xs) ∨
    ∃ (o : Obj) (its : Array Value) (n : Nat), K.lookup a = some o ∧ o.cls = .type "list" ∧ o.dict = none ∧ o.data = .seq its n ∧ its.size ≤ sizeLine ∧ Vals xs its.toList
def SqT (K : PySem.W.Frag) (H : Hp) (a : Addr) (xs : List V) : Prop :=
  Rd H a (.tup xs) ∨
    ∃ (o : Obj) (its : Array Value) (n : Nat), K.lookup a = some o ∧ o.cls = .type "tuple" ∧ o.data = .seq its n ∧ its.size ≤ sizeLine ∧ Vals xs its.toList
def absV : Value → Option V
  | .none => some .non
  | .bool b => some (.bl b)
  | .int i _ => some (.int i)
  | .str x _ => some (.str x)
  | .bytes b _ => some (.byt b)
  | .float b _ => some (.flt b)
  | .ref a => some (.ref a)
  | .type n => some (.ty n)
  | _ => none
theorem RelV.abs {x : V} {u : Value} (r : RelV x u) : absV u = some x := by
  cases x with
  | non => cases r; rfl
  | bl _ => cases r; rfl
  | int _ => obtain ⟨t, rfl⟩ := r; rfl
  | str _ => obtain ⟨t, rfl⟩ := r; rfl
  | byt _ => obtain ⟨t, rfl⟩ := r; rfl
  | flt _ => obtain ⟨t, rfl⟩ := r; rfl
  | ref _ => cases r; rfl
  | ty _ => cases r; rfl
theorem RelV.inj {x y : V} {u : Value} (r : RelV x u) (q : RelV y u) : x = y := Option.some.inj (r.abs.symm.trans q.abs)
theorem Vals.inj : ∀ {xs ys : List V} {us : List Value}, Vals xs us → Vals ys us → xs = ys
  | _, _, _, .nil, .nil => rfl
  | _, _, _, .cons r t, .cons r' t' => by rw [r.inj r', Vals.inj t t']
section
variable {X : Cx} {pins : List (Addr × Obj)} {σ : St} {H : Hp} {s : Shared} {a : Addr} {xs ys : List V}
theorem SqL.of {K : PySem.W.Frag} (h : H a = some (.lst xs)) : SqL K H a xs := .inl (.inl h)
theorem SqT.of {K : PySem.W.Frag} (h : H a = some (.tup xs)) : SqT K H a xs := .inl (.inl h)
theorem Inv.list (I : Inv X pins σ H s) (h : SqL X.K H a xs) : ∃ its : List Value, Vals xs its ∧ PlainL s.heap a its.toArray ∧ xs.length ≤ sizeLine := by
  rcases h with h | ⟨o, its, n, hk, hc, hd, hs, hz, r⟩
  · obtain ⟨z, its, n, r, e⟩ := h.ok I.hok
    exact ⟨its, r, ⟨_, n, e, rfl, rfl, rfl⟩, z⟩
  · refine ⟨its.toList, r, ⟨o, n, I.kIn a o hk, hc, hd, by simpa using hs⟩, ?_⟩
    have e := r.length
    simp only [Array.length_toList] at e
    omega
theorem Inv.tuple (I : Inv X pins σ H s) (h : SqT X.K H a xs) : ∃ its : List Value, Vals xs its ∧ IsTup s.heap a its.toArray ∧ xs.length ≤ sizeLine := by
  rcases h with h | ⟨o, its, n, hk, hc, hs, hz, r⟩
  · obtain ⟨z, its, r, p⟩ := h.ok I.hok
    exact ⟨its, r, p, z⟩
  · refine ⟨its.toList, r, ⟨o, I.kIn a o hk, hc, n, by simpa using hs⟩, ?_⟩
    have e := r.length
    simp only [Array.length_toList] at e
    omega
theorem Inv.list_inj (I : Inv X pins σ H s) (h : SqL X.K H a xs) (h' : SqL X.K H a ys) : xs = ys := by
  obtain ⟨its, r, ⟨o, n, e, _, _, d⟩, _⟩ := I.list h
  obtain ⟨its', r', ⟨o', n', e', _, _, d'⟩, _⟩ := I.list h'
  rw [e] at e'; cases e'
  rw [d] at d'
  injection d' with d1 _
  have : its = its' := by simpa using congrArg Array.toList d1
  subst this
  exact r.inj r'
end
abbrev Cx.wish (X : Cx) (E : Value → Shared → Prop) : Cx := { X with xe := E }
abbrev Cx.nox (X : Cx) : Cx := X.wish fun _ _ => False
theorem Cx.Ok.wish {X : Cx} (ok : X.Ok) (E : Value → Shared → Prop) : (X.wish E).Ok :=
  ⟨ok.mod, ok.kind, ok.glob, ok.blt, ok.above, ok.inj, ok.has, ok.cab, ok.hd, ok.frames, ok.stk, ok.exf, ok.bs, ok.bsz, ok.noex, ok.exfs, ok.funs, ok.frf⟩
theorem Cx.Ok.unwish {X : Cx} {E : Value → Shared → Prop} (ok : (X.wish E).Ok) : X.Ok :=
  ⟨ok.mod, ok.kind, ok.glob, ok.blt, ok.above, ok.inj, ok.has, ok.cab, ok.hd, ok.frames, ok.stk, ok.exf, ok.bs, ok.bsz, ok.noex, ok.exfs, ok.funs, ok.frf⟩
section
variable {X : Cx} {pins : List (Addr × Obj)} {σ : St} {H : Hp} {s : Shared} {E : Value → Shared → Prop}
theorem Inv.wish (I : Inv X pins σ H s) (E : Value → Shared → Prop) : Inv (X.wish E) pins σ H s := ⟨I.ok.wish E, I.os, I.bare, I.base, I.loc, I.cell, I.free, I.freeC, I.pin, I.hok, I.len⟩
theorem Inv.unwish (I : Inv (X.wish E) pins σ H s) : Inv X pins σ H s := ⟨I.ok.unwish, I.os, I.bare, I.base, I.loc, I.cell, I.free, I.freeC, I.pin, I.hok, I.len⟩
theorem SP.unwish {D : Ends} {f : Flow} {s' : Shared} (h : SP (X.wish E) pins D f s') : SP X pins D f s' := by
  cases f with
  | next => obtain ⟨σ', H', I, q⟩ := h; exact ⟨σ', H', I.unwish, q⟩
  | brk => obtain ⟨σ', H', I, q⟩ := h; exact ⟨σ', H', I.unwish, q⟩
  | cont => obtain ⟨σ', H', I, q⟩ := h; exact ⟨σ', H', I.unwish, q⟩
  | ret u => obtain ⟨v, σ', H', I, r, q⟩ := h; exact ⟨v, σ', H', I.unwish, r, q⟩
theorem PE.nox {e : Expr} {t : TE} (h : PE X.nox e t) : PE X e t := fun pins s σ H Q I hw =>
  wpAny_mono (h pins s σ H Q (I.wish _) hw) (fun _ _ ⟨v, H', I', r, q⟩ => ⟨v, H', I'.unwish, r, q⟩) fun _ _ z => False.elim z
theorem PT.nox {e : Expr} {t : TT} (h : PT X.nox e t) : PT X e t := fun pins s σ H Q I hw =>
  wpAny_mono (h pins s σ H Q (I.wish _) hw) (fun _ _ ⟨H', I', q⟩ => ⟨H', I'.unwish, q⟩) fun _ _ z => False.elim z
theorem PSs.nox {st : List Stmt} {t : TS} (h : PSs X.nox st t) : PSs X st t := fun pins s σ H D I hw =>
  wpAny_mono (h pins s σ H D (I.wish _) hw) (fun _ _ q => q.unwish) fun _ _ z => False.elim z
end
section
variable {X : Cx} {st : Stmt} {rest : List Stmt} {t u : TS} {e : Expr} {te : TE} {pos : Pos}
def tNext : TS := fun D σ H => D.nx σ H
def tSeq (t u : TS) : TS := fun D σ H => t { D with nx := u D } σ H
theorem pss_nil : PSs X [] tNext := fun _ _ σ H _ I h => wpAny_execs_nil ⟨σ, H, I, h⟩
theorem pss_cons (h1 : PS X st t) (h2 : PSs X rest u) : PSs X (st :: rest) (tSeq t u) := by
  intro pins s σ H D I h
  refine wpAny_execs_cons (thn (h1 pins s σ H { D with nx := u D } I h) fun f s1 q => ?_)
  cases f with
  | next =>
    obtain ⟨σ', H', I', q⟩ := q
    exact h2 pins s1 σ' H' D I' q
  | ret v => exact q
  | brk => exact q
  | cont => exact q
theorem pss_one (h1 : PS X st t) : PSs X [st] t := by
  intro pins s σ H D I h
  refine wpAny_execs_cons (thn (h1 pins s σ H D I h) fun f s1 q => ?_)
  cases f with
  | next => exact wpAny_execs_nil q
  | ret v => exact q
  | brk => exact q
  | cont => exact q
theorem Inv.quiet {pins : List (Addr × Obj)} {σ : St} {H : Hp} {s : Shared} (I : Inv X pins σ H s) : interactive X.env = false := by simp [interactive, I.ok.kind]
def tDrop (te : TE) : TS := fun D σ H => te σ H fun _ H1 => D.nx σ H1
theorem ps_expr (he : PE X e te) (hs : swapsWith e none pos.line X.env = pure false := by rfl) : PS X (.Expr e pos) (tDrop te) := by
  intro pins s σ H D I h
  exact wpAny_Expr_any (thn (he pins s σ H _ I h) fun v s1 ⟨x, H1, I1, r1, q1⟩ => ⟨σ, H1, I1, q1⟩) I.quiet hs
def tRet (te : TE) : TS := fun D σ H => te σ H D.rt
theorem ps_ret (he : PE X e te) : PS X (.Return (some e) pos) (tRet te) := by
  intro pins s σ H D I h
  exact wpAny_Return_some (thn (he pins s σ H _ I h) fun v s1 ⟨x, H1, I1, r1, q1⟩ => ⟨x, σ, H1, I1, r1, q1⟩)
def tRetN : TS := fun D _ H => D.rt .non H
def tIfS (c : TT) (t u : TS) : TS := fun D σ H => c σ H fun b H1 => if b = true then t D σ H1 else u D σ H1
theorem ps_if {c : Expr} {a b : List Stmt} {tc : TT} (hc : PT X c tc) (ha : PSs X a t) (hb : PSs X b u) : PS X (.If c a b pos) (tIfS tc t u) := by
  intro pins s σ H D I h
  refine wpAny_If (thn (hc pins s σ H _ I h) fun d s1 ⟨H1, I1, q1⟩ => ?_)
  cases d with
  | true => exact ha pins s1 σ H1 D I1 q1
  | false => exact hb pins s1 σ H1 D I1 q1
def tNever : TS := fun _ _ _ => False
end
abbrev TG := V → St → Hp → (St → Hp → Prop) → Prop
abbrev TGs := List V → St → Hp → (St → Hp → Prop) → Prop
def PG (X : Cx) (target : Expr) (t : TG) : Prop :=
  ∀ (pins : List (Addr × Obj)) (s : Shared) (σ : St) (H : Hp) (v : V) (u : Value) (Q : St → Hp → Prop), Inv X pins σ H s → RelV v u → t v σ H Q →
    wpAny (model X.prog X.w) X.A (assign target X.env u) (fun _ s' => ∃ σ' H', Inv X pins σ' H' s' ∧ Q σ' H') X.xe s
def PGs (X : Cx) (ts : List Expr) (t : TGs) : Prop :=
  ∀ (pins : List (Addr × Obj)) (s : Shared) (σ : St) (H : Hp) (vs : List V) (us : List Value) (Q : St → Hp → Prop), Inv X pins σ H s → Vals vs us → t vs σ H Q →
    wpAny (model X.prog X.w) X.A (assignInOrder ((assignEach ts X.env).map (·.2)) us) (fun _ s' => ∃ σ' H', Inv X pins σ' H' s' ∧ Q σ' H') X.xe s
abbrev TSet := V → V → V → Hp → (Hp → Prop) → Prop
abbrev TIp := V → V → Hp → VK → Prop
def PIp (X : Cx) (op : Operator) (t : TIp) : Prop :=
  ∀ (pins : List (Addr × Obj)) (s : Shared) (σ : St) (H : Hp) (x y : V) (v u : Value) (Q : VK), Inv X pins σ H s → RelV x v → RelV y u → t x y H Q →
    wpAny (model X.prog X.w) X.A (inplaceOp op v u) (EP X pins σ Q) X.xe s
section
variable {X : Cx} {pos : Pos}
def gName (i : Nat) : TG := fun v σ H Q => Q (σ.set i (some v)) H
theorem pg_name {i : Nat} {x : Str} (hN : X.N.Nodup) (hi : X.N[i]? = some x) (hx : Loc X.env.scope x) (hf : X.fn x = true ∨ X.env.scope.names.lookup x = some .local := by first | exact .inl rfl | exact .inr rfl | assumption) : PG X (.Name x pos) (gName i) := by
  intro pins s σ H v u Q I r h
  exact wpAny_assign_Name (store_ok I hN hi hx r (fun s' I' => ⟨_, H, I', h⟩) hf)
def gNil : TGs := fun vs σ H Q => vs = [] ∧ Q σ H
def gCons (t : TG) (u : TGs) : TGs := fun vs σ H Q => ∃ v r, vs = v :: r ∧ t v σ H fun σ' H' => u r σ' H' Q
theorem pgs_nil : PGs X [] gNil := by
  intro pins s σ H vs us Q I r h
  obtain ⟨e, h⟩ := h
  subst e
  cases r
  exact assignInOrder_nil ⟨σ, H, I, h⟩
theorem pgs_cons {e : Expr} {es : List Expr} {t : TG} {u : TGs} (h1 : PG X e t) (h2 : PGs X es u)
    (hs : (assignEach (e :: es) X.env).map (·.2) = assign e X.env :: (assignEach es X.env).map (·.2) := by rfl) : PGs X (e :: es) (gCons t u) := by
  intro pins s σ H vs us Q I r h
  obtain ⟨v, vr, e1, h⟩ := h
  subst e1
  cases r with
  | cons r rr =>
    rw [hs]
    refine assignInOrder_cons (thn (h1 pins s σ H _ _ _ I r h) fun _ s1 ⟨σ1, H1, I1, q1⟩ => ?_)
    exact h2 pins s1 σ1 H1 _ _ Q I1 rr q1
def gTup (K : PySem.W.Frag) (n : Nat) (t : TGs) : TG := fun v σ H Q => ∃ a xs, v = .ref a ∧ SqT K H a xs ∧ xs.length = n ∧ t xs σ H Q
theorem pg_tup {es : List Expr} {k : Nat} {t : TGs} {n : Nat} (hc : X.calm = true) (h : PGs X es t)
    (hn : (assignEach es X.env).length = n := by rfl) (hst : (assignEach es X.env).findIdx? (·.1) = none := by rfl) : PG X (.Tuple es k pos) (gTup X.K n t) := by
  intro pins s σ H v u Q I r hw
  obtain ⟨a, xs, e1, hq, hl, hw⟩ := hw
  subst e1
  cases r
  obtain ⟨its, rv, ht, hz⟩ := I.tuple hq
  refine assign_Tuple_tuple (I.ok.hd hc) ht (by simp [hn, ← hl, rv.length]) hst fun h' hx => ?_
  have I1 : Inv X pins σ H { s with heap := h' } := I.kept (t' := s.toks) fun b o e => hx b o (Nat.ne_of_lt (Heap.lt_size e)) e
  exact h pins _ σ H xs _ Q I1 (by simpa using rv) hw
def gSub (to ti : TE) (t : TSet) : TG := fun v σ H Q => to σ H fun o H1 => ti σ H1 fun i H2 => t o i v H2 fun H3 => Q σ H3
def tAsg (te : TE) (g : TG) : TS := fun D σ H => te σ H fun x H1 => g x σ H1 D.nx
theorem ps_asg {tg e : Expr} {te : TE} {g : TG} (he : PE X e te) (hg : PG X tg g) (hs : swapsWithSole [tg] e pos.line X.env = pure false := by rfl) (hw : swappedStores [tg] e X.env = pure none := by rfl)
    (h1 : (assignEach [tg] X.env).map (·.2) = [assign tg X.env] := by rfl) : PS X (.Assign [tg] e pos) (tAsg te g) := by
  intro pins s σ H D I h
  refine wpAny_Assign_stores (thn (he pins s σ H _ I h) fun v s1 ⟨x, H1, I1, r1, q1⟩ => ?_) hs hw
  rw [h1]
  exact thn (hg pins s1 σ H1 x v _ I1 r1 q1) fun _ s2 q => q
theorem ps_set {i : Nat} {x : Str} {e : Expr} {te : TE} {pos' : Pos} (hN : X.N.Nodup) (hi : X.N[i]? = some x) (hx : Loc X.env.scope x) (he : PE X e te) (hs : swapsWith e (some (.Name x pos')) pos.line X.env = pure false := by rfl) (hf : X.fn x = true ∨ X.env.scope.names.lookup x = some .local := by first | exact .inl rfl | exact .inr rfl | assumption) :
    PS X (.Assign [.Name x pos'] e pos) (tAsg te (gName i)) := by
  intro pins s σ H D I h
  refine wpAny_Assign_Name (thn (he pins s σ H _ I h) fun v s1 ⟨y, H1, I1, r1, q1⟩ => ?_) hs
  exact store_ok I1 hN hi hx r1 (fun s2 I2 => ⟨_, H1, I2, q1⟩) hf
def tAug (i : Nat) (te : TE) (ti : TIp) : TS := fun D σ H => ∃ x, σ[i]? = some (some x) ∧ te σ H fun y H1 => ti x y H1 fun z H2 => D.nx (σ.set i (some z)) H2
theorem ps_aug {i : Nat} {x : Str} {e : Expr} {te : TE} {op : Operator} {ti : TIp} {pos' : Pos} (hN : X.N.Nodup) (hi : X.N[i]? = some x) (hx : Loc X.env.scope x) (he : PE X e te) (ho : PIp X op ti) (hf : X.fn x = true ∨ X.env.scope.names.lookup x = some .local := by first | exact .inl rfl | exact .inr rfl | assumption) :
    PS X (.AugAssign (.Name x pos') op e pos) (tAug i te ti) := by
  intro pins s σ H D I h
  obtain ⟨v, e1, h⟩ := h
  obtain ⟨m, hn, hl⟩ := I.loc
  have vis : Vis X.env.scope x := by rcases hx with k | k; exact .inl k; exact .inr (.inl k)
  obtain ⟨u, r, l⟩ := hl i x v hi e1 vis
  refine wpAny_AugAssign_Name ?_
  have go : wpAny (model X.prog X.w) X.A (eval e X.env) (fun w s₂ => wpAny (model X.prog X.w) X.A (inplaceOp op u w) (fun r s₃ => wpAny (model X.prog X.w) X.A (storeName X.env x r) (fun _ => SP X pins D .next) X.xe s₃) X.xe s₂) X.xe s := by
    refine thn (he pins s σ H _ I h) fun w s1 ⟨y, H1, I1, r1, q1⟩ => ?_
    refine thn (ho pins s1 σ H1 v y u w _ I1 r r1 q1) fun z s2 ⟨zv, H2, I2, r2, q2⟩ => ?_
    exact store_ok I2 hN hi hx r2 (fun s3 I3 => ⟨_, H2, I3, q2⟩) hf
  rcases l with ⟨hk, hm⟩ | ⟨hk, c, hc, hcell⟩
  · exact wpAny_loadName_local I.ok.kind hk hn hm go
  · rcases hk with hk | hk
    · exact wpAny_loadName_cell I.ok.kind hk hc hcell go
    · rcases hx with k | k
      · have : X.env.scope.names.lookup x = some .free := hk
        rw [k] at this; cases this
      · have : X.env.scope.names.lookup x = some .free := hk
        rw [k] at this; cases this
def ipI (f : Int → Int → Int) : TIp := fun x y H Q => ∃ i j, x = .int i ∧ y = .int j ∧ Q (.int (f i j)) H
theorem ip_add : PIp X .Add (ipI fun i j => i + j) := by
  intro pins s σ H x y v u Q I r1 r2 h
  obtain ⟨i, j, e1, e2, q⟩ := h
  subst e1; subst e2
  obtain ⟨t, rfl⟩ := r1
  obtain ⟨t', rfl⟩ := r2
  exact iadd_int ⟨.int _, H, I.tok _, ⟨_, rfl⟩, q⟩
end
section
variable {X : Cx} {pos : Pos}
def tWhile (c : TT) (tb : TS) : TS := fun D σ H => ∃ W : Nat → St → Hp → Prop, (∃ m, W m σ H) ∧ ∀ m σ H, W m σ H →
  c σ H fun b H1 => if b = true then ∃ N : St → Hp → Prop, (∀ σ' H', N σ' H' → ∃ m', m' < m ∧ W m' σ' H') ∧ tb { D with nx := N, ct := N, bk := D.nx } σ H1 else D.nx σ H1
theorem ps_while {c : Expr} {body : List Stmt} {tc : TT} {tb : TS} (hp : PassesOwn (model X.prog X.w) X.A X.env X.xe) (hc : PT X c tc) (hb : PSs X body tb) : PS X (.While c body [] pos) (tWhile tc tb) := by
  intro pins s σ H D I h
  obtain ⟨W, ⟨m0, w0⟩, turn⟩ := h
  refine wpAny_While (codeAny_whileLoop (fun n s' => ∃ σ' H', Inv X pins σ' H' s' ∧ W n σ' H') ?_ m0 ⟨σ, H, I, w0⟩)
  rintro n s1 ⟨σ1, H1, I1, w1⟩
  refine wpAny_passesOwn hp (thn (hc pins s1 σ1 H1 _ I1 (turn n σ1 H1 w1)) fun b s2 ⟨H2, I2, q2⟩ => ?_)
  cases b with
  | true =>
    obtain ⟨N, hN, q2⟩ := q2
    rw [if_pos rfl]
    refine wpAny_passesOwn hp (thn (hb pins s2 σ1 H2 _ I2 q2) fun f s3 q3 => ?_)
    cases f with
    | next =>
      obtain ⟨σ3, H3, I3, n3⟩ := q3
      obtain ⟨m', hm, w3⟩ := hN σ3 H3 n3
      exact ⟨m', hm, σ3, H3, I3, w3⟩
    | cont =>
      obtain ⟨σ3, H3, I3, n3⟩ := q3
      obtain ⟨m', hm, w3⟩ := hN σ3 H3 n3
      exact ⟨m', hm, σ3, H3, I3, w3⟩
    | brk => exact q3
    | ret v => exact q3
  | false =>
    rw [if_neg Bool.false_ne_true]
    exact wpAny_execs_nil ⟨σ1, H2, I2, q2⟩
end
structure It where
  go : Nat → Hp → Prop
  yld : Nat → Hp → V → Hp → Prop
  stop : Nat → Hp → Prop
def FpOk (X : Cx) (pins : List (Addr × Obj)) (H : Hp) (b : Addr) : Prop :=
  H b = none ∧ b ≠ X.env.locals ∧ b ∉ X.fs ∧ (b ∈ X.ex ∨ X.s₀.heap.objs.size ≤ b) ∧ (∀ x c, X.env.cells.lookup x = some c → c ≠ b) ∧ ∀ p ∈ X.pn ++ pins, p.1 ≠ b
theorem Inv.fpOk {X : Cx} {pins : List (Addr × Obj)} {σ : St} {H H' : Hp} {s : Shared} {b : Addr} (I : Inv X pins σ H s) (hb : s.heap.objs.size ≤ b) (hn : H' b = none) : FpOk X pins H' b := by
  refine ⟨hn, Nat.ne_of_gt (Nat.lt_of_lt_of_le I.lt hb), I.nofs hb, .inr (Nat.le_trans I.sz hb), fun x c e z => ?_, fun p hp z => ?_⟩
  · obtain ⟨v, q⟩ := I.cell x c e
    exact absurd (Nat.lt_of_lt_of_le q.lt (by rw [z]; exact hb)) (Nat.lt_irrefl _)
  · exact absurd (Nat.lt_of_lt_of_le (Heap.lt_size (I.pin p hp).1) (by rw [z]; exact hb)) (Nat.lt_irrefl _)
structure Turn (P : Program) (w : World) (K : PySem.W.Frag) (tg : Expr) (J : It) (fp : List Addr) (it : Addr) (tn : Nat → Heap → Prop) : Prop where
  mem : it ∈ fp
  obj : ∀ i h, tn i h → ∀ b ∈ fp, ∃ o, h.get? b = some o ∧ ∀ v, o.data ≠ .cell v
  keep : ∀ i h h', tn i h → (∀ b ∈ fp, ∀ o, h.get? b = some o → h'.get? b = some o) → tn i h'
  item : ∀ (X : Cx), X.prog = P → X.w = w → X.K = K → X.calm = true → ∀ (i : Nat) (pins : List (Addr × Obj)) (s : Shared) (σ : St) (H : Hp) (E : Value → Shared → Prop), Inv X pins σ H s → (∀ b ∈ fp, FpOk X pins H b) → tn i s.heap → J.go i H →
    wpAny (model P w) X.A (pyNext (.ref it)) (fun r s1 => ∃ u, r = some u ∧
      wpAny (model P w) X.A (letOwnedTupleGo tg (.ref it) u) (fun _ s2 => ∃ x H', Inv X pins σ H' s2 ∧ RelV x u ∧ J.yld i H x H' ∧ tn (i + 1) s2.heap ∧ ∀ b ∈ fp, H' b = none) E s1) E s
  done : ∀ (X : Cx), X.prog = P → X.w = w → X.K = K → X.calm = true → ∀ (i : Nat) (pins : List (Addr × Obj)) (s : Shared) (σ : St) (H : Hp) (E : Value → Shared → Prop), Inv X pins σ H s → (∀ b ∈ fp, FpOk X pins H b) → tn i s.heap → J.stop i H →
    wpAny (model P w) X.A (pyNext (.ref it)) (fun r s1 => r = none ∧ Inv X pins σ H s1) E s
  self : ∀ (A : Around) (i : Nat) (s : Shared) (Q : Value → Shared → Prop) (E : Value → Shared → Prop), tn i s.heap → Q (.ref it) s → wpAny (model P w) A (pyIter (.ref it)) Q E s
abbrev TI := St → Hp → (It → Hp → Prop) → Prop
def PIE (X : Cx) (pins : List (Addr × Obj)) (σ : St) (tg : Expr) (R : It → Hp → Prop) (itv : Value) (s2 : Shared) : Prop :=
  ∃ (it : Addr) (fp : List Addr) (tn : Nat → Heap → Prop) (J : It) (H' : Hp), itv = .ref it ∧ Inv X pins σ H' s2 ∧ Turn X.prog X.w X.K tg J fp it tn ∧ tn 0 s2.heap ∧ (∀ b ∈ fp, FpOk X pins H' b) ∧ R J H'
def PI (X : Cx) (tg iter : Expr) (wi : TI) : Prop :=
  ∀ (pins : List (Addr × Obj)) (s : Shared) (σ : St) (H : Hp) (R : It → Hp → Prop), Inv X pins σ H s → wi σ H R →
    wpAny (model X.prog X.w) X.A (eval iter X.env) (fun v s1 => wpAny (model X.prog X.w) X.A (pyIter v) (PIE X pins σ tg R) X.xe s1) X.xe s
theorem go_of {M : Model} {A : Around} {E : Value → Shared → Prop} {s : Shared} {tg : Expr} {it : Addr} {u : Value} {o : Obj} {n : String} {vs : Array Value} {Q : Unit → Shared → Prop} (ho : s.heap.get? it = some o) (hc : o.cls = .type n) (hd : o.data = .fields vs)
    (hn : ["enumerate", "zip", "dict_itemiterator", "dict_reverseitemiterator", "odict_iterator", "itertools.zip_longest", "itertools.pairwise"].contains n = false) (hQ : Q () s) : wpAny M A (letOwnedTupleGo tg (.ref it) u) Q E s := by
  unfold letOwnedTupleGo
  cases tg <;> first
    | exact wpAny_pure hQ
    | (cases u <;> first
        | exact wpAny_pure hQ
        | (refine wpAny_bind (wpAny_load ho ?_)
           rw [hc, hd]
           show wpAny M A (if (["enumerate", "zip", "dict_itemiterator", "dict_reverseitemiterator", "odict_iterator", "itertools.zip_longest", "itertools.pairwise"].contains n && vs[0]? == some (rawInt _)) = true then _ else _) Q E s
           rw [if_neg (by intro h; rw [hn, Bool.false_and] at h; cases h)]
           exact wpAny_pure hQ))
def Itl (K : PySem.W.Frag) (a : Addr) : It :=
  ⟨fun i H => ∃ xs x, SqL K H a xs ∧ xs[i]? = some x, fun i H x H' => H' = H ∧ ∀ xs, SqL K H a xs → xs[i]? = some x, fun i H => ∃ xs, SqL K H a xs ∧ xs.length ≤ i⟩
def Itt (K : PySem.W.Frag) (a : Addr) : It :=
  ⟨fun i H => ∃ xs x, SqT K H a xs ∧ xs[i]? = some x, fun i H x H' => H' = H ∧ ∀ xs, SqT K H a xs → xs[i]? = some x, fun i H => ∃ xs, SqT K H a xs ∧ xs.length ≤ i⟩
def Itr (lo : Int) (n : Nat) : It := ⟨fun i _ => i < n, fun i H x H' => H' = H ∧ x = .int (lo + i), fun i _ => n ≤ i⟩
theorem turn_list {P : Program} {w : World} {K : PySem.W.Frag} {tg : Expr} (a it : Addr) : Turn P w K tg (Itl K a) [it] it (fun i h => h.IsListIter it a i) where
  mem := by simp
  obj := fun i h st b hb => by
    have e : b = it := by simpa using hb
    subst e
    obtain ⟨o, e, c, d⟩ := st
    exact ⟨o, e, fun v z => by rw [d] at z; cases z⟩
  keep := fun i h h' st k => st.at fun o e => k it (by simp) o e
  item := by
    intro X hP hw hK hc i pins s σ H E I hf st hg
    subst hP hw hK
    obtain ⟨xs, x, hq, hx⟩ := hg
    obtain ⟨its, rv, p, hz⟩ := I.list hq
    obtain ⟨u, hu, ru⟩ := rv.get hx
    obtain ⟨f0, f1, f2, f3, f4, f5⟩ := hf it (by simp)
    refine wpAny_pyNext_list_item st p.isList (x := u) (by simpa using hu) fun h' st' sb => ?_
    have I1 : Inv X pins σ H { s with heap := h' } := I.turned (t' := s.toks) (fun b o hb e => (sb.2 b hb).trans e) f0 f1 f3 f4 f5
    obtain ⟨o, e, c, d⟩ := id st'
    exact ⟨u, rfl, go_of (s := { s with heap := h' }) e c d (by decide) ⟨x, H, I1, ru, ⟨rfl, fun ys hy => by rw [I.list_inj hy hq]; exact hx⟩, st', fun b hb => (hf b hb).1⟩⟩
  done := by
    intro X hP hw hK hc i pins s σ H E I hf st hg
    subst hP hw hK
    obtain ⟨xs, hq, hx⟩ := hg
    obtain ⟨its, rv, p, hz⟩ := I.list hq
    obtain ⟨f0, f1, f2, f3, f4, f5⟩ := hf it (by simp)
    have hl := rv.length
    exact wpAny_pyNext_list_end (I.ok.hd hc) st p.isList (by simp; omega) fun h' eb => ⟨rfl, I.turned (t' := s.toks) (fun b o hb e => eb b o hb e) f0 f1 f3 f4 f5⟩
  self := fun _ _ _ _ _ st h => wpAny_pyIter_listiter st h
theorem turn_range {P : Program} {w : World} {K : PySem.W.Frag} {tg : Expr} (it : Addr) (lo : Int) (n : Nat) : Turn P w K tg (Itr lo n) [it] it (fun i h => IsRangeIter h it (lo + (i : Nat) * 1) ((n : Int) - (i : Nat)) 1) where
  mem := by simp
  obj := fun i h st b hb => by
    have e : b = it := by simpa using hb
    subst e
    exact ⟨_, st, fun v z => by
      have z' : Data.fields _ = Data.cell v := z
      cases z'⟩
  keep := fun i h h' st k => k it (by simp) _ st
  item := by
    intro X hP hw hK hc i pins s σ H E I hf st hg
    subst hP hw hK
    obtain ⟨f0, f1, f2, f3, f4, f5⟩ := hf it (by simp)
    have W := Walks.range (prog := X.prog) (w := X.w) (I.ok.hd hc) it lo 1 n
    refine W.item i s _ _ hg st fun v h' tk hv st' kk => ?_
    obtain ⟨t, rfl⟩ := hv
    have I1 : Inv X pins σ H { s with heap := h', toks := tk } := I.turned (fun b o hb e => kk b o (by simpa using hb) e) f0 f1 f3 f4 f5
    refine ⟨_, rfl, go_of (s := { s with heap := h', toks := tk }) (n := "range_iterator") st' rfl rfl (by decide) ⟨.int (lo + i), H, I1, ⟨t, ?_⟩, ⟨rfl, rfl⟩, st', fun b hb => (hf b hb).1⟩⟩
    rw [Int.mul_one]
  done := by
    intro X hP hw hK hc i pins s σ H E I hf st hg
    subst hP hw hK
    obtain ⟨f0, f1, f2, f3, f4, f5⟩ := hf it (by simp)
    exact wpAny_pyNext_range_end (I.ok.hd hc) st (by have : n ≤ i := hg; omega) fun h' eb => ⟨rfl, I.turned (t' := s.toks) (fun b o hb e => eb b o hb e) f0 f1 f3 f4 f5⟩
  self := fun _ _ _ _ _ st h => wpAny_pyIter_rangeiter st h
end L2
namespace L2
open PySem PySem.Spec PyProof.Rows
section
variable {X : Cx} {tg : Expr}
def iList (K : PySem.W.Frag) (tl : TE) : TI := fun σ H R => tl σ H fun x H1 => ∃ a, x = .ref a ∧ (∃ xs, SqL K H1 a xs) ∧ R (Itl K a) H1
def iTup (K : PySem.W.Frag) (tl : TE) : TI := fun σ H R => tl σ H fun x H1 => ∃ a, x = .ref a ∧ (∃ xs, SqT K H1 a xs) ∧ R (Itt K a) H1
theorem pi_list {l : Expr} {tl : TE} (hl : PE X l tl) : PI X tg l (iList X.K tl) := by
  intro pins s σ H R I h
  refine thn (hl pins s σ H _ I h) fun v s1 ⟨x, H1, I1, r1, q1⟩ => ?_
  obtain ⟨a, e, ⟨xs, hq⟩, q⟩ := q1
  subst e
  cases r1
  obtain ⟨its, rv, p, hz⟩ := I1.list hq
  refine wpAny_pyIter_list p.isList ?_
  refine ⟨s1.heap.objs.size, [s1.heap.objs.size], _, _, H1, rfl, I1.kept (t' := s1.toks) fun b o e => Heap.get?_push_of_some _ e, turn_list a _, ⟨_, Heap.get?_push_size _ rfl, rfl, rfl⟩, fun b hb => ?_, q⟩
  have e : b = s1.heap.objs.size := by simpa using hb
  subst e
  exact I1.fpOk (Nat.le_refl _) (I1.hok.fresh (Nat.le_refl _))
theorem range_it {pins : List (Addr × Obj)} {σ : St} {H : Hp} {s : Shared} {R : It → Hp → Prop} {E : Value → Shared → Prop} {lo hi : Int} {t u v : Tok} {tk : Nat} (I : Inv X pins σ H s) (h1 : -(2 ^ 62) ≤ lo) (h2 : lo < 2 ^ 62) (h3 : -(2 ^ 62) ≤ hi) (h4 : hi < 2 ^ 62)
    (q : R (Itr lo (hi - lo).toNat) H) : wpAny (model X.prog X.w) X.A (pyIter (.ref s.heap.objs.size)) (PIE X pins σ tg R) E { s with heap := s.heap.push { cls := .type "range", data := .fields #[.int lo t, .int hi u, .int 1 v] }, toks := tk } := by
  refine wpAny_pyIter_range (IsRange.new ..) (small_one h1 h2 h3 h4) ?_
  have I1 : Inv X pins σ H { s with heap := s.heap.push { cls := .type "range", data := .fields #[.int lo t, .int hi u, .int 1 v] }, toks := tk } := I.kept fun b o e => Heap.get?_push_of_some _ e
  refine ⟨(s.heap.push { cls := .type "range", data := .fields #[.int lo t, .int hi u, .int 1 v] }).objs.size, [(s.heap.push { cls := .type "range", data := .fields #[.int lo t, .int hi u, .int 1 v] }).objs.size], _, _, H, rfl,
    I1.kept (t' := tk) fun b o e => Heap.get?_push_of_some _ e, turn_range _ lo (hi - lo).toNat, ?_, fun b hb => ?_, q⟩
  · have e1 : lo + ((0 : Nat) : Int) * 1 = lo := by simp
    have e2 : (((hi - lo).toNat : Nat) : Int) - ((0 : Nat) : Int) = Builtin.Range.rangeSize lo hi 1 := by rw [rangeSize_one]; split <;> omega
    show IsRangeIter _ _ (lo + ((0 : Nat) : Int) * 1) ((((hi - lo).toNat : Nat) : Int) - ((0 : Nat) : Int)) 1
    rw [e1, e2]
    exact Heap.get?_push_size _ rfl
  · have e : b = (s.heap.push { cls := .type "range", data := .fields #[.int lo t, .int hi u, .int 1 v] }).objs.size := by simpa using hb
    subst e
    exact I1.fpOk (Nat.le_refl _) (I1.hok.fresh (Nat.le_refl _))
def iRng1 (ta : TA) : TI := fun σ H R => ta σ H fun vs H1 => ∃ j : Int, vs = [.int j] ∧ -(2 ^ 62) ≤ j ∧ j < 2 ^ 62 ∧ R (Itr 0 j.toNat) H1
def iRng2 (ta : TA) : TI := fun σ H R => ta σ H fun vs H1 => ∃ i j : Int, vs = [.int i, .int j] ∧ (-(2 ^ 62) ≤ i ∧ i < 2 ^ 62 ∧ -(2 ^ 62) ≤ j ∧ j < 2 ^ 62) ∧ R (Itr i (j - i).toNat) H1
theorem pi_range1 {a : Expr} {ta : TA} {p pos : Pos} (hg : Gl X "range") (hm : X.mg "range" = none) (ha : PA X [a] ta) (hs : starEach [a] X.env = [(false, eval a X.env)] := by rfl) : PI X tg (.Call (.Name "range" p) [a] [] pos) (iRng1 ta) := by
  intro pins s σ H R I h
  refine Call_ (ld_blt I hg hm boot_range (PyProof.Rows.callWith_type1 (thn (ha pos pins s σ H _ I h) fun us s1 ⟨vs, H1, I1, r1, q1⟩ => ?_) hs rfl))
  obtain ⟨j, e, q1, q2, q⟩ := q1
  subst e
  cases r1 with
  | cons r rr =>
    cases rr
    obtain ⟨t, rfl⟩ := r
    exact call_range_1 (range_it I1 (by omega) (by omega) q1 q2 (by simpa using q))
def tFor (wi : TI) (g : TG) (tb : TS) : TS := fun D σ H => wi σ H fun J H1 => ∃ W : Nat → Nat → St → Hp → Prop, (∃ m, W 0 m σ H1) ∧ ∀ i m σ H, W i m σ H →
  (J.stop i H ∧ D.nx σ H) ∨ (J.go i H ∧ ∃ N : St → Hp → Prop, (∀ σ' H', N σ' H' → ∃ m', m' < m ∧ W (i + 1) m' σ' H') ∧ ∀ x H', J.yld i H x H' → g x σ H' fun σ2 H2 => tb { D with nx := N, ct := N, bk := D.nx } σ2 H2)
def pinsAt (fp : List Addr) (h : Heap) : List (Addr × Obj) := fp.filterMap fun b => (h.get? b).map fun o => (b, o)
theorem mem_pinsAt {fp : List Addr} {h : Heap} {b : Addr} {o : Obj} (hb : b ∈ fp) (e : h.get? b = some o) : (b, o) ∈ pinsAt fp h := List.mem_filterMap.mpr ⟨b, hb, by rw [e]; rfl⟩
theorem of_pinsAt {fp : List Addr} {h : Heap} {p : Addr × Obj} (hp : p ∈ pinsAt fp h) : p.1 ∈ fp ∧ h.get? p.1 = some p.2 := by
  obtain ⟨b, hb, e⟩ := List.mem_filterMap.mp hp
  cases q : h.get? b with
  | none => rw [q] at e; cases e
  | some o =>
    rw [q] at e
    have e' : (b, o) = p := Option.some.inj e
    subst e'
    exact ⟨hb, q⟩
theorem Inv.pinned {pins : List (Addr × Obj)} {σ : St} {H : Hp} {s : Shared} {fp : List Addr} (I : Inv X pins σ H s) (hf : ∀ b ∈ fp, FpOk X pins H b) (ho : ∀ b ∈ fp, ∃ o, s.heap.get? b = some o ∧ ∀ v, o.data ≠ .cell v) : Inv X (pins ++ pinsAt fp s.heap) σ H s :=
  I.pins_of fun p hp => (List.mem_append.mp hp).elim (fun z => I.pin p (List.mem_append_right _ z)) fun z => by
    obtain ⟨hb, e⟩ := of_pinsAt z
    obtain ⟨f0, f1, f2, _⟩ := hf p.1 hb
    obtain ⟨o, e', d⟩ := ho p.1 hb
    rw [e] at e'; cases e'
    exact ⟨e, f0, f1, f2, d⟩
theorem Inv.unpinned {pins pl : List (Addr × Obj)} {σ : St} {H : Hp} {s : Shared} (I : Inv X (pins ++ pl) σ H s) : Inv X pins σ H s := I.pins_of fun p hp => I.pin p (List.mem_append_right _ (List.mem_append_left _ hp))
theorem ps_for {iter : Expr} {body : List Stmt} {wi : TI} {g : TG} {tb : TS} {pos : Pos} (hp : PassesOwn (model X.prog X.w) X.A X.env X.xe) (hc : X.calm = true) (hi : PI X tg iter wi) (hg : PG X tg g) (hb : PSs X body tb)
    (hs : ∀ x, foldedSetIterable iter X.env x = pure x := by intro _; rfl) : PS X (.For tg iter body [] pos) (tFor wi g tb) := by
  intro pins s σ H D I h
  refine wpAny_For (thn (hi pins s σ H _ I h) fun v s1 h1 => thn h1 fun itv s2 h2 => ?_) hs
  obtain ⟨it, fp, tn, J, H2, e, I2, T, st2, f2, W, ⟨m0, w0⟩, turn⟩ := h2
  subst e
  have stat : ∀ {H' : Hp}, (∀ b ∈ fp, H' b = none) → ∀ b ∈ fp, FpOk X pins H' b := fun hn b hb => ⟨hn b hb, (f2 b hb).2⟩
  refine codeAny_forLoop_any (fun n s' => ∃ i σ' H', Inv X pins σ' H' s' ∧ tn i s'.heap ∧ (∀ b ∈ fp, H' b = none) ∧ W i n σ' H') ?_ m0 ⟨0, σ, H2, I2, st2, fun b hb => (f2 b hb).1, w0⟩
  rintro n s3 ⟨i, σ3, H3, I3, st3, fr3, w3⟩
  rcases turn i n σ3 H3 w3 with ⟨stop, qn⟩ | ⟨go, N, hN, step⟩
  · refine wpAny_passesOwn hp (thn (T.done X rfl rfl rfl hc i pins s3 σ3 H3 X.xe I3 (stat fr3) st3 stop) fun r s4 ⟨hr, I4⟩ => ?_)
    subst hr
    exact wpAny_execs_nil ⟨σ3, H3, I4, qn⟩
  · refine wpAny_passesOwn hp (thn (T.item X rfl rfl rfl hc i pins s3 σ3 H3 X.xe I3 (stat fr3) st3 go) fun r s4 ⟨u, hr, h4⟩ => ?_)
    subst hr
    refine wpAny_passesOwn hp (thn h4 fun _ s5 ⟨x, H5, I5, r5, y5, st5, fr5⟩ => ?_)
    have I5' := I5.pinned (stat fr5) (T.obj _ _ st5)
    refine wpAny_passesOwn hp (thn (hg _ s5 σ3 H5 x u _ I5' r5 (step x H5 y5)) fun _ s6 ⟨σ6, H6, I6, q6⟩ => ?_)
    refine wpAny_passesOwn hp (thn (hb _ s6 σ6 H6 _ I6 q6) fun f s7 q7 => ?_)
    have again : ∀ {σ7 : St} {H7 : Hp}, Inv X (pins ++ pinsAt fp s5.heap) σ7 H7 s7 → N σ7 H7 → ∃ m, m < n ∧ ∃ i σ' H', Inv X pins σ' H' s7 ∧ tn i s7.heap ∧ (∀ b ∈ fp, H' b = none) ∧ W i m σ' H' := fun {σ7 H7} I7 n7 => by
      obtain ⟨m', hm, w7⟩ := hN σ7 H7 n7
      refine ⟨m', hm, i + 1, σ7, H7, I7.unpinned, T.keep _ _ _ st5 fun b hb o e => (I7.pin (b, o) (List.mem_append_right _ (List.mem_append_right _ (mem_pinsAt hb e)))).1, fun b hb => ?_, w7⟩
      obtain ⟨o, e, d⟩ := T.obj _ _ st5 b hb
      exact (I7.pin (b, o) (List.mem_append_right _ (List.mem_append_right _ (mem_pinsAt hb e)))).2.1
    cases f with
    | next => obtain ⟨σ7, H7, I7, n7⟩ := q7; exact again I7 n7
    | cont => obtain ⟨σ7, H7, I7, n7⟩ := q7; exact again I7 n7
    | brk => obtain ⟨σ7, H7, I7, q7⟩ := q7; exact ⟨σ7, H7, I7.unpinned, q7⟩
    | ret v => obtain ⟨x7, σ7, H7, I7, r7, q7⟩ := q7; exact ⟨x7, σ7, H7, I7.unpinned, r7, q7⟩
end
theorem for_list {K : PySem.W.Frag} {a : Addr} {xs : List V} {g : TG} {tb : TS} {D : Ends} {σ : St} {H : Hp} (Pv : Nat → St → Hp → Prop) (h0 : Pv 0 σ H) (hl : ∀ i σ H, i ≤ xs.length → Pv i σ H → SqL K H a xs)
    (hs : ∀ i x σ H, xs[i]? = some x → Pv i σ H → g x σ H fun σ2 H2 => tb { D with nx := Pv (i + 1), ct := Pv (i + 1), bk := D.nx } σ2 H2) (hd : ∀ σ H, Pv xs.length σ H → D.nx σ H) :
    ∃ W : Nat → Nat → St → Hp → Prop, (∃ m, W 0 m σ H) ∧ ∀ i m σ H, W i m σ H →
      ((Itl K a).stop i H ∧ D.nx σ H) ∨ ((Itl K a).go i H ∧ ∃ N : St → Hp → Prop, (∀ σ' H', N σ' H' → ∃ m', m' < m ∧ W (i + 1) m' σ' H') ∧ ∀ x H', (Itl K a).yld i H x H' → g x σ H' fun σ2 H2 => tb { D with nx := N, ct := N, bk := D.nx } σ2 H2) := by
  refine ⟨fun i m σ H => m = xs.length - i ∧ i ≤ xs.length ∧ Pv i σ H, ⟨xs.length, by simp, Nat.zero_le _, h0⟩, ?_⟩
  rintro i m σ H ⟨rfl, hi, p⟩
  have q := hl i σ H hi p
  by_cases hlt : i < xs.length
  · refine .inr ⟨⟨xs, xs[i], q, by simp [hlt]⟩, Pv (i + 1), fun σ' H' p' => ⟨xs.length - (i + 1), by omega, rfl, hlt, p'⟩, fun x H' y => ?_⟩
    obtain ⟨e, y⟩ := y
    subst e
    exact hs i x σ _ (y xs q) p
  · have e : i = xs.length := by omega
    subst e
    exact .inl ⟨⟨xs, q, Nat.le_refl _⟩, hd σ H p⟩
theorem for_range {lo : Int} {n : Nat} {g : TG} {tb : TS} {D : Ends} {σ : St} {H : Hp} (Pv : Nat → St → Hp → Prop) (h0 : Pv 0 σ H)
    (hs : ∀ i σ H, i < n → Pv i σ H → g (.int (lo + i)) σ H fun σ2 H2 => tb { D with nx := Pv (i + 1), ct := Pv (i + 1), bk := D.nx } σ2 H2) (hd : ∀ σ H, Pv n σ H → D.nx σ H) :
    ∃ W : Nat → Nat → St → Hp → Prop, (∃ m, W 0 m σ H) ∧ ∀ i m σ H, W i m σ H →
      ((Itr lo n).stop i H ∧ D.nx σ H) ∨ ((Itr lo n).go i H ∧ ∃ N : St → Hp → Prop, (∀ σ' H', N σ' H' → ∃ m', m' < m ∧ W (i + 1) m' σ' H') ∧ ∀ x H', (Itr lo n).yld i H x H' → g x σ H' fun σ2 H2 => tb { D with nx := N, ct := N, bk := D.nx } σ2 H2) := by
  refine ⟨fun i m σ H => m = n - i ∧ i ≤ n ∧ Pv i σ H, ⟨n, by simp, Nat.zero_le _, h0⟩, ?_⟩
  rintro i m σ H ⟨rfl, hi, p⟩
  by_cases hlt : i < n
  · refine .inr ⟨hlt, Pv (i + 1), fun σ' H' p' => ⟨n - (i + 1), by omega, rfl, hlt, p'⟩, fun x H' y => ?_⟩
    obtain ⟨e, y⟩ := y
    subst e y
    exact hs i σ _ hlt p
  · have e : i = n := by omega
    subst e
    exact .inl ⟨Nat.le_refl _, hd σ H p⟩
end L2
namespace L2
open PySem PySem.Spec PyProof.Rows
abbrev R2 := V → V → Hp → VK → Prop
def OpR (X : Cx) (f : Value → Value → Sem Value) (r : R2) : Prop :=
  ∀ (pins : List (Addr × Obj)) (s : Shared) (σ : St) (H : Hp) (x y : V) (v u : Value) (Q : VK), Inv X pins σ H s → RelV x v → RelV y u → r x y H Q →
    wpAny (model X.prog X.w) X.A (f v u) (EP X pins σ Q) X.xe s
def UnR (X : Cx) (f : Value → Sem Value) (r : V → Hp → VK → Prop) : Prop :=
  ∀ (pins : List (Addr × Obj)) (s : Shared) (σ : St) (H : Hp) (x : V) (v : Value) (Q : VK), Inv X pins σ H s → RelV x v → r x H Q →
    wpAny (model X.prog X.w) X.A (f v) (EP X pins σ Q) X.xe s
def CallR (X : Cx) (f : Value) (r : List V → Hp → VK → Prop) : Prop :=
  ∀ (pins : List (Addr × Obj)) (s : Shared) (σ : St) (H : Hp) (xs : List V) (us : List Value) (Q : VK), Inv X pins σ H s → Vals xs us → r xs H Q →
    wpAny (model X.prog X.w) X.A (call f us) (EP X pins σ Q) X.xe s
def TruR (X : Cx) (r : V → Hp → (Bool → Hp → Prop) → Prop) : Prop :=
  ∀ (pins : List (Addr × Obj)) (s : Shared) (σ : St) (H : Hp) (x : V) (v : Value) (Q : Bool → Hp → Prop), Inv X pins σ H s → RelV x v → r x H Q →
    wpAny (model X.prog X.w) X.A (truthy v) (TP X pins σ Q) X.xe s
def tOp (r : R2) (ta tb : TE) : TE := fun σ H Q => ta σ H fun x H1 => tb σ H1 fun y H2 => r x y H2 Q
def tUn (r : V → Hp → VK → Prop) (ta : TE) : TE := fun σ H Q => ta σ H fun x H1 => r x H1 Q
def rI (C : Int → Int → Prop) (g : Int → Int → V) : R2 := fun x y H Q => ∃ i j, x = .int i ∧ y = .int j ∧ C i j ∧ Q (g i j) H
def rI0 (g : Int → Int → V) : R2 := fun x y H Q => ∃ i j, x = .int i ∧ y = .int j ∧ Q (g i j) H
def rU (g : Int → V) : V → Hp → VK → Prop := fun x H Q => ∃ i, x = .int i ∧ Q (g i) H
section
variable {X : Cx} {a b c : Expr} {ta tb tc : TE} {pos : Pos}
theorem binT (ha : PE X a ta) (hb : PE X b tb) {pins : List (Addr × Obj)} {s : Shared} {σ : St} {H : Hp} {R : V → V → Hp → Prop} (I : Inv X pins σ H s)
    (h : ta σ H fun x H1 => tb σ H1 fun y H2 => R x y H2) {Q : Value → Shared → Prop} {f : Value → Value → Sem Value}
    (hf : ∀ v u s2 x y H2, Inv X pins σ H2 s2 → RelV x v → RelV y u → R x y H2 → wpAny (model X.prog X.w) X.A (f v u) Q X.xe s2) :
    wpAny (model X.prog X.w) X.A (eval a X.env) (fun v s₁ => wpAny (model X.prog X.w) X.A (eval b X.env) (fun u s₂ => wpAny (model X.prog X.w) X.A (f v u) Q X.xe s₂) X.xe s₁) X.xe s := by
  refine thn (ha pins s σ H _ I h) fun v s1 ⟨x, H1, I1, r1, q1⟩ => ?_
  refine thn (hb pins s1 σ H1 _ I1 q1) fun u s2 ⟨y, H2, I2, r2, q2⟩ => ?_
  exact hf v u s2 x y H2 I2 r1 r2 q2
theorem pe_op {op : Operator} {r : R2} (ho : OpR X (binaryOp op) r) (ha : PE X a ta) (hb : PE X b tb) : PE X (.BinOp a op b pos) (tOp r ta tb) := by
  intro pins s σ H Q I h
  exact wpAny_BinOp (binT ha hb I h fun v u s2 x y H2 I2 rx ry q => ho pins s2 σ H2 x y v u Q I2 rx ry q)
theorem pe_un {op : UnaryOp} {r : V → Hp → VK → Prop} (ho : UnR X (unaryOp op) r) (ha : PE X a ta) : PE X (.UnaryOp op a pos) (tUn r ta) := by
  intro pins s σ H Q I h
  exact UnaryOp_ (thn (ha pins s σ H _ I h) fun v s1 ⟨x, H1, I1, r1, q1⟩ => ho pins s1 σ H1 x v Q I1 r1 q1)
theorem opI {f : Value → Value → Sem Value} {C : Int → Int → Prop} {g : Int → Int → Int}
    (rule : ∀ (i j : Int) (t u : Tok) (s : Shared) (Q : Value → Shared → Prop) (E : Value → Shared → Prop), C i j → Q (.int (g i j) s.toks) { s with toks := s.toks + 1 } → wpAny (model X.prog X.w) X.A (f (.int i t) (.int j u)) Q E s) :
    OpR X f (rI C fun i j => .int (g i j)) := by
  intro pins s σ H x y v u Q I rx ry h
  obtain ⟨i, j, rfl, rfl, hc, q⟩ := h
  obtain ⟨t, rfl⟩ := rx
  obtain ⟨t', rfl⟩ := ry
  exact rule i j t t' s _ _ hc ⟨.int (g i j), H, I.tok _, ⟨_, rfl⟩, q⟩
theorem opI0 {f : Value → Value → Sem Value} {g : Int → Int → Int}
    (rule : ∀ (i j : Int) (t u : Tok) (s : Shared) (Q : Value → Shared → Prop) (E : Value → Shared → Prop), Q (.int (g i j) s.toks) { s with toks := s.toks + 1 } → wpAny (model X.prog X.w) X.A (f (.int i t) (.int j u)) Q E s) :
    OpR X f (rI0 fun i j => .int (g i j)) := by
  intro pins s σ H x y v u Q I rx ry h
  obtain ⟨i, j, rfl, rfl, q⟩ := h
  obtain ⟨t, rfl⟩ := rx
  obtain ⟨t', rfl⟩ := ry
  exact rule i j t t' s _ _ ⟨.int (g i j), H, I.tok _, ⟨_, rfl⟩, q⟩
theorem opB0 {f : Value → Value → Sem Value} {g : Int → Int → Bool}
    (rule : ∀ (i j : Int) (t u : Tok) (s : Shared) (Q : Value → Shared → Prop) (E : Value → Shared → Prop), Q (.bool (g i j)) s → wpAny (model X.prog X.w) X.A (f (.int i t) (.int j u)) Q E s) :
    OpR X f (rI0 fun i j => .bl (g i j)) := by
  intro pins s σ H x y v u Q I rx ry h
  obtain ⟨i, j, rfl, rfl, q⟩ := h
  obtain ⟨t, rfl⟩ := rx
  obtain ⟨t', rfl⟩ := ry
  exact rule i j t t' s _ _ ⟨.bl (g i j), H, I, rfl, q⟩
def CDiv (i j : Int) : Prop := 0 < j ∧ j < 1073741824
def CPow (i j : Int) : Prop := 0 ≤ j ∧ j ≤ 1000000 ∧ i.natAbs < 2 ^ 64
def CMul (i j : Int) : Prop := (-(2 ^ 64) < i ∧ i < 2 ^ 64) ∨ (-(2 ^ 64) < j ∧ j < 2 ^ 64)
theorem CMul.ok {i j : Int} (h : CMul i j) : IntMulOk i j := by
  rcases h with ⟨h1, h2⟩ | ⟨h1, h2⟩
  · exact .of_left (intBits_le_64 h1 h2)
  · exact .of_right (intBits_le_64 h1 h2)
theorem two_pow_nn (k : Nat) : (0 : Int) ≤ 2 ^ k := by
  rw [two_pow_cast]
  exact Int.natCast_nonneg _
theorem op_add : OpR X (binaryOp .Add) (rI0 fun i j => .int (i + j)) := opI0 fun _ _ _ _ _ _ _ q => add_int q
theorem op_sub : OpR X (binaryOp .Sub) (rI0 fun i j => .int (i - j)) := opI0 fun _ _ _ _ _ _ _ q => sub_int q
theorem op_mul : OpR X (binaryOp .Mult) (rI CMul fun i j => .int (i * j)) := opI fun _ _ _ _ _ _ _ hc q => mul_int q hc.ok
theorem op_fdiv : OpR X (binaryOp .FloorDiv) (rI CDiv fun i j => .int (i / j)) := opI fun i j _ _ _ _ _ hc q => by
  have h1 : (0 : Int) < j := hc.1
  have h2 : j < 1073741824 := hc.2
  exact floordiv_int (by omega) (by rw [Int.fdiv_eq_ediv_of_nonneg i (by omega)]; exact q) (.inl (PyProof.noPylong_small (by omega)))
theorem op_mod : OpR X (binaryOp .Mod) (rI (fun _ j => 0 < j) fun i j => .int (i % j)) := opI fun i j _ _ _ _ _ hc q => by
  have h1 : (0 : Int) < j := hc
  exact mod_int' (by omega) (by rw [Int.fmod_eq_emod_of_nonneg i (by omega)]; exact q)
theorem op_shl : OpR X (binaryOp .LShift) (rI CPow fun i j => .int (i * 2 ^ j.toNat)) := opI fun _ _ _ _ _ _ _ hc q => lshift_int_small hc.1 hc.2.1 hc.2.2 q
theorem op_shr : OpR X (binaryOp .RShift) (rI (fun _ j => 0 ≤ j) fun i j => .int (i / 2 ^ j.toNat)) := opI fun i j _ _ _ _ _ hc q =>
  rshift_int hc (by rw [Int.fdiv_eq_ediv_of_nonneg i (two_pow_nn _)]; exact q)
theorem op_and : OpR X (binaryOp .BitAnd) (rI0 fun i j => .int (Builtin.bitAnd i j)) := opI0 fun _ _ _ _ _ _ _ q => and_int q
theorem op_or : OpR X (binaryOp .BitOr) (rI0 fun i j => .int (Builtin.bitOr i j)) := opI0 fun _ _ _ _ _ _ _ q => or_int q
theorem op_xor : OpR X (binaryOp .BitXor) (rI0 fun i j => .int (Builtin.bitXor i j)) := opI0 fun _ _ _ _ _ _ _ q => xor_int q
theorem unI {f : Value → Sem Value} {g : Int → Int}
    (rule : ∀ (i : Int) (t : Tok) (s : Shared) (Q : Value → Shared → Prop) (E : Value → Shared → Prop), Q (.int (g i) s.toks) { s with toks := s.toks + 1 } → wpAny (model X.prog X.w) X.A (f (.int i t)) Q E s) :
    UnR X f (rU fun i => .int (g i)) := by
  intro pins s σ H x v Q I rx h
  obtain ⟨i, rfl, q⟩ := h
  obtain ⟨t, rfl⟩ := rx
  exact rule i t s _ _ ⟨.int (g i), H, I.tok _, ⟨_, rfl⟩, q⟩
theorem un_neg : UnR X (unaryOp .USub) (rU fun i => .int (-i)) := unI fun _ _ _ _ _ q => neg_int q
end
def scal : V → V → Bool
  | .non, .non => true | .non, .int _ => true | .int _, .non => true | .non, .bl _ => true | .bl _, .non => true | .non, .str _ => true | .str _, .non => true
  | .int _, .int _ => true | .bl _, .bl _ => true | .str _, .str _ => true | .byt _, .byt _ => true
  | .int _, .str _ => true | .str _, .int _ => true | .bl _, .str _ => true | .str _, .bl _ => true
  | _, _ => false
def rEq : R2 := fun x y H Q => scal x y = true ∧ Q (.bl (decide (x = y))) H
def rNe : R2 := fun x y H Q => scal x y = true ∧ Q (.bl (!decide (x = y))) H
theorem dec_int {i j : Int} : decide (V.int i = V.int j) = (i == j) := by
  rw [Bool.eq_iff_iff]
  simp
theorem dec_bl {i j : Bool} : decide (V.bl i = V.bl j) = (i == j) := by
  rw [Bool.eq_iff_iff]
  simp
theorem dec_str {i j : Str} : decide (V.str i = V.str j) = (i == j) := by
  rw [Bool.eq_iff_iff]
  simp
theorem dec_byt {i j : Array UInt8} : decide (V.byt i = V.byt j) = (i.toList == j.toList) := by
  rw [Bool.eq_iff_iff]
  cases i
  cases j
  simp
section
variable {X : Cx} {a b c : Expr} {ta tb tc : TE} {pos : Pos}
theorem fin_bl {pins : List (Addr × Obj)} {σ : St} {H : Hp} {s : Shared} {Q : VK} {k k' : Bool} (I : Inv X pins σ H s) (q : Q (.bl k) H) (e : k = k') : EP X pins σ Q (.bool k') s := by
  subst e
  exact ⟨.bl k, H, I, rfl, q⟩
theorem op_eq : OpR X (compareOp .Eq) rEq := by
  intro pins s σ H x y v u Q I rx ry h
  obtain ⟨hs, q⟩ := h
  cases x with
  | non =>
    cases rx
    cases y with
    | non => cases ry; exact PySem.EqNone.eq_none_none (fin_bl I q (by simp))
    | bl j => cases ry; exact PySem.EqNone.eq_none_bool (fin_bl I q (by simp))
    | int j => obtain ⟨t', rfl⟩ := ry; exact PySem.EqNone.eq_none_int (fin_bl I q (by simp))
    | str j => obtain ⟨t', rfl⟩ := ry; exact PySem.EqNone.eq_none_str (fin_bl I q (by simp))
    | _ => exact absurd (show false = true from hs) Bool.false_ne_true
  | bl i =>
    cases rx
    cases y with
    | non => cases ry; exact PySem.EqNone.eq_bool_none (fin_bl I q (by simp))
    | bl j => cases ry; exact eq_bool (fin_bl I q dec_bl)
    | str j => obtain ⟨t', rfl⟩ := ry; exact PySem.EqMixed.eq_bool_str (fin_bl I q (by simp))
    | _ => exact absurd (show false = true from hs) Bool.false_ne_true
  | int i =>
    obtain ⟨t, rfl⟩ := rx
    cases y with
    | non => cases ry; exact PySem.EqNone.eq_int_none (fin_bl I q (by simp))
    | int j => obtain ⟨t', rfl⟩ := ry; exact eq_int (fin_bl I q dec_int)
    | str j => obtain ⟨t', rfl⟩ := ry; exact PySem.EqMixed.eq_int_str (fin_bl I q (by simp))
    | _ => exact absurd (show false = true from hs) Bool.false_ne_true
  | str i =>
    obtain ⟨t, rfl⟩ := rx
    cases y with
    | non => cases ry; exact PySem.EqNone.eq_str_none (fin_bl I q (by simp))
    | bl j => cases ry; exact PySem.EqMixed.eq_str_bool (fin_bl I q (by simp))
    | int j => obtain ⟨t', rfl⟩ := ry; exact PySem.EqMixed.eq_str_int (fin_bl I q (by simp))
    | str j => obtain ⟨t', rfl⟩ := ry; exact eq_str (fin_bl I q dec_str)
    | _ => exact absurd (show false = true from hs) Bool.false_ne_true
  | byt i =>
    obtain ⟨t, rfl⟩ := rx
    cases y with
    | byt j => obtain ⟨t', rfl⟩ := ry; exact PySem.W.eq_bytes (fin_bl I q dec_byt)
    | _ => exact absurd (show false = true from hs) Bool.false_ne_true
  | _ => cases y <;> exact absurd (show false = true from hs) Bool.false_ne_true
theorem op_lt : OpR X (compareOp .Lt) (rI0 fun i j => .bl (decide (i < j))) := opB0 fun _ _ _ _ _ _ _ q => lt_int q
theorem op_ge : OpR X (compareOp .GtE) (rI0 fun i j => .bl (decide (j ≤ i))) := opB0 fun _ _ _ _ _ _ _ q => ge_int q
theorem op_isN : OpR X (compareOp .Is) (fun x y H Q => y = .non ∧ Q (.bl (decide (x = .non))) H) := by
  intro pins s σ H x y v u Q I rx ry h
  obtain ⟨rfl, q⟩ := h
  cases ry
  refine is_none_gen (fin_bl I q ?_)
  cases x <;> first
    | (cases rx; rfl)
    | (obtain ⟨t, rfl⟩ := rx; rfl)
theorem op_notN : OpR X (compareOp .IsNot) (fun x y H Q => y = .non ∧ Q (.bl (!decide (x = .non))) H) := by
  intro pins s σ H x y v u Q I rx ry h
  obtain ⟨rfl, q⟩ := h
  cases ry
  refine isnot_none_gen (fin_bl I q ?_)
  cases x <;> first
    | (cases rx; rfl)
    | (obtain ⟨t, rfl⟩ := rx; rfl)
theorem OpR.or {f : Value → Value → Sem Value} {r r' : R2} (h : OpR X f r) (h' : OpR X f r') : OpR X f (fun x y H Q => r x y H Q ∨ r' x y H Q) := by
  intro pins s σ H x y v u Q I rx ry q
  rcases q with q | q
  · exact h pins s σ H x y v u Q I rx ry q
  · exact h' pins s σ H x y v u Q I rx ry q
theorem nomark (b : Expr) {op : CmpOp} (h : op ≠ .In := by decide) (h2 : op ≠ .NotIn := by decide) : behindInMarks op b = false := by
  have e1 : (op == CmpOp.In) = false := by cases op <;> first | rfl | exact absurd rfl h
  have e2 : (op == CmpOp.NotIn) = false := by cases op <;> first | rfl | exact absurd rfl h2
  cases b <;> simp [behindInMarks, e1, e2]
theorem pe_cmpR {op : CmpOp} {r : R2} (ho : OpR X (compareOp op) r) (ha : PE X a ta) (hb : PE X b tb) (hm : behindInMarks op b = false) : PE X (.Compare a [op] [b] pos) (tOp r ta tb) := by
  intro pins s σ H Q I h
  exact wpAny_Compare1 (binT ha hb I h fun v u s2 x y H2 I2 rx ry q => ho pins s2 σ H2 x y v u Q I2 rx ry q) hm
def tTest (t : TE) : TT := fun σ H Q => t σ H fun x H' => ∃ k, x = .bl k ∧ Q k H'
theorem pt_cmpR {op : CmpOp} {r : R2} (ho : OpR X (compareOp op) r) (ha : PE X a ta) (hb : PE X b tb) (hm : behindInMarks op b = false) : PT X (.Compare a [op] [b] pos) (tTest (tOp r ta tb)) := by
  intro pins s σ H Q I h
  refine wpAny_isTrue_Compare1 (thn (ha pins s σ H _ I h) fun v s1 ⟨x, H1, I1, r1, q1⟩ => thn (hb pins s1 σ H1 _ I1 q1) fun u s2 ⟨y, H2, I2, r2, q2⟩ =>
    thn (ho pins s2 σ H2 x y v u _ I2 r1 r2 q2) fun c s3 ⟨z, H3, I3, r3, k, e, q3⟩ => ?_) hm
  subst e
  cases r3
  exact wpAny_truthy_bool ⟨H3, I3, q3⟩
def tChain (r r' : R2) (ta tb tc : TE) : TE := fun σ H Q => ta σ H fun x H1 => tb σ H1 fun y H2 => r x y H2 fun z H3 => ∃ k, z = .bl k ∧
  (if k = true then tc σ H3 fun w' H4 => r' y w' H4 Q else Q (.bl false) H3)
def TruV (K : PySem.W.Frag) (x : V) (H : Hp) (k : Bool) : Prop :=
  match x with
  | .non => k = false
  | .bl b => k = b
  | .int i => k = (i != 0)
  | .str y => y.length ≤ sizeLine ∧ k = ((y.length : Int) != 0)
  | .byt y => y.size ≤ sizeLine ∧ k = ((y.size : Int) != 0)
  | .ref p => (∃ xs, SqL K H p xs ∧ k = !xs.isEmpty) ∨ (∃ xs, SqT K H p xs ∧ k = !xs.isEmpty) ∨ ∃ kvs, H p = some (.dK kvs) ∧ k = !kvs.isEmpty
  | _ => False
theorem isEmpty_kv {κ : Type} {kvs : List (κ × V)} {vs : List (κ × Value)} (r : KV kvs vs) : (!vs.isEmpty) = !kvs.isEmpty := by
  cases r <;> rfl
theorem isEmpty_of {xs : List V} {its : List Value} (r : Vals xs its) : (!its.toArray.isEmpty) = !xs.isEmpty := by
  cases r <;> simp
theorem line63 : (sizeLine : Nat) < 2 ^ 63 := by rw [sizeLine_eq]; decide
theorem tru_ok : TruR X (fun x H Q => ∃ k, TruV X.K x H k ∧ Q k H) := by
  intro pins s σ H x v Q I rx h
  obtain ⟨k, e, q⟩ := h
  have hl := line63
  have hs : sizeLine = 16777216 := sizeLine_eq
  cases x with
  | non =>
    cases rx
    have e' : k = false := e
    subst e'
    exact truthy_none ⟨H, I, q⟩
  | bl b =>
    cases rx
    have e' : k = b := e
    subst e'
    exact wpAny_truthy_bool ⟨H, I, q⟩
  | int i =>
    obtain ⟨t, rfl⟩ := rx
    have e' : k = (i != 0) := e
    subst e'
    exact PySem.P.truthy_int ⟨H, I, q⟩
  | str y =>
    obtain ⟨t, rfl⟩ := rx
    obtain ⟨hy, e'⟩ : y.length ≤ sizeLine ∧ k = ((y.length : Int) != 0) := e
    subst e'
    exact PySem.P.truthy_str (by omega) ⟨H, I.tok _, q⟩
  | byt y =>
    obtain ⟨t, rfl⟩ := rx
    obtain ⟨hy, e'⟩ : y.size ≤ sizeLine ∧ k = ((y.size : Int) != 0) := e
    subst e'
    exact PySem.W.truthy_bytes (by omega) ⟨H, I.tok _, q⟩
  | ref p =>
    cases rx
    have e' : (∃ xs, SqL X.K H p xs ∧ k = !xs.isEmpty) ∨ (∃ xs, SqT X.K H p xs ∧ k = !xs.isEmpty) ∨ ∃ kvs, H p = some (.dK kvs) ∧ k = !kvs.isEmpty := e
    rcases e' with ⟨xs, hx, e'⟩ | ⟨xs, hx, e'⟩ | ⟨kvs, hx, e'⟩
    · subst e'
      obtain ⟨its, r, pl, hz⟩ := I.list hx
      have hlen := r.length
      exact wpAny_truthy_list pl.isList (by simp only [List.size_toArray]; omega) ⟨H, I.tok _, by rw [isEmpty_of r]; exact q⟩
    · subst e'
      obtain ⟨its, r, pl, hz⟩ := I.tuple hx
      have hlen := r.length
      exact truthy_tuple pl (by simp only [List.size_toArray]; omega) ⟨H, I.tok _, by rw [isEmpty_of r]; exact q⟩
    · subst e'
      obtain ⟨hz, hS, vs, r, m⟩ : kvs.length ≤ sizeLine ∧ (p == sysModules) = false ∧ ∃ vs, KV kvs vs ∧ s.heap.DictOf (mixKind X.prog X.w) p vs := I.hok p _ hx
      have hlen : kvs.length = vs.length := Paired.length r
      exact wpAny_truthy_dict hS m (by omega) ⟨H, I.tok _, by rw [isEmpty_kv r]; exact q⟩
  | _ => exact (show False from e).elim
theorem pt_truth (ha : PE X a ta) (he : ∀ whole, isTrue a X.env whole = (do let v ← whole; standAt a.pos; holding [v] (truthy v))) :
    PT X a (fun σ H Q => ta σ H fun x H' => ∃ k, TruV X.K x H' k ∧ Q k H') := by
  intro pins s σ H Q I h
  exact isTrue_plain (thn (ha pins s σ H _ I h) fun v s1 ⟨x, H1, I1, r1, q1⟩ => tru_ok pins s1 σ H1 x v Q I1 r1 q1) (he _)
theorem op_add_str : OpR X (binaryOp .Add) (fun x y H Q => ∃ i j, x = .str i ∧ y = .str j ∧ i.length + j.length ≤ sizeLine ∧ Q (.str (i ++ j)) H) := by
  intro pins s σ H x y v u Q I rx ry h
  obtain ⟨i, j, rfl, rfl, hz, q⟩ := h
  obtain ⟨t, rfl⟩ := rx
  obtain ⟨t', rfl⟩ := ry
  exact add_str (fun t' tk => ⟨.str (i ++ j), H, I.tok _, ⟨_, rfl⟩, q⟩) hz
theorem vals1 {x : V} {us : List Value} (r : Vals [x] us) : ∃ u, us = [u] ∧ RelV x u := by
  cases r with
  | cons r1 r2 => cases r2; exact ⟨_, rfl, r1⟩
theorem vals2 {x y : V} {us : List Value} (r : Vals [x, y] us) : ∃ u w', us = [u, w'] ∧ RelV x u ∧ RelV y w' := by
  cases r with
  | cons r1 r2 =>
    cases r2 with
    | cons r3 r4 => cases r4; exact ⟨_, _, rfl, r1, r3⟩
end
end L2
namespace L2
open PySem PySem.Spec PyProof.Rows
structure ObjM (h : Heap) (x dx C : Addr) (mA : Str → Option Value) : Prop where
  obj : h.get? x = some (PySem.W.instObj C dx)
  ns : h.Ns1 dx mA
  ne : dx ≠ x
theorem lookIn_ns {h : Heap} {dx : Addr} {mA : Str → Option Value} (n : h.Ns1 dx mA) : ∃ od, h.get? dx = some od ∧ ∀ name, PySem.W.lookIn name od = some (mA name) := by
  obtain ⟨o, es, ep, ho, hd, hk, _, hm⟩ := n
  refine ⟨o, ho, fun name => ?_⟩
  have e := hm name
  unfold nsFind findBy at e
  rw [← Array.find?_toList] at e
  unfold PySem.W.lookIn
  rw [hd]
  dsimp only
  split
  · rename_i y q
    rw [q] at e
    exact congrArg some e
  · rename_i q
    rw [q] at e
    have a : es.toList.any (·.refKey) = false := by
      rw [List.any_eq_false]
      intro y hy
      obtain ⟨z, t, hkey⟩ := hk y (Array.mem_toList_iff.mp hy)
      simp [DictEntry.refKey, hkey]
    have a' : ¬ es.toList.any (·.refKey) = true := by rw [a]; exact Bool.false_ne_true
    rw [if_neg a']
    exact congrArg some e
theorem ObjM.look {h : Heap} {x dx C : Addr} {mA : Str → Option Value} (I : ObjM h x dx C mA) : ∃ od, PySem.W.InstAt h x (PySem.W.instObj C dx) C (some od) ∧ ∀ name, PySem.W.lookIn name od = some (mA name) :=
  let ⟨od, ho, hl⟩ := lookIn_ns I.ns
  ⟨od, ⟨I.obj, rfl, rfl, ho⟩, hl⟩
section
variable {prog : Program} {w : World} {A : Around} {E : Value → Shared → Prop} {s : Shared} {K : PySem.W.Frag} {x dx C f : Addr} {mA : Str → Option Value} {name : Str} {v : Value}
end
theorem RelO.some_of {v : V} {o : Option Value} (r : RelO (some v) o) : ∃ u, o = some u ∧ RelV v u := by
  cases o with
  | none => exact (show False from r).elim
  | some u => exact ⟨u, rfl, r⟩
section
variable {P : Program} {w : World} {H H' : Hp} {h h' : Heap} {a C dx : Addr} {fs fs' : List (Str × V)}
theorem ins_get (hok : HOk P w H h) (e : H a = some (.ins C dx fs)) : ∃ mA, ObjM h a dx C mA ∧ (∀ f, RelO (fs.lookup f) (mA f)) ∧ PySem.Within mA (fs.map (·.1)) ∧ fs.length ≤ 1000 ∧ H dx = some (.own a) := by
  obtain ⟨d, z, ne, ob, mA, n, r, q⟩ := (show ObjOk P w H h a (.ins C dx fs) from hok a _ e)
  exact ⟨mA, ⟨ob, n, ne⟩, r, q, z, d⟩
end
structure Cls (K : PySem.W.Frag) (C : Addr) : Prop where
  pg : PySem.W.plainGet K C Str.empty = true
  hd : PySem.W.hasDictIn K C = true
  po : PySem.W.plainOver K C = true
  sa : PySem.W.findIn K (.ref C) "__setattr__" = some (some (.builtin "object.__setattr__"))
theorem Cls.get {K : PySem.W.Frag} {C : Addr} (c : Cls K C) (f : Str) : PySem.W.plainGet K C f = true := c.pg
section
variable {X : Cx} {pins : List (Addr × Obj)} {σ : St} {H : Hp} {s : Shared} {a C dx : Addr} {fs : List (Str × V)} {f : Str} {v : V} {A : Around} {E : Value → Shared → Prop}
theorem Inv.made (I : Inv X pins σ H s) : Inv X pins σ (upd (upd H s.heap.objs.size (.own (s.heap.objs.size + 1))) (s.heap.objs.size + 1) (.ins C s.heap.objs.size []))
    { s with heap := (s.heap.push PySem.W.emptyDict).push (PySem.W.instObj C s.heap.objs.size) } := by
  have e1 : (s.heap.push PySem.W.emptyDict).get? s.heap.objs.size = some PySem.W.emptyDict := Heap.get?_push_size s.heap rfl
  have e2 : ((s.heap.push PySem.W.emptyDict).push (PySem.W.instObj C s.heap.objs.size)).get? (s.heap.objs.size + 1) = some (PySem.W.instObj C s.heap.objs.size) := by
    have := Heap.get?_push_size (s.heap.push PySem.W.emptyDict) (o := PySem.W.instObj C s.heap.objs.size) rfl
    rwa [Heap.size_push] at this
  have e3 : (s.heap.push PySem.W.emptyDict).Ns s.heap.objs.size (fun _ => none) := ⟨PySem.W.emptyDict, #[], _, e1, rfl, (fun e he => absurd he (by simp)), fun _ => rfl⟩
  have I1 := I.laid (a := s.heap.objs.size) (o := .own (s.heap.objs.size + 1)) (h' := s.heap.push PySem.W.emptyDict) (t' := s.toks) (fun b u q => Heap.get?_push_of_some _ q) (Nat.le_refl _) ⟨_, e1⟩
  refine I1.laid (a := s.heap.objs.size + 1) (o := .ins C s.heap.objs.size []) (t' := s.toks) (fun b u q => Heap.get?_push_of_some _ q) (Nat.le_of_eq (Heap.size_push _ _)) ?_
  have ne : s.heap.objs.size ≠ s.heap.objs.size + 1 := Nat.ne_of_lt (Nat.lt_succ_self _)
  refine ⟨by rw [upd_ne ne, upd_same], Nat.zero_le _, ne, e2, fun _ => none, (Heap.Ns1.of_empty e3).at fun o q => Heap.get?_push_of_some _ q, fun _ => True.intro, fun y hy => absurd rfl hy⟩
end
section
variable {X : Cx} {o e value : Expr} {f : Str} {pos pos' tpos : Pos} {ta tv : TE}
end
section
variable {X : Cx} {pins : List (Addr × Obj)} {σ : St} {H : Hp} {s : Shared} {A : Around} {E : Value → Shared → Prop} {Q : Value → Shared → Prop} {c : Value} {b : Bool}
inductive TyOf (K : PySem.W.Frag) (H : Hp) : V → Value → Prop where
  | non : TyOf K H .non (.type "NoneType")
  | bl (x : Bool) : TyOf K H (.bl x) (.type "bool")
  | int (i : Int) : TyOf K H (.int i) (.type "int")
  | str (x : Str) : TyOf K H (.str x) (.type "str")
  | flt (x : UInt64) : TyOf K H (.flt x) (.type "float")
  | lst {a : Addr} {xs : List V} (e : H a = some (.lst xs)) : TyOf K H (.ref a) (.type "list")
  | frz {a : Addr} {o : Obj} {xs : List V} (e : H a = some (.frz o (.lst xs))) : TyOf K H (.ref a) (.type "list")
  | tup {a : Addr} {xs : List V} (e : H a = some (.tup xs)) : TyOf K H (.ref a) (.type "tuple")
  | dK {a : Addr} {kvs : List (Key × V)} (e : H a = some (.dK kvs)) : TyOf K H (.ref a) (.type "dict")
  | dT {a : Addr} {kvs : List (List Key × V)} (e : H a = some (.dT kvs)) : TyOf K H (.ref a) (.type "dict")
  | ins {a C dx : Addr} {fs : List (Str × V)} (e : H a = some (.ins C dx fs)) (cl : Cls K C) (ha : PySem.W.findIn K (.ref C) "__class__" = some (some (.builtin "object.__class__")))
      (hn : PySem.W.specialIn K (.builtin "object.__class__") "__get__" = some (some (.builtin "getset_descriptor.__get__"))) (htk : PySem.W.takesIn K (.builtin "object.__class__") = some true)
      (hm : PySem.W.mroIn K C (.type "object") = some true) : TyOf K H (.ref a) (.ref C)
theorem isinst_ok {x : V} {u t : Value} (I : Inv X pins σ H s) (rx : RelV x u) (ty : TyOf X.K H x t) (e : PySem.W.kitOne X.K t c = some b) (h : ∀ tk, Q (.bool b) { s with toks := tk }) :
    wpAny (model X.prog X.w) A (call (.builtin "isinstance") [u, c]) Q E s := by
  cases ty with
  | non => cases (show u = Value.none from rx); exact PySem.W.kia_one PySem.W.kitx_none I.kIn True.intro e (fun z => nomatch z) h
  | bl y => cases (show u = Value.bool y from rx); exact PySem.W.kia_one PySem.W.kitx_bool I.kIn True.intro e (fun z => nomatch z) h
  | int i => obtain ⟨t, q⟩ := (show ∃ t, u = Value.int i t from rx); cases q; exact PySem.W.kia_one PySem.W.kitx_int I.kIn True.intro e (fun z => nomatch z) h
  | str y => obtain ⟨t, q⟩ := (show ∃ t, u = Value.str y t from rx); cases q; exact PySem.W.kia_one PySem.W.kitx_str I.kIn True.intro e (fun z => nomatch z) h
  | flt y => obtain ⟨t, q⟩ := (show ∃ t, u = Value.float y t from rx); cases q; exact PySem.W.kia_one PySem.W.kitx_float I.kIn True.intro e (fun z => nomatch z) h
  | @lst a xs ea =>
    cases (show u = Value.ref a from rx)
    obtain ⟨_, _, n, _, h1⟩ := (show ObjOk X.prog X.w H s.heap a (.lst xs) from I.hok a _ ea)
    exact PySem.W.kia_one PySem.W.kitx_list I.kIn ⟨_, h1, rfl⟩ e (fun z => nomatch z) h
  | @frz a ob xs ea =>
    cases (show u = Value.ref a from rx)
    obtain ⟨_, _, _, n, _, h1⟩ := (show ObjOk X.prog X.w H s.heap a (.frz ob (.lst xs)) from I.hok a _ ea)
    exact PySem.W.kia_one PySem.W.kitx_list I.kIn ⟨_, h1, rfl⟩ e (fun z => nomatch z) h
  | @tup a xs ea =>
    cases (show u = Value.ref a from rx)
    obtain ⟨_, _, _, p⟩ := (show ObjOk X.prog X.w H s.heap a (.tup xs) from I.hok a _ ea)
    obtain ⟨o, h1, h2, _⟩ := p
    exact PySem.W.kia_one PySem.W.kitx_tuple I.kIn ⟨o, h1, h2⟩ e (fun z => nomatch z) h
  | @dK a kvs ea =>
    cases (show u = Value.ref a from rx)
    obtain ⟨_, _, vs, _, p⟩ := (show ObjOk X.prog X.w H s.heap a (.dK kvs) from I.hok a _ ea)
    obtain ⟨o, es, ep, h1, h2, _⟩ := p
    exact PySem.W.kia_one PySem.W.kitx_dict I.kIn ⟨o, h1, h2.1⟩ e (fun z => nomatch z) h
  | @dT a kvs ea =>
    cases (show u = Value.ref a from rx)
    obtain ⟨_, _, xs, _, o, es, ep, h1, h2, _⟩ := (show ObjOk X.prog X.w H s.heap a (.dT kvs) from I.hok a _ ea)
    exact PySem.W.kia_one PySem.W.kitx_dict I.kIn ⟨o, h1, h2.1⟩ e (fun z => nomatch z) h
  | @ins a C dx fs ea cl ha hn htk hm =>
    cases (show u = Value.ref a from rx)
    obtain ⟨mA, O, _⟩ := ins_get I.hok ea
    obtain ⟨od, J, _⟩ := O.look
    exact PySem.W.kia_one (PySem.W.kitx_own (cl.get _) cl.hd ha hn htk hm) I.kIn J e (fun z => nomatch z) h
end
end L2
namespace L2
open PySem PySem.Spec PyProof.Rows
structure Room (k : Nat) (A : Around) : Prop where
  hd : A.handled = none
  dp : A.depth + 3 * k + 5 < recursionLimit
  un : A.units + 16 * k + 200 < cLine
theorem Room.mono {j k : Nat} {A : Around} (r : Room k A) (h : j ≤ k) : Room j A := ⟨r.hd, by have := r.dp; omega, by have := r.un; omega⟩
theorem Room.deeper {k : Nat} {A : Around} (r : Room (k + 1) A) (env : Env) : Room k (A.deeper env) :=
  ⟨r.hd, by have := r.dp; show A.depth + 1 + 3 * k + 5 < _; omega, by have := r.un; show A.units + 3 + 16 * k + 200 < _; omega⟩
theorem Room.in1 {k : Nat} {A : Around} (r : Room (k + 1) A) : Room k A.in1 :=
  ⟨r.hd, by have := r.dp; show A.depth + 3 * k + 5 < _; omega, by have := r.un; show A.units + 1 + 16 * k + 200 < _; omega⟩
theorem Room.depth {k : Nat} {A : Around} (r : Room k A) : A.depth < recursionLimit := by have := r.dp; omega
theorem Room.units {k : Nat} {A : Around} (r : Room k A) : A.units + 64 < cLine := by have := r.un; omega
def tNil : TA := fun _ H Q => Q [] H
def tCons (ta : TE) (tr : TA) : TA := fun σ H Q => ta σ H fun x H1 => tr σ H1 fun xs H2 => Q (x :: xs) H2
section
variable {X : Cx} {e : Expr} {es : List Expr} {te : TE} {t : TA} {pos : Pos}
theorem pa_nil : PA X [] tNil := fun _ _ _ _ H Q I h => Calls.spliced_nil ⟨[], H, I, .nil, h⟩
theorem pa_cons (ha : PE X e te) (hr : PA X es t) (hs : starEach (e :: es) X.env = (false, eval e X.env) :: starEach es X.env := by rfl) : PA X (e :: es) (tCons te t) := by
  intro pos pins s σ H Q I h
  rw [hs]
  show wpAny _ _ (spliced ((false, eval e X.env) :: backTo pos (starEach es X.env))) _ _ s
  refine Calls.spliced_cons (thn (ha pins s σ H _ I h) fun u s1 ⟨x, H1, I1, r1, q1⟩ => ?_)
  exact thn (hr pos pins s1 σ H1 _ I1 q1) fun us s2 ⟨xs, H2, I2, r2, q2⟩ => ⟨x :: xs, H2, I2, .cons r1 r2, q2⟩
def tTup (t : TA) : TE := fun σ H Q => t σ H fun xs H1 => xs.length ≤ sizeLine ∧ ∀ p, H1 p = none → Q (.ref p) (upd H1 p (.tup xs))
def tLst (t : TA) : TE := fun σ H Q => t σ H fun xs H1 => xs.length ≤ sizeLine ∧ ∀ p, H1 p = none → Q (.ref p) (upd H1 p (.lst xs))
theorem pe_tup {x1} (h : PA X es t) : PE X (.Tuple es x1 pos) (tTup t) := by
  intro pins s σ H Q I hq
  refine wpAny_Tuple_spliced (thn (h pos pins s σ H _ I hq) fun us s1 ⟨xs, H1, I1, r, z, q⟩ => ⟨by rw [← r.length]; exact z, ?_⟩)
  have hf : H1 s1.heap.objs.size = none := I1.hok.fresh (Nat.le_refl _)
  refine ⟨.ref s1.heap.objs.size, upd H1 s1.heap.objs.size (.tup xs), I1.laid (t' := s1.toks) (fun b u e => Heap.get?_push_of_some _ e) (Nat.le_refl _) ?_, rfl, q _ hf⟩
  exact ⟨z, us, r, ⟨_, Heap.get?_push_size _ rfl, rfl, _, rfl⟩⟩
theorem pe_lst (h : PA X es t) : PE X (.List es pos) (tLst t) := by
  intro pins s σ H Q I hq
  refine wpAny_List_spliced (thn (h pos pins s σ H _ I hq) fun us s1 ⟨xs, H1, I1, r, z, q⟩ => ⟨by rw [← r.length]; exact z, ?_⟩)
  have hf : H1 s1.heap.objs.size = none := I1.hok.fresh (Nat.le_refl _)
  refine ⟨.ref s1.heap.objs.size, upd H1 s1.heap.objs.size (.lst xs), I1.laid (t' := s1.toks) (fun b u e => Heap.get?_push_of_some _ e) (Nat.le_refl _) ?_, rfl, q _ hf⟩
  exact ⟨z, us, 0, r, Heap.get?_push_size _ rfl⟩
end
abbrev Sp := List V → Hp → VK → XK → Prop
abbrev CXT := List Env → Hp → Shared → XK → Value → Shared → Prop
structure Env0 (P : Program) (w : World) (K : PySem.W.Frag) (mg : Str → Option Value) (base : Heap) (A : Around) (outer : List Env) (s : Shared) (H : Hp) : Prop where
  frames : A.frames = some outer
  mod : Mod K mg base
  bs : ∀ b o, base.get? b = some o → s.heap.get? b = some o ∧ H b = none
  bsz : base.objs.size ≤ s.heap.objs.size
  funs : s.heap.FunFrames base outer
  frf : ∀ b ∈ frs outer, H b = none
  hok : HOk P w H s.heap
  bare : AllBare s.gens
def CE (outer : List Env) (P : Program) (w : World) (H : Hp) (s : Shared) (Q : VK) (u : Value) (s' : Shared) : Prop :=
  ∃ v H', s'.os = s.os ∧ AllBare s'.gens ∧ Un (frs outer) [] H H' s.heap s'.heap ∧ HOk P w H' s'.heap ∧ RelV v u ∧ Q v H'
def CR (CX : CXT) (outer : List Env) (P : Program) (w : World) (H : Hp) (s : Shared) (Q : VK) (E : XK) (r : Result) (s' : Shared) : Prop :=
  match r with
  | .ok (.ret u) => CE outer P w H s Q u s'
  | .ok _ => False
  | .error e => CX outer H s E e s'
structure FnOk (P : Program) (w : World) (K : PySem.W.Frag) (mg : Str → Option Value) (base : Heap) (CX : CXT) (k : Nat) (f : Addr) (fd : FuncData) (ps : List Str) (sp : Sp) : Prop where
  len : ∀ vs H Q E, sp vs H Q E → vs.length = ps.length
  run : ∀ (A : Around) (outer : List Env) (s : Shared) (H : Hp) (args : Args) (us : List Value) (vs : List V) (Q : VK) (E : XK), Room k A → Env0 P w K mg base A outer s H → BindsTo s fd args (ps.zip us) → Vals vs us → sp vs H Q E →
    codeAny (model P w) A (.call (.ref f) args) (CR CX outer P w H s Q E) s
theorem FnOk.mono {P : Program} {w : World} {K : PySem.W.Frag} {mg : Str → Option Value} {base : Heap} {CX : CXT} {j k : Nat} {f : Addr} {fd : FuncData} {ps : List Str} {sp : Sp} (F : FnOk P w K mg base CX j f fd ps sp) (h : j ≤ k) :
    FnOk P w K mg base CX k f fd ps sp := ⟨F.len, fun A outer s H args us vs Q E hr => F.run A outer s H args us vs Q E (hr.mono h)⟩
theorem FnOk.imp {P : Program} {w : World} {K : PySem.W.Frag} {mg : Str → Option Value} {base : Heap} {CX : CXT} {k : Nat} {f : Addr} {fd : FuncData} {ps : List Str} {sp sp' : Sp} (F : FnOk P w K mg base CX k f fd ps sp)
    (h : ∀ vs H Q E, sp' vs H Q E → sp vs H Q E) : FnOk P w K mg base CX k f fd ps sp' :=
  ⟨fun vs H Q E q => F.len vs H Q E (h _ _ _ _ q), fun A outer s H args us vs Q E hr he hb hv hs => F.run A outer s H args us vs Q E hr he hb hv (h _ _ _ _ hs)⟩
theorem Env0.in1 {P : Program} {w : World} {K : PySem.W.Frag} {mg : Str → Option Value} {base : Heap} {A : Around} {outer : List Env} {s : Shared} {H : Hp} (e : Env0 P w K mg base A outer s H) :
    Env0 P w K mg base A.in1 outer s H := ⟨e.frames, e.mod, e.bs, e.bsz, e.funs, e.frf, e.hok, e.bare⟩
section
variable {X : Cx} {pins : List (Addr × Obj)} {σ : St} {H : Hp} {s s' : Shared}
theorem Inv.env0 (I : Inv X pins σ H s) : Env0 X.prog X.w X.K X.mg X.base X.A X.stack s H :=
  ⟨I.ok.frames, I.ok.mod, I.bs, Nat.le_trans I.ok.bsz I.sz, I.stack, I.stkFree, I.hok, I.bare⟩
theorem Inv.after {Q : VK} {u : Value} (I : Inv X pins σ H s) (h : CE X.stack X.prog X.w H s Q u s') : EP X pins σ Q u s' := by
  obtain ⟨v, H', os, bare, un, hok, r, q⟩ := h
  obtain ⟨hh, g, d, t, os'⟩ := s'
  obtain rfl : os' = s.os := os
  exact ⟨v, H', I.call (h' := hh) (g' := g) (d' := d) (t' := t) (ch := []) un hok bare (fun b z => absurd z (by simp)), r, q⟩
end
def tCall (sp : Sp) (dvs : List V) (E : XK) (t : TA) : TE := fun σ H Q => t σ H fun vs H1 => sp (vs ++ dvs) H1 Q E
def Binds (K : PySem.W.Frag) (fd : FuncData) (ps : List Str) (ds : List Value) : Prop :=
  ∀ (s : Shared) (us : List Value), K.In s.heap → (us ++ ds).length = ps.length → BindsTo s fd ⟨us, []⟩ (ps.zip (us ++ ds))
theorem Binds.all {K : PySem.W.Frag} {fd : FuncData} {ps : List Str} (h : ∀ us : List Value, us.length = ps.length → bindArgs fd ⟨us, []⟩ = pure (ps.zip us)) : Binds K fd ps [] := fun s us _ hl => by
  rw [List.append_nil] at hl ⊢
  exact .of_eq (h us hl)
def Passes (CX : CXT) (X : Cx) (E : XK) : Prop := ∀ (pins : List (Addr × Obj)) (σ : St) (H : Hp) (s : Shared) (e : Value) (s' : Shared), Inv X pins σ H s → CX X.stack H s E e s' → X.xe e s'
section
variable {X : Cx} {CX : CXT} {k : Nat} {f C : Addr} {fd : FuncData} {ps : List Str} {sp : Sp} {dvs : List V} {ds : List Value} {E : XK} {x m : Str} {p pos apos : Pos} {e o : Expr} {es : List Expr} {ta : TE} {t : TA}
theorem run_fn {pins : List (Addr × Obj)} {σ : St} {H : Hp} {s : Shared} {Q : VK} {us : List Value} {vs : List V} (F : FnOk X.prog X.w X.K X.mg X.base CX k f fd ps sp) (hr : Room k X.A) (hb : Binds X.K fd ps ds) (hd : Vals dvs ds) (hx : Passes CX X E)
    (I : Inv X pins σ H s) (r : Vals vs us) (h : sp (vs ++ dvs) H Q E) : wpAny (model X.prog X.w) X.A (call (.ref f) us) (EP X pins σ Q) X.xe s := by
  have r2 : Vals (vs ++ dvs) (us ++ ds) := r.append hd
  have hl : (us ++ ds).length = ps.length := by rw [← r2.length]; exact F.len _ _ _ _ h
  refine wpAny_call (codeAny_mono (F.run X.A X.stack s H ⟨us, []⟩ (us ++ ds) (vs ++ dvs) Q E hr I.env0 (hb s us I.kIn hl) r2 h) fun r s' hq => ?_)
  cases r with
  | error e => exact hx pins σ H s e s' I hq
  | ok fl =>
    cases fl with
    | ret u => exact I.after hq
    | next => exact False.elim hq
    | brk => exact False.elim hq
    | cont => exact False.elim hq
theorem pe_call (F : FnOk X.prog X.w X.K X.mg X.base CX k f fd ps sp) (hr : Room k X.A) (hg : Gl X x) (hm : X.mg x = some (.ref f)) (hk : PySem.W.keepIn X.K (.ref f) = true) (hb : Binds X.K fd ps ds) (hd : Vals dvs ds) (hx : Passes CX X E)
    (ha : PA X (e :: es) t) (hdb : (x == ("__debug__" : Str)) = false := by decide) (he : starEach (e :: es) X.env = (false, eval e X.env) :: starEach es X.env := by rfl) (hpl : (backTo pos (starEach es X.env)).any (·.1) = false := by rfl) :
    PE X (.Call (.Name x p) (e :: es) [] pos) (tCall sp dvs E t) := by
  intro pins s σ H Q I h
  refine wpAny_Call_Name_kw (ld_glob I hg hm ?_ hdb)
  refine PySem.W.callWith_K (h₀ := X.base) I.ok.mod.kin hk (thn (ha pos pins s σ H _ I h) fun us s1 ⟨vs, H1, I1, r, q⟩ => ⟨I1.kIn, ?_⟩) he hpl
  exact run_fn F hr hb hd hx I1 r q
end
section
variable {X : Cx} {CX : CXT} {k : Nat} {f C : Addr} {fd : FuncData} {ps ks : List Str} {sp : Sp} {E : XK} {x m : Str} {p pos apos kpos : Pos} {e o : Expr} {es : List Expr} {kws : List Keyword} {te ta : TE} {t tk : TA} {nm : Option Str}
variable {g : List Value → List Value → List Value} {gV : List V → List V → List V}
end
structure FnScope (N P : List Str) (sc : Scope) : Prop where
  kind : sc.kind = .function
  co : sc.isCoroutine = false
  gen : sc.isGenerator = false
  nd : N.Nodup
  pre : N.take P.length = P
  par : ∀ x ∈ P, sc.names.lookup x = some .local ∨ sc.names.lookup x = some .cell
  nofree : ∀ y ∈ sc.names, y.2 ≠ .free
theorem bindL_out {kindOf : Str → Option NameKind} {x : Str} : ∀ {binds : List (Str × Value)} {m : Str → Option Value}, (∀ v, (x, v) ∉ binds) → bindL kindOf binds m x = m x
  | [], _, _ => rfl
  | (n, v) :: r, m, h => by
    unfold bindL
    rw [bindL_out fun w hw => h w (List.mem_cons_of_mem _ hw)]
    split
    · have : x ≠ n := by rintro rfl; exact h v List.mem_cons_self
      simp [this]
    · rfl
theorem bindC_out {kindOf : Str → Option NameKind} {x : Str} : ∀ {binds : List (Str × Value)} {m : Str → Option Value}, (∀ v, (x, v) ∉ binds) → bindC kindOf binds m x = m x
  | [], _, _ => rfl
  | (n, v) :: r, m, h => by
    unfold bindC
    rw [bindC_out fun w hw => h w (List.mem_cons_of_mem _ hw)]
    split
    · rfl
    · have : x ≠ n := by rintro rfl; exact h v List.mem_cons_self
      simp [this]
theorem bindL_get {kindOf : Str → Option NameKind} {x : Str} {v : Value} : ∀ {P : List Str} {vs : List Value} {i : Nat} {m : Str → Option Value}, P.Nodup → P[i]? = some x → vs[i]? = some v → kindOf x = some .local →
    bindL kindOf (P.zip vs) m x = some v
  | [], _, _, _, _, h, _, _ => by simp at h
  | _ :: _, [], _, _, _, _, h, _ => by simp at h
  | p :: P, w :: vs, 0, m, nd, h1, h2, hk => by
    simp at h1 h2; subst h1; subst h2
    show bindL kindOf ((p, w) :: P.zip vs) m p = _
    unfold bindL
    rw [bindL_out fun v hv => (List.nodup_cons.mp nd).1 (List.of_mem_zip hv).1, if_pos hk]
    simp
  | p :: P, w :: vs, i + 1, m, nd, h1, h2, hk => by
    show bindL kindOf ((p, w) :: P.zip vs) m x = _
    unfold bindL
    exact bindL_get (i := i) (List.nodup_cons.mp nd).2 (by simpa using h1) (by simpa using h2) hk
theorem bindC_get {kindOf : Str → Option NameKind} {x : Str} {v : Value} : ∀ {P : List Str} {vs : List Value} {i : Nat} {m : Str → Option Value}, P.Nodup → P[i]? = some x → vs[i]? = some v → kindOf x ≠ some .local →
    bindC kindOf (P.zip vs) m x = some v
  | [], _, _, _, _, h, _, _ => by simp at h
  | _ :: _, [], _, _, _, _, h, _ => by simp at h
  | p :: P, w :: vs, 0, m, nd, h1, h2, hk => by
    simp at h1 h2; subst h1; subst h2
    show bindC kindOf ((p, w) :: P.zip vs) m p = _
    unfold bindC
    rw [bindC_out fun v hv => (List.nodup_cons.mp nd).1 (List.of_mem_zip hv).1, if_neg hk]
    simp
  | p :: P, w :: vs, i + 1, m, nd, h1, h2, hk => by
    show bindC kindOf ((p, w) :: P.zip vs) m x = _
    unfold bindC
    exact bindC_get (i := i) (List.nodup_cons.mp nd).2 (by simpa using h1) (by simpa using h2) hk
def start (N : List Str) (vs : List V) : St := vs.map some ++ List.replicate (N.length - vs.length) none
def cxOf (CX : CXT) (P : Program) (w : World) (K : PySem.W.Frag) (mg : Str → Option Value) (base : Heap) (N : List Str) (qual : Str) (scope : Scope) (f : Addr) (cd : Value) (A : Around) (outer : List Env) (s : Shared) (H : Hp) (E : XK) : Cx where
  prog := P
  w := w
  K := K
  mg := mg
  base := base
  A := A.deeper (envOfC qual scope s.heap.objs.size f cd)
  N := N
  s₀ := s
  H₀ := H
  env := envOfC qual scope s.heap.objs.size f cd
  outer := outer
  stack := envOfC qual scope s.heap.objs.size f cd :: outer
  ex := []
  calm := true
  fn := fun _ => true
  pn := []
  xe := fun e s' => wpAny (model P w) (A.deeper (envOfC qual scope s.heap.objs.size f cd)) (leaving (envOfC qual scope s.heap.objs.size f cd) e) (fun _ s'' => CX outer H s E e s'') (fun e' s'' => CX outer H s E e' s'') s'
theorem cell_has {sc : Scope} {n : Nat} {x : Str} (h : sc.names.lookup x = some .cell) : ∃ c, (cellsFrom n sc.names []).lookup x = some c := by
  have q := PySem.W.cellsFrom_some sc.names n [] (.inl h)
  exact Option.isSome_iff_exists.mp q
theorem inv_start {CX : CXT} {P : Program} {w : World} {K : PySem.W.Frag} {mg : Str → Option Value} {base : Heap} {N ps : List Str} {qual : Str} {scope : Scope} {f : Addr} {cd : Value} {A : Around} {outer : List Env} {s s1 : Shared} {H : Hp} {E : XK} {us : List Value} {vs : List V}
    (S : FnScope N ps scope) (hd : A.handled = none) (e0 : Env0 P w K mg base A outer s H) (hl : vs.length = ps.length) (r : Vals vs us)
    (x : InCallC s s.heap.objs.size (bindL (envOfC qual scope s.heap.objs.size f cd).kindOf (ps.zip us) fun _ => none) (cellsFrom (s.heap.objs.size + 1) scope.names []) (bindC (envOfC qual scope s.heap.objs.size f cd).kindOf (ps.zip us) fun _ => none) s1) :
    Inv (cxOf CX P w K mg base N qual scope f cd A outer s H E) [] (start N vs) H s1 := by
  have hpl : ps.length ≤ N.length := by have := congrArg List.length S.pre; rw [List.length_take] at this; omega
  obtain ⟨h1, tk, rfl, hk⟩ := x.done
  have noA : ∀ b : Addr, b ∉ (cxOf CX P w K mg base N qual scope f cd A outer s H E).ex := fun b z => absurd (show b ∈ ([] : List Addr) from z) (by simp)
  refine ⟨⟨e0.mod, S.kind, rfl, rfl, Nat.le_refl _, fun y z c h1 h2 => ?_, fun y hy => ?_, fun y c _ h => ?_, fun _ => hd, Around.frames_deeper e0.frames, .inr ⟨rfl, rfl⟩, fun b z => absurd z (noA b), e0.bs, e0.bsz, fun b _ _ => noA b, fun b z => absurd z (noA b), e0.funs, e0.frf⟩,
    rfl, e0.bare, Un.kept hk, ⟨_, x.toInCall.ns, fun i y v h1 h2 h3 => ?_⟩, fun y c h => ⟨_, x.cell y c h⟩, e0.hok.fresh (Nat.le_refl _), fun y c h => ?_, fun p hp => absurd (show p ∈ ([] : List (Addr × Obj)) from hp) (by simp), e0.hok.kept hk, ?_⟩
  · exact name_of_addr x.apart (PySem.mem_of_lookup h1) (PySem.mem_of_lookup h2)
  · have hy : scope.names.lookup y = some .cell ∨ scope.names.lookup y = some .free := hy
    rcases hy with hy | hy
    · exact cell_has hy
    · exact absurd rfl (S.nofree _ (PySem.mem_of_lookup hy))
  · exact Nat.le_of_lt (x.above y c (PySem.mem_of_lookup h))
  · have hi : i < vs.length := by
      unfold start at h2
      by_cases hi : i < vs.length
      · exact hi
      · rw [List.getElem?_append_right (by simpa using hi)] at h2
        rw [List.getElem?_replicate] at h2
        split at h2 <;> cases h2
    have ha : vs[i]? = some v := by
      unfold start at h2
      rw [List.getElem?_append_left (by simpa using hi), List.getElem?_map] at h2
      cases e : vs[i]? with
      | none => rw [e] at h2; cases h2
      | some a => rw [e] at h2; cases h2; rfl
    obtain ⟨u, hu, rv⟩ := r.get ha
    have hp : ps[i]? = some y := by
      rw [← S.pre, List.getElem?_take_of_lt (by omega)]; exact h1
    have ndP : ps.Nodup := by rw [← S.pre]; exact S.nd.sublist (List.take_sublist _ _)
    refine ⟨u, rv, ?_⟩
    rcases S.par y (List.mem_of_getElem? hp) with k | k
    · exact .inl ⟨k, bindL_get ndP hp hu k⟩
    · obtain ⟨c, e⟩ := cell_has (n := s.heap.objs.size + 1) k
      refine .inr ⟨.inl k, c, e, ?_⟩
      have q := x.cell y c e
      rw [bindC_get ndP hp hu (by show scope.names.lookup y ≠ _; rw [k]; decide)] at q
      exact q
  · exact e0.hok.fresh (Nat.le_of_lt (x.above y c (PySem.mem_of_lookup h)))
  · unfold start
    show _ = N.length
    rw [List.length_append, List.length_map, List.length_replicate]
    omega
theorem fn_of {CX : CXT} {P : Program} {w : World} {K : PySem.W.Frag} {mg : Str → Option Value} {base : Heap} {k : Nat} {f : Addr} {name qual : Str} {params : Arguments} {body : List Stmt} {scope : Scope} {dV kV doc pm cdv ct oc : Value} {an od : Option Addr}
    {osl : Array (Option Value)} {N ps : List Str} {sp : Sp} (lk : K.lookup f = some ⟨oc, od, .func (PySem.W.fnOf name qual params body scope dV kV doc pm an cdv ct), osl⟩) (hcd : PySem.W.codeIn K cdv qual = true) (S : FnScope N ps scope)
    (len : ∀ vs H Q E, sp vs H Q E → vs.length = ps.length)
    (hbody : ∀ (A : Around) (outer : List Env) (s : Shared) (H : Hp) (vs : List V) (Q : VK) (E : XK), Room k (A.deeper (envOfC qual scope s.heap.objs.size f cdv)) → sp vs H Q E →
      ∃ t, PSs (cxOf CX P w K mg base N qual scope f cdv A outer s H E) body t ∧ t { nx := fun _ H' => Q .non H', rt := Q } (start N vs) H) :
    FnOk P w K mg base CX (k + 1) f (PySem.W.fnOf name qual params body scope dV kV doc pm an cdv ct) ps sp := by
  refine ⟨len, fun A outer s H args us vs Q E hr e0 hb r hsp => ?_⟩
  have hl := len _ _ _ _ hsp
  have KX : K.In s.heap := e0.mod.kin.keeps fun b o e => (e0.bs b o e).1
  have lim : s.heap.NoLimit := e0.mod.nolimit.keeps fun b o e => (e0.bs b o e).1
  have hkind : ∀ y ∈ ps.zip us, scope.names.lookup y.1 = some .local ∨ (scope.names.lookup y.1 = some .cell ∧ ((cellsFrom (s.heap.objs.size + 1) scope.names []).lookup y.1).isSome = true) := fun ⟨n, v⟩ hy => by
    rcases S.par n (List.of_mem_zip hy).1 with q | q
    · exact .inl q
    · exact .inr ⟨q, PySem.W.cellsFrom_some _ _ _ (.inl q)⟩
  refine codeAny_call_function hr.depth (KX _ _ lk) rfl S.co S.gen rfl (PySem.W.codeRec_of KX hcd) (hb _ _ _ _ ?_)
  refine wpAny_newFunctionEnv_cells S.kind hkind fun env he s1 x => ?_
  subst he
  refine ⟨lim.keeps x.toInCall.keep, codeAny_func ?_⟩
  obtain ⟨t, ht, hq⟩ := hbody A outer s H vs Q E (hr.deeper _) hsp
  have I : Inv (cxOf CX P w K mg base N qual scope f cdv A outer s H E) [] (start N vs) H s1 := inv_start S hr.hd e0 hl r x
  refine wpAny_mono (ht [] s1 (start N vs) H _ I hq) (fun fl s' hs => ?_) fun e s' hs => hs
  have fin : ∀ {σ' : St} {H' : Hp} {v : V} {u : Value}, Inv (cxOf CX P w K mg base N qual scope f cdv A outer s H E) [] σ' H' s' → RelV v u → Q v H' → CE outer P w H s Q u s' :=
    fun {σ' H' v u} J rv q => ⟨v, H', J.os, J.bare, J.base, J.hok, rv, q⟩
  cases fl with
  | ret u =>
    obtain ⟨v, σ', H', J, rv, q⟩ := hs
    exact fin J rv q
  | next =>
    obtain ⟨σ', H', J, q⟩ := hs
    exact fin (v := V.non) (u := Value.none) J rfl q
  | brk =>
    obtain ⟨_, _, _, q⟩ := hs
    exact False.elim q
  | cont =>
    obtain ⟨_, _, _, q⟩ := hs
    exact False.elim q
end L2
namespace L2
open PySem PySem.Spec PyProof.Rows
section
variable {X : Cx} {x : Str} {p pos : Pos} {e : Expr} {es : List Expr} {t : TA} {id T : String} {r : List V → Hp → VK → Prop}
def tCB (r : List V → Hp → VK → Prop) (t : TA) : TE := fun σ H Q => t σ H fun vs H1 => r vs H1 Q
theorem pe_callB (hc : CallR X (.builtin id) r) (hg : Gl X x) (hm : X.mg x = none) (hv : bootBuiltins x = some (.builtin id)) (ha : PA X (e :: es) t) (hn : x ≠ "__name__" := by decide) (hdb : (x == ("__debug__" : Str)) = false := by decide)
    (he : starEach (e :: es) X.env = (false, eval e X.env) :: starEach es X.env := by rfl) (hpl : (backTo pos (starEach es X.env)).any (·.1) = false := by rfl) : PE X (.Call (.Name x p) (e :: es) [] pos) (tCB r t) := by
  intro pins s σ H Q I h
  refine wpAny_Call_Name_kw (ld_blt I hg hm hv ?_ hn hdb)
  exact PyProof.Rows.callWith_builtin1 (thn (ha pos pins s σ H _ I h) fun us s1 ⟨vs, H1, I1, r1, q1⟩ => hc pins s1 σ H1 vs us Q I1 r1 q1) he hpl
theorem pe_callTy (hc : CallR X (.type T) r) (hg : Gl X x) (hm : X.mg x = none) (hv : bootBuiltins x = some (.type T)) (ha : PA X (e :: es) t) (hn : x ≠ "__name__" := by decide) (hdb : (x == ("__debug__" : Str)) = false := by decide)
    (he : starEach (e :: es) X.env = (false, eval e X.env) :: starEach es X.env := by rfl) (hpl : (backTo pos (starEach es X.env)).any (·.1) = false := by rfl) : PE X (.Call (.Name x p) (e :: es) [] pos) (tCB r t) := by
  intro pins s σ H Q I h
  refine wpAny_Call_Name_kw (ld_blt I hg hm hv ?_ hn hdb)
  exact PyProof.Rows.callWith_type1 (thn (ha pos pins s σ H _ I h) fun us s1 ⟨vs, H1, I1, r1, q1⟩ => hc pins s1 σ H1 vs us Q I1 r1 q1) he hpl
end
end L2
namespace HT
open PySem PyProof.Rows
section
open PySem.SeqAt
open PySem.AutoSeq1 (wpAny_loadPart')
open PySem.MeetsSeq PySem.MeetsSeq2 PySem.MeetsSeq3
end
section
variable {prog : Program} {w : World} {A : Around} {E : Value → Shared → Prop} {s : Shared}
def sIx (n d : Nat) : Option Int → Nat
  | none => d
  | some v => if v < 0 then (v + (n : Int)).toNat else min v.toNat n
theorem sIx_none (n d : Nat) : sIx n d none = d := rfl
theorem sIx_nat (n d k : Nat) : sIx n d (some (k : Int)) = min k n := by
  show (if (k : Int) < 0 then ((k : Int) + (n : Int)).toNat else min (k : Int).toNat n) = min k n
  rw [if_neg (by omega), Int.toNat_natCast]
end
end HT
namespace L2
open PySem PySem.Spec PyProof.Rows
abbrev TO := St → Hp → (Option Int → Hp → Prop) → Prop
def PO (X : Cx) (e : Option Expr) (t : TO) : Prop :=
  ∀ (pins : List (Addr × Obj)) (s : Shared) (σ : St) (H : Hp) (Q : Option Int → Hp → Prop), Inv X pins σ H s → t σ H Q →
    wpAny (model X.prog X.w) X.A (evalPart e X.env) (fun u s' => ∃ o H', Inv X pins σ H' s' ∧ IsPart u o ∧ Q o H') X.xe s
def tNoPart : TO := fun _ H Q => Q none H
def tPart (t : TE) : TO := fun σ H Q => t σ H fun x H1 => ∃ i, x = .int i ∧ Q (some i) H1
section
variable {X : Cx} {e : Expr} {te : TE} {lo hi : Option Expr} {tl th : TO} {pos p2 : Pos}
theorem po_none : PO X none tNoPart := by
  intro pins s σ H Q I h
  rw [evalPart_none]
  exact wpAny_pure ⟨none, H, I, .none, h⟩
theorem po_some (h : PE X e te) : PO X (some e) (tPart te) := by
  intro pins s σ H Q I hw
  rw [evalPart_some]
  refine thn (h pins s σ H _ I hw) fun u s1 ⟨x, H1, I1, r1, q1⟩ => ?_
  obtain ⟨i, rfl, q⟩ := q1
  obtain ⟨t, rfl⟩ := r1
  exact ⟨some i, H1, I1, .int i t, q⟩
def SlR (X : Cx) (r : V → Option Int → Option Int → Hp → VK → Prop) : Prop :=
  ∀ (pins : List (Addr × Obj)) (s : Shared) (σ : St) (H : Hp) (x : V) (v vl vu : Value) (lo hi : Option Int) (sl : Addr) (Q : VK), Inv X pins σ H s → RelV x v → s.heap.IsSliceOf sl vl vu .none → IsPart vl lo → IsPart vu hi → r x lo hi H Q →
    ∃ T id, typeLookup (.type T) "__getitem__" = pure (some (.builtin id)) ∧ s.TypeIs v T ∧ wpAny (model X.prog X.w) X.A (getItem v (.ref sl)) (EP X pins σ Q) X.xe s
theorem SlR.or {r r' : V → Option Int → Option Int → Hp → VK → Prop} (h : SlR X r) (h' : SlR X r') : SlR X (fun x lo hi H Q => r x lo hi H Q ∨ r' x lo hi H Q) := by
  intro pins s σ H x v vl vu lo hi sl Q I rx hs pl pu q
  rcases q with q | q
  · exact h pins s σ H x v vl vu lo hi sl Q I rx hs pl pu q
  · exact h' pins s σ H x v vl vu lo hi sl Q I rx hs pl pu q
def tSl (r : V → Option Int → Option Int → Hp → VK → Prop) (te : TE) (tl th : TO) : TE := fun σ H Q => te σ H fun x H1 => tl σ H1 fun l H2 => th σ H2 fun u H3 => r x l u H3 Q
theorem pe_slice {r : V → Option Int → Option Int → Hp → VK → Prop} (hr : SlR X r) (he : PE X e te) (hl : PO X lo tl) (hu : PO X hi th) : PE X (.Subscript e (.Slice lo hi none p2) pos) (tSl r te tl th) := by
  intro pins s σ H Q I h
  refine Subscript_ (thn (he pins s σ H _ I h) fun v s1 ⟨x, H1, I1, r1, q1⟩ => ?_)
  refine wpAny_Slice (thn (hl pins s1 σ H1 _ I1 q1) fun vl s2 ⟨l, H2, I2, pl, q2⟩ => thn (hu pins s2 σ H2 _ I2 q2) fun vu s3 ⟨u, H3, I3, pu, q3⟩ => ?_)
  rw [evalPart_none]
  refine wpAny_pure ?_
  have I4 : Inv X pins σ H3 { s3 with heap := s3.heap.push { cls := .type "slice", data := .fields #[vl, vu, .none] } } := I3.kept (t' := s3.toks) fun b ob q => Heap.get?_push_of_some _ q
  obtain ⟨T, id, hT, ht, hg⟩ := hr pins { s3 with heap := s3.heap.push { cls := .type "slice", data := .fields #[vl, vu, .none] } } σ H3 x v vl vu l u s3.heap.objs.size Q I4 r1 (Heap.IsSliceOf.new ..) pl pu q3
  show wpAny (model X.prog X.w) X.A (subscriptTail e (.Slice lo hi none p2) v (.ref s3.heap.objs.size)) (EP X pins σ Q) X.xe { s3 with heap := s3.heap.push { cls := .type "slice", data := .fields #[vl, vu, .none] } }
  exact tail_any (ops := [.ref s3.heap.objs.size, v]) ht hT hg (by with_unfolding_all rfl)
def cutV (xs : List V) (lo hi : Option Int) : List V := (xs.drop (HT.sIx xs.length 0 lo)).take (HT.sIx xs.length xs.length hi - HT.sIx xs.length 0 lo)
theorem cutV_length (xs : List V) (lo hi : Option Int) : (cutV xs lo hi).length ≤ xs.length := by
  unfold cutV
  rw [List.length_take, List.length_drop]
  omega
end
end L2
namespace L2
open PySem PySem.Spec PyProof.Rows
def ixN (n : Nat) (i : Int) : Option Nat := if 0 ≤ i then (if i < n then some i.toNat else none) else if -(n : Int) ≤ i then some (i + n).toNat else none
def atI {α : Type} (xs : List α) (i : Int) : Option α := (ixN xs.length i).bind fun j => xs[j]?
theorem ixN_seq {n : Nat} {i : Int} {j : Nat} (h : ixN n i = some j) : seqIndex? i n = some j ∧ j < n ∧ -(n : Int) ≤ i ∧ i < n := by
  unfold ixN at h
  by_cases h0 : 0 ≤ i
  · rw [if_pos h0] at h
    by_cases h1 : i < n
    · rw [if_pos h1] at h
      have e : i.toNat = j := Option.some.inj h
      exact ⟨by rw [seqIndex_of h0 h1, e], by omega, by omega, h1⟩
    · rw [if_neg h1] at h; cases h
  · rw [if_neg h0] at h
    by_cases h1 : -(n : Int) ≤ i
    · rw [if_pos h1] at h
      have e : (i + n).toNat = j := Option.some.inj h
      exact ⟨by rw [seqIndex_neg (by omega) h1, e], by omega, h1, by omega⟩
    · rw [if_neg h1] at h; cases h
theorem atI_get {α : Type} {xs : List α} {i : Int} {v : α} (h : atI xs i = some v) : ∃ j, seqIndex? i xs.length = some j ∧ xs[j]? = some v ∧ j < xs.length ∧ -(xs.length : Int) ≤ i ∧ i < xs.length := by
  unfold atI at h
  cases e : ixN xs.length i with
  | none => rw [e] at h; cases h
  | some j =>
    rw [e] at h
    obtain ⟨h1, h2, h3, h4⟩ := ixN_seq e
    exact ⟨j, h1, h, h2, h3, h4⟩
theorem atI_nat {α : Type} {xs : List α} {j : Nat} {v : α} (h : xs[j]? = some v) : atI xs (j : Int) = some v := by
  have hj : j < xs.length := (List.getElem?_eq_some_iff.mp h).1
  have e : ixN xs.length (j : Int) = some j := by
    unfold ixN
    rw [if_pos (by omega), if_pos (by omega)]; simp
  unfold atI; rw [e]; exact h
def PlainIx (b : Expr) : Prop := ∀ o i, subscripted b false o i = operate [o, i] (getItem o i)
def IxR (X : Cx) (r : R2) : Prop :=
  ∀ (value slice : Expr) (pins : List (Addr × Obj)) (s : Shared) (σ : St) (H : Hp) (x y : V) (v u : Value) (Q : VK), Inv X pins σ H s → RelV x v → RelV y u → r x y H Q →
    subscripted slice false v u = operate [v, u] (getItem v u) → wpAny (model X.prog X.w) X.A (subscriptTail value slice v u) (EP X pins σ Q) X.xe s
def MtR (X : Cx) (id : String) (r : V → List V → Hp → VK → Prop) : Prop :=
  ∀ (pins : List (Addr × Obj)) (s : Shared) (σ : St) (H : Hp) (x : V) (xs : List V) (v : Value) (us : List Value) (Q : VK), Inv X pins σ H s → RelV x v → Vals xs us → r x xs H Q →
    wpAny (model X.prog X.w) X.A (call (.builtin id) (v :: us)) (EP X pins σ Q) X.xe s
section
variable {X : Cx} {a b : Expr} {ta tb : TE} {pos : Pos}
theorem IxR.or {r r' : R2} (h : IxR X r) (h' : IxR X r') : IxR X (fun x y H Q => r x y H Q ∨ r' x y H Q) := by
  intro value slice pins s σ H x y v u Q I rx ry q hs
  rcases q with q | q
  · exact h value slice pins s σ H x y v u Q I rx ry q hs
  · exact h' value slice pins s σ H x y v u Q I rx ry q hs
theorem MtR.or {id : String} {r r' : V → List V → Hp → VK → Prop} (h : MtR X id r) (h' : MtR X id r') : MtR X id (fun x xs H Q => r x xs H Q ∨ r' x xs H Q) := by
  intro pins s σ H x xs v us Q I rx rs q
  rcases q with q | q
  · exact h pins s σ H x xs v us Q I rx rs q
  · exact h' pins s σ H x xs v us Q I rx rs q
theorem pe_ix {r : R2} (hr : IxR X r) (ha : PE X a ta) (hb : PE X b tb) (hs : PlainIx b) : PE X (.Subscript a b pos) (tOp r ta tb) := by
  intro pins s σ H Q I h
  exact Subscript_ (binT ha hb I h fun v u s2 x y H2 I2 rx ry q => hr a b pins s2 σ H2 x y v u Q I2 rx ry q (hs _ _))
def rIxL (K : PySem.W.Frag) : R2 := fun x y H Q => ∃ p xs i v, x = .ref p ∧ y = .int i ∧ SqL K H p xs ∧ atI xs i = some v ∧ Q v H
def rIxT (K : PySem.W.Frag) : R2 := fun x y H Q => ∃ p xs i v, x = .ref p ∧ y = .int i ∧ SqT K H p xs ∧ atI xs i = some v ∧ Q v H
def rIxS : R2 := fun x y H Q => ∃ z i c, x = .str z ∧ y = .int i ∧ z.length ≤ sizeLine ∧ atI z.cps.toList i = some c ∧ Q (.str ⟨#[c]⟩) H
theorem ix_list : IxR X (rIxL X.K) := by
  intro value slice pins s σ H x y v u Q I rx ry h hs
  obtain ⟨p, xs, i, z, rfl, rfl, hq, he, q⟩ := h
  cases rx
  obtain ⟨t, rfl⟩ := ry
  obtain ⟨its, r, pl, hz⟩ := I.list hq
  obtain ⟨j, h1, h2, h3, h4, h5⟩ := atI_get he
  obtain ⟨w, ew, rw'⟩ := r.get h2
  have hl := r.length
  have hn := line63
  have fin : EP X pins σ Q w s := ⟨z, H, I, rw', q⟩
  by_cases h0 : 0 ≤ i
  · have hj : i.toNat = j := by
      rw [seqIndex_of h0 h5] at h1
      exact Option.some.inj h1
    exact item_listR pl.isList h0 (by omega) (by rw [hj]; simpa using ew) fin hs
  · have hj : (i + (its.toArray.size : Int)).toNat = j := by
      rw [seqIndex_neg (by omega) h4] at h1
      rw [List.size_toArray, ← hl]
      exact Option.some.inj h1
    exact subscriptTail_builtinR (x := w) pl.isList.typeIs slot_list_getitem.lookup
      (wpAny_getItem_list_neg (Q := fun r s' => r = w ∧ EP X pins σ Q r s') pl.isList (by omega) (by rw [List.size_toArray] <;> omega) (by omega) (by rw [hj]; simpa using ew) ⟨rfl, fin⟩) hs
theorem ix_tup : IxR X (rIxT X.K) := by
  intro value slice pins s σ H x y v u Q I rx ry h hs
  obtain ⟨p, xs, i, z, rfl, rfl, hq, he, q⟩ := h
  cases rx
  obtain ⟨t, rfl⟩ := ry
  obtain ⟨its, r, pl, hz⟩ := I.tuple hq
  obtain ⟨j, h1, h2, h3, h4, h5⟩ := atI_get he
  obtain ⟨w, ew, rw'⟩ := r.get h2
  have hl := r.length
  have hn := line63
  have fin : EP X pins σ Q w s := ⟨z, H, I, rw', q⟩
  exact subscriptTail_builtinR (x := w) pl.typeIs slot_tuple_getitem.lookup
    (getItem_tuple (j := j) (Q := fun r s' => r = w ∧ EP X pins σ Q r s') pl (by omega) (by omega) (by rw [List.size_toArray, ← hl]; exact h1) (by simpa using ew) ⟨rfl, fin⟩) hs
theorem ix_str : IxR X rIxS := by
  intro value slice pins s σ H x y v u Q I rx ry h hs
  obtain ⟨z, i, c, rfl, rfl, hz, he, q⟩ := h
  obtain ⟨t, rfl⟩ := rx
  obtain ⟨t', rfl⟩ := ry
  obtain ⟨j, h1, h2, h3, h4, h5⟩ := atI_get he
  have hl : z.cps.toList.length = z.length := by simp [Str.length]
  rw [hl] at h1 h4 h5
  have hn := line63
  exact tail_any (typeIs_str s z t) slot_str_getitem.lookup (getItem_str (c := c) (by
    have e1 : decide (i < -(2 ^ 63 : Int)) = false := decide_eq_false (by omega)
    have e2 : decide (i ≥ 2 ^ 63) = false := decide_eq_false (by omega)
    rw [e1, e2, Bool.or_false]) (by rw [h1]; simpa using h2) ⟨.str ⟨#[c]⟩, H, I.tok _, ⟨_, rfl⟩, q⟩) hs
theorem Inv.lst {pins : List (Addr × Obj)} {σ : St} {H : Hp} {s : Shared} {p : Addr} {xs : List V} (I : Inv X pins σ H s) (h : H p = some (.lst xs)) :
    ∃ (its : List Value) (n : Nat), Vals xs its ∧ s.heap.get? p = some { cls := .type "list", data := .seq its.toArray n } ∧ xs.length ≤ sizeLine := by
  obtain ⟨z, its, n, r, e⟩ := I.hok p _ h
  exact ⟨its, n, r, e, z⟩
def rSetL : V → V → V → Hp → (Hp → Prop) → Prop := fun o i v H Q => ∃ p xs k j, o = .ref p ∧ i = .int k ∧ H p = some (.lst xs) ∧ ixN xs.length k = some j ∧ Q (upd H p (.lst (xs.set j v)))
theorem slice_bounds (lo hi : Option Int) (n : Nat) : (sliceBounds lo hi none n).1 = ((HT.sIx n 0 lo : Nat) : Int) ∧ (sliceBounds lo hi none n).2.1 = ((HT.sIx n n hi : Nat) : Int) ∧ (sliceBounds lo hi none n).2.2 = 1 := by
  refine ⟨?_, ?_, rfl⟩
  · cases lo with
    | none => simp [sliceBounds, HT.sIx]
    | some i =>
      simp only [sliceBounds, HT.sIx, Option.getD_none, show (1 : Int) > 0 by decide, if_true]
      by_cases h : i < 0
      · simp only [h, if_true] <;> omega
      · simp only [h, if_false] <;> omega
  · cases hi with
    | none => simp [sliceBounds, HT.sIx]
    | some i =>
      simp only [sliceBounds, HT.sIx, Option.getD_none, show (1 : Int) > 0 by decide, if_true]
      by_cases h : i < 0
      · simp only [h, if_true] <;> omega
      · simp only [h, if_false] <;> omega
theorem slicePick_cut (its : List Value) (lo hi : Option Int) : slicePick its.toArray lo hi none = ((its.drop (HT.sIx its.length 0 lo)).take (HT.sIx its.length its.length hi - HT.sIx its.length 0 lo)).toArray := by
  obtain ⟨h1, h2, h3⟩ := slice_bounds lo hi its.toArray.size
  unfold slicePick
  rw [h1, h2, h3]
  simp only [sliceRange_one, pick_run, List.size_toArray] <;> rfl
def rSlL (K : PySem.W.Frag) : V → Option Int → Option Int → Hp → VK → Prop := fun x lo hi H Q => ∃ a xs, x = .ref a ∧ SqL K H a xs ∧ ∀ p, H p = none → Q (.ref p) (upd H p (.lst (cutV xs lo hi)))
theorem sl_list : SlR X (rSlL X.K) := by
  intro pins s σ H x v vl vu lo hi sl Q I rx hs pl pu h
  obtain ⟨a, xs, rfl, hx, q⟩ := h
  cases rx
  obtain ⟨its, r, ht, hz⟩ := I.list hx
  have hlen := r.length
  refine ⟨"list", _, slot_list_getitem.lookup, ht.isList.typeIs, ?_⟩
  refine wpAny_getItem_list_slice ht.isList hs pl pu .none (by simp) ?_ (by rw [List.size_toArray] <;> omega)
  rw [slicePick_cut, ← hlen]
  refine ⟨.ref s.heap.objs.size, _, I.laid (t' := s.toks) (o := .lst (cutV xs lo hi)) (fun b ob q => Heap.get?_push_of_some _ q) (Nat.le_refl _) ?_, rfl, q _ (I.hok.fresh (Nat.le_refl _))⟩
  exact ⟨Nat.le_trans (cutV_length xs lo hi) hz, _, 0, (r.drop (HT.sIx xs.length 0 lo)).take (HT.sIx xs.length xs.length hi - HT.sIx xs.length 0 lo), Heap.get?_push_size _ rfl⟩
def flatV : V → Bool
  | .non => true
  | .bl _ => true
  | .int _ => true
  | .str _ => true
  | _ => false
def eqV : V → V → Bool
  | .non, .non => true
  | .bl a, .bl b => a == b
  | .bl a, .int b => (if a then 1 else 0) == b
  | .int a, .bl b => a == (if b then 1 else 0)
  | .int a, .int b => a == b
  | .str a, .str b => a == b
  | _, _ => false
theorem eqAt_V {A : Around} {s : Shared} {y x : V} {u v : Value} (ry : RelV y u) (rx : RelV x v) (fy : flatV y = true) (fx : flatV x = true) : SeqAt.EqAt A s u v (eqV y x) := by
  cases y with
  | non =>
    cases ry
    cases x with
    | non => cases rx; exact SeqAt.EqAt.same _
    | bl b => cases rx; exact SeqAt.EqAt.none_bool b
    | int b => obtain ⟨t, rfl⟩ := rx; exact SeqAt.EqAt.none_int b t
    | str b => obtain ⟨t, rfl⟩ := rx; exact SeqAt.EqAt.none_str b t
    | _ => exact absurd (show false = true from fx) Bool.false_ne_true
  | bl a =>
    cases ry
    cases x with
    | non => cases rx; exact SeqAt.EqAt.bool_none a
    | bl b => cases rx; exact SeqAt.EqAt.bool_bool a b
    | int b => obtain ⟨t, rfl⟩ := rx; exact SeqAt.EqAt.bool_int a b t
    | str b => obtain ⟨t, rfl⟩ := rx; exact SeqAt.EqAt.bool_str a b t
    | _ => exact absurd (show false = true from fx) Bool.false_ne_true
  | int a =>
    obtain ⟨t', rfl⟩ := ry
    cases x with
    | non => cases rx; exact SeqAt.EqAt.int_none a t'
    | bl b => cases rx; exact SeqAt.EqAt.int_bool a t' b
    | int b => obtain ⟨t, rfl⟩ := rx; exact SeqAt.EqAt.int_int a t' b t
    | str b => obtain ⟨t, rfl⟩ := rx; exact SeqAt.EqAt.int_str a t' b t
    | _ => exact absurd (show false = true from fx) Bool.false_ne_true
  | str a =>
    obtain ⟨t', rfl⟩ := ry
    cases x with
    | non => cases rx; exact SeqAt.EqAt.str_none a t'
    | bl b => cases rx; exact SeqAt.EqAt.str_bool a t' b
    | int b => obtain ⟨t, rfl⟩ := rx; exact SeqAt.EqAt.str_int a t' b t
    | str b => obtain ⟨t, rfl⟩ := rx; exact SeqAt.EqAt.str_str a t' b t
    | _ => exact absurd (show false = true from fx) Bool.false_ne_true
  | _ => exact absurd (show false = true from fy) Bool.false_ne_true
def eqU (x : V) (u : Value) : Bool := match u with
  | .none => eqV .non x
  | .bool b => eqV (.bl b) x
  | .int i _ => eqV (.int i) x
  | .str z _ => eqV (.str z) x
  | _ => false
theorem eqU_of {x y : V} {u : Value} (r : RelV y u) (f : flatV y = true) : eqU x u = eqV y x := by
  cases y with
  | non => cases r; rfl
  | bl b => cases r; rfl
  | int i => obtain ⟨t, rfl⟩ := r; rfl
  | str z => obtain ⟨t, rfl⟩ := r; rfl
  | _ => exact absurd (show false = true from f) Bool.false_ne_true
theorem any_eqU {x : V} : ∀ {xs : List V} {us : List Value}, Vals xs us → xs.all flatV = true → us.any (eqU x) = xs.any fun y => eqV y x
  | _, _, .nil, _ => rfl
  | y :: xs, u :: us, .cons r t, f => by
    rw [List.all_cons, Bool.and_eq_true] at f
    rw [List.any_cons, List.any_cons, eqU_of r f.1, any_eqU t f.2]
theorem mem_eqAt {A : Around} {s : Shared} {x : V} {v : Value} (rx : RelV x v) (fx : flatV x = true) : ∀ {xs : List V} {us : List Value}, Vals xs us → xs.all flatV = true → ∀ u ∈ us, SeqAt.EqAt A s u v (eqU x u)
  | _, _, .nil, _ => fun u hu => by cases hu
  | y :: xs, u :: us, .cons r t, f => fun u' hu => by
    rw [List.all_cons, Bool.and_eq_true] at f
    rcases List.mem_cons.mp hu with rfl | hu
    · rw [eqU_of r f.1]; exact eqAt_V r rx f.1 fx
    · exact mem_eqAt rx fx t f.2 u' hu
def inV (x : V) (xs : List V) : Bool := xs.any fun y => eqV y x
def rIn (K : PySem.W.Frag) (neg : Bool) : R2 := fun x y H Q => ∃ p xs, y = .ref p ∧ (SqL K H p xs ∨ SqT K H p xs) ∧ flatV x = true ∧ xs.all flatV = true ∧ Q (.bl (if neg then !inV x xs else inV x xs)) H
theorem op_in_seq : OpR X (compareOp .In) (rIn X.K false) := by
  intro pins s σ H x y v u Q I rx ry h
  obtain ⟨p, xs, rfl, hq, fx, fs, q⟩ := h
  cases ry
  rcases hq with hq | hq
  · obtain ⟨its, r, pl, hz⟩ := I.list hq
    refine SeqAt.in_listAt (eqU x) pl.isList (fun w hw => mem_eqAt rx fx r fs w (by simpa using hw)) ⟨.bl _, H, I, rfl, ?_⟩
    rw [show its.toArray.any (eqU x) = its.any (eqU x) by simp, any_eqU r fs]
    exact q
  · obtain ⟨its, r, pl, hz⟩ := I.tuple hq
    refine SeqAt.in_tupleAt (eqU x) pl (fun w hw => mem_eqAt rx fx r fs w (by simpa using hw)) ⟨.bl _, H, I, rfl, ?_⟩
    rw [show its.toArray.any (eqU x) = its.any (eqU x) by simp, any_eqU r fs]
    exact q
theorem op_notIn_seq : OpR X (compareOp .NotIn) (rIn X.K true) := by
  intro pins s σ H x y v u Q I rx ry h
  obtain ⟨p, xs, rfl, hq, fx, fs, q⟩ := h
  cases ry
  rcases hq with hq | hq
  · obtain ⟨its, r, pl, hz⟩ := I.list hq
    refine SeqAt.notIn_listAt (eqU x) pl.isList (fun w hw => mem_eqAt rx fx r fs w (by simpa using hw)) ⟨.bl _, H, I, rfl, ?_⟩
    rw [show its.toArray.any (eqU x) = its.any (eqU x) by simp, any_eqU r fs]
    exact q
  · obtain ⟨its, r, pl, hz⟩ := I.tuple hq
    refine SeqAt.notIn_tupleAt (eqU x) pl (fun w hw => mem_eqAt rx fx r fs w (by simpa using hw)) ⟨.bl _, H, I, rfl, ?_⟩
    rw [show its.toArray.any (eqU x) = its.any (eqU x) by simp, any_eqU r fs]
    exact q
theorem call_len_seq : CallR X (.builtin "len") (fun xs H Q => ∃ p ys, xs = [.ref p] ∧ (SqL X.K H p ys ∨ SqT X.K H p ys) ∧ Q (.int ys.length) H) := by
  intro pins s σ H xs us Q I r h
  obtain ⟨p, ys, rfl, hq, q⟩ := h
  obtain ⟨u, rfl, rx⟩ := vals1 r
  cases rx
  have hn := line63
  rcases hq with hq | hq
  · obtain ⟨its, r', pl, hz⟩ := I.list hq
    have hlen := r'.length
    exact Calls.call_len_list pl.isList (by simp only [List.size_toArray] <;> omega) ⟨.int ys.length, H, I.tok _, ⟨s.toks + 1, by rw [List.size_toArray, hlen]⟩, q⟩
  · obtain ⟨its, r', pl, hz⟩ := I.tuple hq
    have hlen := r'.length
    exact len_tuple pl (by simp only [List.size_toArray] <;> omega) ⟨.int ys.length, H, I.tok _, ⟨s.toks + 1, by rw [List.size_toArray, hlen]⟩, q⟩
theorem CallR.or {f : Value} {r r' : List V → Hp → VK → Prop} (h : CallR X f r) (h' : CallR X f r') : CallR X f (fun xs H Q => r xs H Q ∨ r' xs H Q) := by
  intro pins s σ H xs us Q I rs q
  rcases q with q | q
  · exact h pins s σ H xs us Q I rs q
  · exact h' pins s σ H xs us Q I rs q
theorem call_list_of : CallR X (.type "list") (fun xs H Q => ∃ p ys, xs = [.ref p] ∧ (SqL X.K H p ys ∨ SqT X.K H p ys) ∧ ∀ l, H l = none → Q (.ref l) (upd H l (.lst ys))) := by
  intro pins s σ H xs us Q I r h
  obtain ⟨p, ys, rfl, hq, q⟩ := h
  obtain ⟨u, rfl, rx⟩ := vals1 r
  cases rx
  have fin : ∀ (its : List Value), Vals ys its → ys.length ≤ sizeLine → ∀ (h' : Heap) (c' : Nat), (∀ b o', s.heap.get? b = some o' → h'.get? b = some o') →
      h'.get? s.heap.objs.size = some { cls := .type "list", dict := none, data := .seq its.toArray c', slots := #[] } → EP X pins σ Q (.ref s.heap.objs.size) { s with heap := h' } := fun its r' hz h' c' kp e =>
    ⟨.ref s.heap.objs.size, _, I.laid (t' := s.toks) kp (Nat.le_refl _) (show ObjOk X.prog X.w _ h' _ (.lst ys) from ⟨hz, its, c', r', e⟩), rfl, q _ (I.hok.fresh (Nat.le_refl _))⟩
  rcases hq with hq | hq
  · obtain ⟨its, r', pl, hz⟩ := I.list hq
    have hlen := r'.length
    obtain ⟨o, ho, hc, n, hd⟩ := pl.isList
    exact call_list_seq p (.inl rfl) ho hc hd (fun h' c' kp e => fin its r' hz h' c' kp e) (by simp only [List.size_toArray] <;> omega)
  · obtain ⟨its, r', pl, hz⟩ := I.tuple hq
    have hlen := r'.length
    obtain ⟨o, ho, hc, n, hd⟩ := pl
    exact call_list_seq p (.inr rfl) ho hc hd (fun h' c' kp e => fin its r' hz h' c' kp e) (by simp only [List.size_toArray] <;> omega)
def tyV (K : PySem.W.Frag) (T : String) (x : V) (H : Hp) : Prop := match x with
  | .str _ => T = "str"
  | .int _ => T = "int"
  | .ref p => (T = "list" ∧ ∃ xs, SqL K H p xs) ∨ (T = "tuple" ∧ ∃ o, K.lookup p = some o ∧ o.cls = .type "tuple" ∧ o.dict = none) ∨
      (T = "dict" ∧ ((∃ kvs, H p = some (.dK kvs)) ∨ ∃ kvs, H p = some (.dT kvs))) ∨ (T = "set" ∧ ∃ S n, H p = some (.set S n))
  | _ => False
theorem tyV_is {pins : List (Addr × Obj)} {σ : St} {H : Hp} {s : Shared} {T : String} {x : V} {v : Value} (I : Inv X pins σ H s) (r : RelV x v) (ty : tyV X.K T x H) :
    s.TypeIs v T ∧ ∀ a, v = .ref a → ∃ ob, s.heap.get? a = some ob ∧ ob.dict = none := by
  cases x with
  | str z =>
    obtain ⟨t, rfl⟩ := r
    cases (show T = "str" from ty)
    exact ⟨typeIs_str s z t, fun _ e => nomatch e⟩
  | int i =>
    obtain ⟨t, rfl⟩ := r
    cases (show T = "int" from ty)
    exact ⟨typeIs_int s i t, fun _ e => nomatch e⟩
  | ref p =>
    cases r
    rcases ty with ⟨rfl, xs, hq⟩ | ⟨rfl, o, hk, hc, hd⟩ | ⟨rfl, hk⟩ | ⟨rfl, S, n, hk⟩
    · obtain ⟨its, _, pl, _⟩ := I.list hq
      refine ⟨pl.isList.typeIs, fun a e => ?_⟩
      cases e
      obtain ⟨o, n, e, c, hd, _⟩ := pl
      exact ⟨o, e, hd⟩
    · refine ⟨⟨o, I.kIn p o hk, hc⟩, fun a e => ?_⟩
      cases e
      exact ⟨o, I.kIn _ o hk, hd⟩
    · have z : ∃ o, s.heap.get? p = some o ∧ o.ExactDict := by
        rcases hk with ⟨kvs, hk⟩ | ⟨kvs, hk⟩
        · obtain ⟨_, _, _, _, o, _, _, e, ex, _⟩ := I.hok p _ hk
          exact ⟨o, e, ex⟩
        · obtain ⟨_, _, _, _, o, _, _, e, ex, _⟩ := I.hok p _ hk
          exact ⟨o, e, ex⟩
      obtain ⟨o, e, ex⟩ := z
      refine ⟨⟨o, e, ex.1⟩, fun a e2 => ?_⟩
      cases e2
      exact ⟨o, e, ex.2.1⟩
    · obtain ⟨o, _, _, _, e, ex, _⟩ := I.hok p _ hk
      refine ⟨⟨o, e, ex.1⟩, fun a e2 => ?_⟩
      cases e2
      exact ⟨o, e, ex.2.1⟩
  | _ => exact False.elim ty
def tBM0 (K : PySem.W.Frag) (T : String) (r : V → List V → Hp → VK → Prop) (to : TE) : TE := fun σ H Q => to σ H fun x H1 => tyV K T x H1 ∧ r x [] H1 Q
def tBM (K : PySem.W.Frag) (T : String) (r : V → List V → Hp → VK → Prop) (to : TE) (t : TA) : TE := fun σ H Q => to σ H fun x H1 => tyV K T x H1 ∧ t σ H1 fun xs H2 => r x xs H2 Q
variable {o e : Expr} {es : List Expr} {to : TE} {t : TA} {name : Str} {apos cpos : Pos} {T id : String} {r : V → List V → Hp → VK → Prop}
theorem pe_bm0 (pa : PlainAttrs T) (slot : Slot T name id) (hty : typeOf (.builtin id) = pure (.type "method_descriptor")) (hm : MtR X id r) (ho : PE X o to)
    (hbase : attributeBase o name X.env (eval o X.env) = eval o X.env := by rfl) (hline : (apos.endLine == cpos.line) = true := by rfl) : PE X (.Call (.Attribute o name apos) [] [] cpos) (tBM0 X.K T r to) := by
  intro pins s σ H Q I h
  refine wpAny_Call_method0_late hbase hline (thn (ho pins s σ H _ I h) fun v s1 ⟨x, H1, I1, r1, ty, q1⟩ => ?_)
  obtain ⟨h1, h2⟩ := tyV_is I1 r1 ty
  exact ⟨T, id, pa, slot, hty, h1, h2, Calls.callWith_builtin rfl (PySem.evalArgs_none (hm pins s1 σ H1 x [] v [] Q I1 r1 .nil q1))⟩
theorem pe_bm (pa : PlainAttrs T) (slot : Slot T name id) (hty : typeOf (.builtin id) = pure (.type "method_descriptor")) (hm : MtR X id r) (ho : PE X o to) (ha : PA X (e :: es) t)
    (hbase : attributeBase o name X.env (eval o X.env) = eval o X.env := by rfl)
    (hfew : ((backTo cpos (starEach (e :: es) X.env)).all (fun x => !x.1) && (backToKw cpos (keywordEach [] X.env)).all (fun x => x.1.isSome)
      && decide ((e :: es).length + ([] : List Keyword).length + (if ([] : List Keyword).isEmpty then 0 else 1) < 30)) = true := by rfl)
    (hline : (apos.endLine == cpos.line) = true := by rfl) (hs : starEach (e :: es) X.env = (false, eval e X.env) :: starEach es X.env := by rfl) (hplain : (backTo cpos (starEach es X.env)).any (·.1) = false := by rfl) :
    PE X (.Call (.Attribute o name apos) (e :: es) [] cpos) (tBM X.K T r to t) := by
  intro pins s σ H Q I h
  refine wpAny_Call_method_late hbase hfew hline rfl (thn (ho pins s σ H _ I h) fun v s1 ⟨x, H1, I1, r1, ty, q1⟩ => ?_)
  obtain ⟨h1, h2⟩ := tyV_is I1 r1 ty
  refine ⟨T, id, pa, slot, hty, h1, h2, ?_⟩
  have hA := ha cpos pins s1 σ H1 _ I1 q1
  rw [hs] at hA ⊢
  refine Calls.callWith_builtin (by show (false || (backTo cpos (starEach es X.env)).any (·.1)) = false; rw [hplain] <;> rfl) (Calls.evalArgs_plain ?_)
  exact thn hA fun us s2 ⟨vs, H2, I2, r2, q2⟩ => hm pins s2 σ H2 x vs v us Q I2 r1 r2 q2
end
end L2
namespace L2
open PySem PySem.Spec PyProof.Rows
def MtM (X : Cx) (id : String) (r : V → List V → Hp → VK → Prop) : Prop :=
  ∀ (pins : List (Addr × Obj)) (s : Shared) (σ : St) (H : Hp) (x : V) (xs : List V) (v : Value) (us : List Value) (Q : VK), Inv X pins σ H s → RelV x v → Vals xs us → r x xs H Q →
    wpAny (model X.prog X.w) X.A (call (.builtin id) (v :: us)) (EP X pins σ Q) X.xe s
theorem Vals.one : ∀ {x : V} {us : List Value}, Vals [x] us → ∃ u, us = [u] ∧ RelV x u
  | _, _, .cons r .nil => ⟨_, rfl, r⟩
theorem Vals.zero : ∀ {us : List Value}, Vals [] us → us = []
  | _, .nil => rfl
theorem Vals.dropLast {xs : List V} {us : List Value} (h : Vals xs us) : Vals xs.dropLast us.dropLast := by
  induction h with
  | nil => exact .nil
  | cons r t ih =>
    cases t with
    | nil => exact .nil
    | cons q t' => exact .cons r ih
theorem Vals.eraseIdx : ∀ {xs : List V} {us : List Value} (i : Nat), Vals xs us → Vals (xs.eraseIdx i) (us.eraseIdx i)
  | _, _, _, .nil => .nil
  | _, _, 0, .cons _ t => t
  | _, _, i + 1, .cons r t => .cons r (Vals.eraseIdx i t)
theorem Vals.reverse {xs : List V} {us : List Value} (h : Vals xs us) : Vals xs.reverse us.reverse := by
  induction h with
  | nil => exact .nil
  | cons r t ih => rw [List.reverse_cons, List.reverse_cons]; exact Vals.append ih (.cons r .nil)
theorem erase_last {α : Type} (l : List α) : l.eraseIdx (l.length - 1) = l.dropLast := by
  induction l with
  | nil => rfl
  | cons a r ih =>
    cases r with
    | nil => rfl
    | cons b r =>
      have e : (a :: b :: r).length - 1 = ((b :: r).length - 1) + 1 := by
        have h1 : (a :: b :: r).length = r.length + 2 := rfl
        have h2 : (b :: r).length = r.length + 1 := rfl
        omega
      rw [e, List.eraseIdx_cons_succ, ih]
      all_goals rfl
section
variable {X : Cx} {pins : List (Addr × Obj)} {σ : St} {H : Hp} {s : Shared} {l b : Addr} {xs ys zs : List V}
theorem Inv.lset {its its' : List Value} {n : Nat} {f : Array Value → Array Value} {t' : Nat} (I : Inv X pins σ H s) (hH : H l = some (.lst xs))
    (e : s.heap.get? l = some { cls := .type "list", data := .seq its.toArray n }) (hf : f its.toArray = its'.toArray) (hv : Vals ys its') (hz : ys.length ≤ sizeLine) :
    Inv X pins σ (upd H l (.lst ys)) { s with heap := s.heap.update l (Obj.mapSeq f), toks := t' } := by
  have q := PySem.IsL.update e f
  rw [hf] at q
  refine I.write (x := l) (e := l) (by rw [hH]; exact trivial) (.inl rfl) (fun b' u hb hu => (Heap.get?_update_other s.heap (Obj.mapSeq f) (Ne.symm hb)).trans hu) ⟨_, q⟩ ?_
  exact ⟨hz, its', _, hv, q⟩
theorem Inv.lnew {its : List Value} {t' : Nat} (I : Inv X pins σ H s) (hv : Vals ys its) (hz : ys.length ≤ sizeLine) :
    Inv X pins σ (upd H s.heap.objs.size (.lst ys)) { s with heap := s.heap.push { cls := .type "list", data := .seq its.toArray }, toks := t' } :=
  I.laid (fun _ _ q => Heap.get?_push_of_some _ q) (Nat.le_refl _) ⟨hz, its, 0, hv, Heap.get?_push_size _ rfl⟩
theorem Inv.fresh (I : Inv X pins σ H s) : H s.heap.objs.size = none := I.hok.fresh (Nat.le_refl _)
theorem Inv.lstM (I : Inv X pins σ H s) (hH : H l = some (.lst xs)) : xs.length ≤ sizeLine ∧ ∃ (its : List Value) (n : Nat), Vals xs its ∧ xs.length = its.length ∧ s.heap.get? l = some { cls := .type "list", data := .seq its.toArray n } := by
  obtain ⟨z, its, n, r, e⟩ := I.hok l _ hH
  exact ⟨z, its, n, r, r.length, e⟩
theorem notLongL {n : Nat} (h : n ≤ sizeLine) : Builtin.List.listTooLong n = false := by
  unfold Builtin.List.listTooLong
  exact decide_eq_false (by omega)
end
section
variable {X : Cx}
def rAppend : V → List V → Hp → VK → Prop := fun x vs H Q => ∃ l xs y, x = .ref l ∧ vs = [y] ∧ H l = some (.lst xs) ∧ xs.length < sizeLine ∧ Q .non (upd H l (.lst (xs ++ [y])))
theorem mt_append : MtM X "list.append" rAppend := by
  intro pins s σ H x vs v us Q I rx rv h
  obtain ⟨l, xs, y, rfl, rfl, hH, hz, q⟩ := h
  cases rx
  obtain ⟨u, rfl, ru⟩ := rv.one
  obtain ⟨z, its, n, r, hl, e⟩ := I.lstM hH
  refine call_meets F.slot_list_append ⟨_, e, rfl⟩ F.entry_list_append (F.args_list_append_2 _ _) (PySem.list_append l its.toArray n u (by rw [List.size_toArray]; omega)) ⟨e, ?_⟩
  refine ⟨.non, _, I.lset (its' := its ++ [u]) hH e (by simp) (r.append (.cons ru .nil)) ?_, rfl, q⟩
  rw [List.length_append, List.length_singleton]
  omega
def rExtend : V → List V → Hp → VK → Prop := fun x vs H Q => ∃ l b xs zs, x = .ref l ∧ vs = [.ref b] ∧ H l = some (.lst xs) ∧ H b = some (.lst zs) ∧ xs.length + zs.length ≤ sizeLine ∧ Q .non (upd H l (.lst (xs ++ zs)))
theorem mt_extend : MtM X "list.extend" rExtend := by
  intro pins s σ H x vs v us Q I rx rv h
  obtain ⟨l, b, xs, zs, rfl, rfl, hH, hB, hz, q⟩ := h
  cases rx
  obtain ⟨u, rfl, ru⟩ := rv.one
  cases ru
  obtain ⟨z, its, n, r, hl, e⟩ := I.lstM hH
  obtain ⟨z2, its2, n2, r2, hl2, e2⟩ := I.lstM hB
  have hsz : its.toArray.size + its2.toArray.size ≤ sizeLine := by rw [List.size_toArray, List.size_toArray]; omega
  have hlong : ¬ (!its.toArray.isEmpty && Builtin.List.listTooLong (its.toArray.size + its2.toArray.size)) = true := by
    rw [notLongL hsz, Bool.and_false]
    exact Bool.false_ne_true
  refine call_meets F.slot_list_extend ⟨_, e, rfl⟩ F.entry_list_extend (F.args_list_extend_2 _ _)
    (AutoSeq1.list_extend_list_list_0 l its.toArray n b its2.toArray n2 hlong (by rw [List.size_toArray]; omega) (by omega)) ⟨e, e2, ?_⟩
  refine ⟨.non, _, I.lset (its' := its ++ its2) hH e (by simp) (r.append r2) ?_, rfl, q⟩
  rw [List.length_append]
  omega
def rPop : V → List V → Hp → VK → Prop := fun x vs H Q => ∃ l xs y, x = .ref l ∧ vs = [] ∧ H l = some (.lst xs) ∧ xs[xs.length - 1]? = some y ∧ Q y (upd H l (.lst xs.dropLast))
theorem mt_pop : MtM X "list.pop" rPop := by
  intro pins s σ H x vs v us Q I rx rv h
  obtain ⟨l, xs, y, rfl, rfl, hH, hy, q⟩ := h
  cases rx
  have hus := rv.zero
  subst hus
  obtain ⟨z, its, n, r, hl, e⟩ := I.lstM hH
  obtain ⟨u, hu, ru⟩ := r.get hy
  have hy' : its.toArray[its.toArray.size - 1]? = some u := by
    show its.toArray[its.length - 1]? = some u
    rw [← Array.getElem?_toList, ← hl]
    exact hu
  refine call_meets F.slot_list_pop ⟨_, e, rfl⟩ F.entry_list_pop (F.args_list_pop_1 _) (MeetsSeq.list_pop_last l its.toArray n u hy' (by rw [List.size_toArray]; omega)) ⟨e, ?_⟩
  refine ⟨y, _, I.lset (its' := its.dropLast) hH e ?_ r.dropLast ?_, ru, q⟩
  · show its.toArray.eraseIdxIfInBounds (its.toArray.size - 1) = its.dropLast.toArray
    rw [List.size_toArray, List.eraseIdxIfInBounds_toArray, erase_last]
  · rw [List.length_dropLast]
    omega
def rCat : R2 := fun x y H Q => ∃ l b xs zs, x = .ref l ∧ y = .ref b ∧ H l = some (.lst xs) ∧ H b = some (.lst zs) ∧ xs.length + zs.length ≤ sizeLine ∧ ∀ p, H p = none → Q (.ref p) (upd H p (.lst (xs ++ zs)))
theorem op_cat : OpR X (binaryOp .Add) rCat := by
  intro pins s σ H x y v u Q I rx ry h
  obtain ⟨l, b, xs, zs, rfl, rfl, hH, hB, hz, q⟩ := h
  cases rx
  cases ry
  obtain ⟨z, its, n, r, hl, e⟩ := I.lstM hH
  obtain ⟨z2, its2, n2, r2, hl2, e2⟩ := I.lstM hB
  refine PySem.P.add_list e e2 ?_ (by rw [List.size_toArray, List.size_toArray]; omega)
  have ea : its.toArray ++ its2.toArray = (its ++ its2).toArray := by simp
  rw [ea]
  exact ⟨.ref _, _, I.lnew (t' := s.toks) (r.append r2) (by rw [List.length_append]; omega), rfl, q _ I.fresh⟩
def rRep : R2 := fun x y H Q => ∃ l k xs, x = .ref l ∧ y = .int k ∧ H l = some (.lst xs) ∧ -(2 ^ 63) ≤ k ∧ k < 2 ^ 63 ∧ xs.length * k.toNat ≤ sizeLine ∧
  ∀ p, H p = none → Q (.ref p) (upd H p (.lst (List.replicate k.toNat xs).flatten))
end
section
variable {prog : Program} {w : World} {A : Around} {E : Value → Shared → Prop} {s : Shared}
end
section
variable {X : Cx}
end
end L2
namespace Att
open PySem PySem.W PySem.Calls PyProof.Rows
theorem ints_of_wellAll {P : Params} {h : Heap} : ∀ (ns : List Int) (vs : List Value), WellAll P h vs (ns.map WData.int) → IntsAre vs ns := by
  intro ns
  induction ns with
  | nil =>
    intro vs w
    rw [List.map_nil] at w
    cases w
    exact .nil
  | cons n ns ih =>
    intro vs w
    rw [List.map_cons] at w
    cases w with
    | cons a b =>
      cases a
      exact .cons _ _ (ih _ b)
theorem script_of {l : OpenLaw} {n : Nat} (hn : l.most = some n) {P : Params} {h : Heap} {args : List WData} {vals : List Value}
    (hpre : l.row.toRowW.claim.pre args = true) (hwl : WellAll P h vals args) :
    ∃ a vs ns, vals = [Value.ref a] ∧ args = [WData.list (ns.map WData.int)] ∧ h.get? a = some { cls := .type "list", data := .seq vs.toArray } ∧ IntsAre vs ns ∧ ns.length ≤ n := by
  have hsh : WShape.hasAll [] args [.list .int] = true := (pre_splitW hpre).1
  have hc : l.pre.holds [] { args := args } = true := (pre_splitW hpre).2
  obtain ⟨d, r, rfl, h1, h2⟩ := hasAllW_cons hsh
  obtain rfl := hasAllW_nil h2
  obtain ⟨xs, rfl, h3⟩ := hasW_list h1
  obtain ⟨ns, rfl⟩ := items_int h3
  have hlen : ns.length ≤ n := by
    unfold OpenLaw.pre at hc
    have h4 : (WTm.not (.lt (.lit (.int (n : Int))) (.len (.arg 0)))).holds [] { args := [.list (ns.map .int)] } = true := by
      have h4 := (holds_andW hc).1
      rw [hn] at h4
      exact h4
    have h5 := condW_of h4 (w_not (w_lt w_lit (w_len_list (w_arg rfl))))
    rw [List.length_map] at h5
    refine Nat.le_of_not_lt fun q => ?_
    have q' : (n : Int) < ((ns.length : Nat) : Int) := by omega
    first
      | (rw [decide_eq_true q'] at h5; exact absurd h5 (by decide))
      | (simp at h5; omega)
  cases hwl with
  | cons w1 w2 =>
    cases w2
    cases w1 with
    | list ho hall => exact ⟨_, _, ns, rfl, rfl, ho, ints_of_wellAll ns _ hall, hlen⟩
theorem post_true (l : OpenLaw) (args : List WData) : l.row.toRowW.claim.post args (.bool true) args = true :=
  postW_of (r := l.row.toRowW) (X := (true == true))
    (show WShape.has [] (.bool true) .bool = true by first | rfl | decide | simp [WShape.has, WShape.arms, WShape.armsAll])
    (show (WTm.eq .res (.lit (.bool true))).value [] { args := args, res := some (.bool true), after := args } = some (.bool (true == true)) from w_eq_bool (w_res rfl) w_lit) rfl
theorem attach_call {l : OpenLaw} {n : Nat} {q : Program} {loose : List Str} {XP : (Str → Option Value) → Heap → Prop} {YP : World → Heap → Prop} {d : DefRec}
    (hn : l.most = some n) (hdf : d.params.defaults = [])
    (call : ∀ (w : World) (s₀ s₁ : Shared) (mg mb : Str → Option Value) (fa : Addr) (o : Obj) (pm cd doc : Value) (a : Addr) (vs : List Value) (ns : List Int),
      Ground q loose [] XP w s₀ mg mb s₁.heap → YP w s₁.heap →
      s₁.heap.get? fa = some o → o.data = .func (docDef d.name d.params d.body d.scope pm cd doc) → s₁.heap.CodeRec cd d.name → mg d.name = some (.ref fa) →
      s₁.heap.get? a = some { cls := .type "list", data := .seq vs.toArray } → IntsAre vs ns → ns.length ≤ n → s₁.gens = #[] →
      codeAny (model l.prog w) callerA (.call (.ref fa) ⟨[.ref a], []⟩) (fun r s' => r = .ok (.ret (.bool true)) ∧ OldK s₁.heap s'.heap ∧ s'.os = s₁.os ∧ AllBare s'.gens) s₁) :
    WalkO q loose XP YP l.row.toRowW d [] (fun f vs => PySem.call f vs) := by
  intro w s₀ s₁ mg mb G Y fa o pm cd doc dV kV ho hd hcd hD hmg hg args vals as hpre hlay hrd hwl hlo
  obtain rfl : dV = .none := Dflts.none hD hdf
  obtain rfl : kV = .none := Dflts.noKw hD
  obtain ⟨a, vs, ns, rfl, rfl, hobj, hints, hlen⟩ := script_of hn hpre hwl
  refine enter_call (codeAny_mono (call w s₀ s₁ mg mb fa o pm cd doc a vs ns G Y ho (fd_plain hd) hcd hmg hobj hints hlen hg) fun r s' hq => ?_)
  obtain ⟨rfl, h2, h3, h4⟩ := hq
  exact ⟨.inl ⟨.bool true, .bool true, [], rfl, fun _ => rfl, .bool true, post_true l _, fun _ => ⟨List.Pairwise.nil, fun _ hm => (nomatch hm)⟩⟩, h2, h3, h4⟩
section
variable {prog : Program} {w : World} {A : Around} {E : Value → Shared → Prop} {s : Shared} {K : Frag}
end
end Att
namespace L2
open PySem PySem.Spec PyProof.Rows
theorem vals_ints : ∀ {vs : List Value} {ns : List Int}, IntsAre vs ns → Vals (ns.map V.int) vs
  | _, _, .nil => .nil
  | _, _, .cons n t h => .cons ⟨t, rfl⟩ (vals_ints h)
end L2
namespace L2
open PySem PySem.Spec PyProof.Rows
end L2
namespace L2
open PySem PySem.Spec PyProof.Rows
def defArgs (s : Stmt) : Arguments := match s with
  | .FunctionDef _ a _ _ _ _ _ _ _ _ => a
  | _ => { posonlyargs := [], args := [], vararg := none, kwonlyargs := [], kw_defaults := [], kwarg := none, defaults := [] }
def defBody (s : Stmt) : List Stmt := match s with
  | .FunctionDef _ _ b _ _ _ _ _ _ _ => b
  | _ => []
def defScope (s : Stmt) : Scope := match s with
  | .FunctionDef _ _ _ _ _ _ sc _ _ _ => sc
  | _ => { kind := .function, names := [], isGenerator := false, isCoroutine := false }
abbrev CX0 : CXT := fun _ _ _ _ _ _ => False
abbrev E0 : XK := fun _ _ _ => False
theorem pass0 {X : Cx} : Passes CX0 X E0 := fun _ _ _ _ _ _ _ h => h.elim
structure Fun (K : PySem.W.Frag) (x qual : Str) (st : Stmt) (f : Addr) (fd : FuncData) : Prop where
  ex : ∃ (oc : Value) (od : Option Addr) (kV doc pm : Value) (an : Option Addr) (cdv ct : Value) (osl : Array (Option Value)),
    fd = PySem.W.fnOf x qual (defArgs st) (defBody st) (defScope st) .none kV doc pm an cdv ct ∧ K.lookup f = some ⟨oc, od, .func fd, osl⟩ ∧ PySem.W.codeIn K cdv qual = true
  kp : PySem.W.keepIn K (.ref f) = true
section
variable {P : Program} {w : World} {K : PySem.W.Frag} {mg : Str → Option Value} {base : Heap}
theorem Fun.ok {x qual : Str} {st : Stmt} {f : Addr} {fd : FuncData} {N ps : List Str} {k : Nat} {sp : Sp} (F : Fun K x qual st f fd) (S : FnScope N ps (defScope st)) (len : ∀ vs H Q E, sp vs H Q E → vs.length = ps.length)
    (hbody : ∀ (cdv : Value) (A : Around) (outer : List Env) (s : Shared) (H : Hp) (vs : List V) (Q : VK) (E : XK), Room k (A.deeper (envOfC qual (defScope st) s.heap.objs.size f cdv)) → sp vs H Q E →
      ∃ t, PSs (cxOf CX0 P w K mg base N qual (defScope st) f cdv A outer s H E).nox (defBody st) t ∧ t { nx := fun _ H' => Q .non H', rt := Q } (start N vs) H) : FnOk P w K mg base CX0 (k + 1) f fd ps sp := by
  obtain ⟨oc, od, kV, doc, pm, an, cdv, ct, osl, rfl, lk, hcd⟩ := F.ex
  refine fn_of lk hcd S len fun A outer s H vs Q E hr hsp => ?_
  obtain ⟨t, h, q⟩ := hbody cdv A outer s H vs Q E hr hsp
  exact ⟨t, h.nox, q⟩
theorem Fun.binds {x qual : Str} {st : Stmt} {f : Addr} {fd : FuncData} {ps : List Str} (F : Fun K x qual st f fd)
    (h : ∀ (kV doc pm : Value) (an : Option Addr) (cdv ct : Value) (us : List Value), us.length = ps.length → bindArgs (PySem.W.fnOf x qual (defArgs st) (defBody st) (defScope st) .none kV doc pm an cdv ct) ⟨us, []⟩ = pure (ps.zip us)) : Binds K fd ps [] := by
  obtain ⟨oc, od, kV, doc, pm, an, cdv, ct, osl, rfl, lk, hcd⟩ := F.ex
  exact .all (h kV doc pm an cdv ct)
theorem fun_mk {x qual : Str} {st : Stmt} {f : Addr} {oc : Value} {od an : Option Addr} {osl : Array (Option Value)} {kV doc pm cdv ct : Value} (l : K.lookup f = some ⟨oc, od, .func (PySem.W.fnOf x qual (defArgs st) (defBody st) (defScope st) .none kV doc pm an cdv ct), osl⟩)
    (c : PySem.W.codeIn K cdv qual = true) (k : PySem.W.keepIn K (.ref f) = true) : Fun K x qual st f (PySem.W.fnOf x qual (defArgs st) (defBody st) (defScope st) .none kV doc pm an cdv ct) := ⟨⟨oc, od, kV, doc, pm, an, cdv, ct, osl, rfl, l, c⟩, k⟩
end
theorem hu_of {A : Around} {k : Nat} (hr : Room k A) : A.units + 1 < cLine := Nat.lt_of_le_of_lt (Nat.add_le_add_left (by decide : 1 ≤ 64) _) hr.units
theorem small1000 {n : Nat} (h : n ≤ 1000) : n < sizeLine := Nat.lt_of_le_of_lt h (by decide)
section
variable {X : Cx}
theorem pv (i : Nat) {x : Str} {pos : Pos} (hN : X.N[i]? = some x := by rfl) (hv : Vis X.env.scope x := by first | exact Or.inl rfl | exact Or.inr (Or.inl rfl) | exact Or.inr (Or.inr rfl)) (hd : (x == ("__debug__" : Str)) = false := by decide)
    (hcd : (x == ("__classdict__" : Str)) = false := by decide) : PE X (.Name x pos) (tVar i) := pe_var hN hv hd hcd
end
theorem ite2 {c A B : Prop} [Decidable c] (h1 : c → A) (h2 : ¬ c → B) : if c then A else B := by
  by_cases h : c
  · rw [if_pos h]
    exact h1 h
  · rw [if_neg h]
    exact h2 h
def Same (H H' : Hp) : Prop := ∀ b o, H b = some o → H' b = some o
theorem Same.refl (H : Hp) : Same H H := fun _ _ h => h
theorem Same.trans {H H1 H2 : Hp} (a : Same H H1) (b : Same H1 H2) : Same H H2 := fun c o h => b c o (a c o h)
theorem Same.free {H H' : Hp} (e : Same H H') {l : Addr} (h : H' l = Option.none) : H l = Option.none := by
  cases q : H l with
  | none => rfl
  | some o =>
    rw [e l o q] at h
    cases h
theorem Same.seq {K : PySem.W.Frag} {H H' : Hp} {a : Addr} {xs : List V} (e : Same H H') (h : SqL K H a xs) : SqL K H' a xs := by
  rcases h with (h | ⟨o, h⟩) | h
  · exact .inl (.inl (e _ _ h))
  · exact .inl (.inr ⟨o, e _ _ h⟩)
  · exact .inr h
end L2
set_option Elab.async false
set_option linter.all false
set_option maxRecDepth 100000
namespace L2
open PySem PySem.Spec PyProof.Rows
section
variable {κ : Type} [DecidableEq κ]
def valV (kvs : List (κ × V)) (k : κ) : Option V := (kvs.find? fun kv => decide (kv.1 = k)).map (·.2)
def putK (kvs : List (κ × V)) (k : κ) (v : V) : List (κ × V) :=
  if (kvs.any fun kv => decide (kv.1 = k)) = true then kvs.map (fun kv => if kv.1 = k then (kv.1, v) else kv) else kvs ++ [(k, v)]
def dropK (kvs : List (κ × V)) (k : κ) : List (κ × V) := kvs.filter fun kv => decide (kv.1 ≠ k)
theorem valV_pos {p : κ × V} {r : List (κ × V)} {k : κ} (e : p.1 = k) : valV (p :: r) k = some p.2 := by simp [valV, List.find?_cons, e]
theorem valV_neg {p : κ × V} {r : List (κ × V)} {k : κ} (e : ¬ p.1 = k) : valV (p :: r) k = valV r k := by simp [valV, List.find?_cons, e]
theorem valV_any (k : κ) : ∀ kvs : List (κ × V), (kvs.any fun kv => decide (kv.1 = k)) = (valV kvs k).isSome
  | [] => rfl
  | p :: r => by
    rw [List.any_cons]
    by_cases e : p.1 = k
    · simp only [valV_pos e, decide_eq_true e, Bool.true_or, Option.isSome_some]
    · rw [valV_neg e, decide_eq_false e, Bool.false_or]; exact valV_any k r
theorem length_putK (kvs : List (κ × V)) (k : κ) (v : V) : (putK kvs k v).length ≤ kvs.length + 1 := by
  unfold putK
  split
  · rw [List.length_map]; omega
  · rw [List.length_append, List.length_cons, List.length_nil]; omega
theorem putK_new {kvs : List (κ × V)} {k : κ} (v : V) (h : valV kvs k = none) : putK kvs k v = kvs ++ [(k, v)] := by
  unfold putK
  rw [valV_any, h]
  exact if_neg (by decide)
theorem RelO.isSome_eq {o : Option V} {u : Option Value} (r : RelO o u) : o.isSome = u.isSome := by
  cases o with
  | none => cases u with
    | none => rfl
    | some _ => exact (show False from r).elim
  | some _ => cases u with
    | none => exact (show False from r).elim
    | some _ => rfl
theorem RelO.getD {o : Option V} {u : Option Value} {d : V} {d' : Value} (r : RelO o u) (rd : RelV d d') : RelV (o.getD d) (u.getD d') := by
  cases o with
  | none => cases u with
    | none => exact rd
    | some _ => exact (show False from r).elim
  | some _ => cases u with
    | none => exact (show False from r).elim
    | some _ => exact r
theorem KV.val {kvs : List (κ × V)} {vs : List (κ × Value)} (r : KV kvs vs) (k : κ) : RelO (valV kvs k) (valueAt vs k) := by
  unfold KV at r
  induction r with
  | nil => exact True.intro
  | @cons p q ps qs h t ih =>
    obtain ⟨h1, h2⟩ := h
    by_cases e : p.1 = k
    · have e' : q.1 = k := h1.symm.trans e
      have b : valueAt (q :: qs) k = some q.2 := by simp [valueAt, List.find?_cons, e']
      rw [valV_pos e, b]; exact h2
    · have e' : ¬ q.1 = k := fun z => e (h1.trans z)
      have b : valueAt (q :: qs) k = valueAt qs k := by simp [valueAt, List.find?_cons, e']
      rw [valV_neg e, b]; exact ih
theorem KV.any {kvs : List (κ × V)} {vs : List (κ × Value)} (r : KV kvs vs) (k : κ) : (kvs.any fun kv => decide (kv.1 = k)) = vs.any fun kv => decide (kv.1 = k) := by
  unfold KV at r
  induction r with
  | nil => rfl
  | cons h t ih => rw [List.any_cons, List.any_cons, ih, h.1]
theorem KV.repl {kvs : List (κ × V)} {vs : List (κ × Value)} (r : KV kvs vs) (k : κ) {y : V} {u : Value} (ry : RelV y u) :
    KV (kvs.map fun kv => if kv.1 = k then (kv.1, y) else kv) (vs.map fun kv => if kv.1 = k then (kv.1, u) else kv) := by
  unfold KV at r ⊢
  induction r with
  | nil => exact .nil
  | @cons p q ps qs h t ih =>
    rw [List.map_cons, List.map_cons]
    refine .cons ?_ ih
    obtain ⟨h1, h2⟩ := h
    by_cases e : p.1 = k
    · rw [if_pos e, if_pos (h1.symm.trans e)]; exact ⟨h1, ry⟩
    · rw [if_neg e, if_neg (fun z => e (h1.trans z))]; exact ⟨h1, h2⟩
theorem KV.put {kvs : List (κ × V)} {vs : List (κ × Value)} (r : KV kvs vs) (k : κ) {y : V} {u : Value} (ry : RelV y u) : KV (putK kvs k y) (stored vs k u) := by
  unfold putK stored
  rw [r.any k]
  by_cases e : (vs.any fun kv => decide (kv.1 = k)) = true
  · rw [if_pos e, if_pos e]; exact r.repl k ry
  · rw [if_neg e, if_neg e]; exact Paired.snoc r ⟨rfl, ry⟩
theorem KV.drop {kvs : List (κ × V)} {vs : List (κ × Value)} (r : KV kvs vs) (k : κ) : KV (dropK kvs k) (without vs k) := by
  unfold KV at r ⊢
  unfold dropK without
  induction r with
  | nil => exact .nil
  | @cons p q ps qs h t ih =>
    obtain ⟨h1, h2⟩ := h
    rw [List.filter_cons, List.filter_cons]
    by_cases e : p.1 = k
    · have a : ¬ decide (p.1 ≠ k) = true := by simp [e]
      have b : ¬ decide (q.1 ≠ k) = true := by simp [h1.symm.trans e]
      rw [if_neg a, if_neg b]; exact ih
    · have e' : ¬ q.1 = k := fun z => e (h1.trans z)
      have a : decide (p.1 ≠ k) = true := by simp [e]
      have b : decide (q.1 ≠ k) = true := by simp [e']
      rw [if_pos a, if_pos b]; exact .cons ⟨h1, h2⟩ ih
theorem KV.keys {kvs : List (κ × V)} {vs : List (κ × Value)} (r : KV kvs vs) : kvs.map (·.1) = vs.map (·.1) := by
  unfold KV at r
  induction r with
  | nil => rfl
  | cons h t ih => rw [List.map_cons, List.map_cons, ih, h.1]
theorem KV.length {kvs : List (κ × V)} {vs : List (κ × Value)} (r : KV kvs vs) : kvs.length = vs.length := Paired.length r
end
theorem kV_is {P : Program} {w : World} {k : Key} {u : Value} (r : RelV (kV k) u) : (mixKind P w).is k u = true := by
  cases k with
  | inl i => obtain ⟨t, e⟩ := (show ∃ t, u = Value.int i t from r); subst e; exact mixKind_int P w i t
  | inr x => obtain ⟨t, e⟩ := (show ∃ t, u = Value.str x t from r); subst e; exact mixKind_str P w x t
theorem items_are {P : Program} {w : World} : ∀ {ks : List Key} {us : List Value}, Vals (ks.map kV) us → ItemsAre (mixKind P w) ks us
  | [], _, r => by rw [List.map_nil] at r; cases r; exact .nil
  | k :: ks, _, r => by
    rw [List.map_cons] at r
    cases r with
    | cons h t => exact .cons (kV_is h) (items_are t)
abbrev KT (H : Hp) : List (List Key × V) → List (List Key × Addr × Value) → Prop := Paired fun p q => p.1 = q.1 ∧ H q.2.1 = some (.tup (p.1.map kV)) ∧ RelV p.2 q.2.2
theorem KT.val {H : Hp} {kvs : List (List Key × V)} {xs : List (List Key × Addr × Value)} (r : KT H kvs xs) (k : List Key) : RelO (valV kvs k) ((atKey xs k).map (·.2)) := by
  induction r with
  | nil => exact True.intro
  | @cons p q ps qs h t ih =>
    obtain ⟨h1, _, h2⟩ := h
    by_cases e : p.1 = k
    · have e' : q.1 = k := h1.symm.trans e
      have b : atKey (q :: qs) k = some q.2 := by simp [atKey, List.find?_cons, e']
      rw [valV_pos e, b]; exact h2
    · have e' : ¬ q.1 = k := fun z => e (h1.trans z)
      have b : atKey (q :: qs) k = atKey qs k := by simp [atKey, List.find?_cons, e']
      rw [valV_neg e, b]; exact ih
theorem KT.repl {H : Hp} {kvs : List (List Key × V)} {xs : List (List Key × Addr × Value)} (r : KT H kvs xs) (k : List Key) {y : V} {u : Value} (ry : RelV y u) :
    KT H (kvs.map fun kv => if kv.1 = k then (kv.1, y) else kv) (xs.map (putAt k u)) := by
  induction r with
  | nil => exact .nil
  | @cons p q ps qs h t ih =>
    rw [List.map_cons, List.map_cons]
    refine .cons ?_ ih
    obtain ⟨h1, h2, h3⟩ := h
    unfold putAt
    by_cases e : p.1 = k
    · rw [if_pos e, if_pos (h1.symm.trans e)]; exact ⟨h1, h2, ry⟩
    · rw [if_neg e, if_neg (fun z => e (h1.trans z))]; exact ⟨h1, h2, h3⟩
theorem KT.put {H : Hp} {kvs : List (List Key × V)} {xs : List (List Key × Addr × Value)} (r : KT H kvs xs) (k : List Key) {b : Addr} {y : V} {u : Value} (hb : H b = some (.tup (k.map kV))) (ry : RelV y u) :
    KT H (putK kvs k y) (storedH xs k b u) := by
  have e : (kvs.any fun kv => decide (kv.1 = k)) = (atKey xs k).isSome := by
    rw [valV_any, (r.val k).isSome_eq, Option.isSome_map]
  unfold putK storedH
  rw [e]
  by_cases q : (atKey xs k).isSome = true
  · rw [if_pos q, if_pos q]; exact r.repl k ry
  · rw [if_neg q, if_neg q]; exact Paired.snoc r ⟨rfl, hb, ry⟩
theorem KT.keeps {H H' : Hp} {kvs : List (List Key × V)} {xs : List (List Key × Addr × Value)} (r : KT H kvs xs) (ht : ∀ b ys, H b = some (.tup ys) → H' b = some (.tup ys)) : KT H' kvs xs :=
  Paired.mapP r fun _ _ z => ⟨z.1, ht _ _ z.2.1, z.2.2⟩
section
variable {P : Program} {w : World} {H : Hp} {h : Heap} {a : Addr}
theorem rd_of {u : HO} (ok : HOk P w H h) (e : Rd H a u) : ObjOk P w H h a u := e.ok ok
theorem dk_rd {kvs : List (Key × V)} (ok : HOk P w H h) (e : Rd H a (.dK kvs)) : kvs.length ≤ sizeLine ∧ (a == sysModules) = false ∧ ∃ vs, KV kvs vs ∧ h.DictOf (mixKind P w) a vs :=
  show ObjOk P w H h a (.dK kvs) from rd_of ok e
theorem dk_of {kvs : List (Key × V)} (ok : HOk P w H h) (e : H a = some (.dK kvs)) : kvs.length ≤ sizeLine ∧ (a == sysModules) = false ∧ ∃ vs, KV kvs vs ∧ h.DictOf (mixKind P w) a vs := dk_rd ok (.inl e)
theorem key_of {ks : List Key} (ok : HOk P w H h) (e : H a = some (.tup (ks.map kV))) : (tupleKind (mixKind P w)).is h ks a := by
  obtain ⟨_, its, r, o, h1, h2, n, h3⟩ := (show ObjOk P w H h a (.tup (ks.map kV)) from ok a _ e)
  exact ⟨o, its.toArray, n, h1, h2, h3, by simpa using items_are r⟩
theorem dt_rd {kvs : List (List Key × V)} (ok : HOk P w H h) (e : Rd H a (.dT kvs)) : kvs.length ≤ sizeLine ∧ (a == sysModules) = false ∧
    ∃ xs, KT H kvs xs ∧ h.DictOfH (tupleKind (mixKind P w)) a xs := by
  obtain ⟨z, y, xs, r, o, es, ep, h1, h2, h3, h4, h5⟩ := (show ObjOk P w H h a (.dT kvs) from rd_of ok e)
  refine ⟨z, y, xs, r, o, es, ep, h1, h2, h3, h4, fun x hx => ?_, h5⟩
  have all : ∀ {l : List (List Key × V)} {m : List (List Key × Addr × Value)}, KT H l m → ∀ x ∈ m, (tupleKind (mixKind P w)).is h x.1 x.2.1 := by
    intro l m q
    induction q with
    | nil => intro x hx; exact nomatch hx
    | @cons p q ps qs hq t ih =>
      intro x hx
      rcases List.mem_cons.mp hx with e | hx
      · subst e
        exact key_of ok (by rw [← hq.1]; exact hq.2.1)
      · exact ih x hx
  exact all r x hx
theorem dt_of {kvs : List (List Key × V)} (ok : HOk P w H h) (e : H a = some (.dT kvs)) : kvs.length ≤ sizeLine ∧ (a == sysModules) = false ∧
    ∃ xs, KT H kvs xs ∧ h.DictOfH (tupleKind (mixKind P w)) a xs := dt_rd ok (.inl e)
end
def DGet (H : Hp) (a : Addr) (y : V) (r : Option V) : Prop :=
  (∃ kvs k, Rd H a (.dK kvs) ∧ y = kV k ∧ r = valV kvs k) ∨ ∃ kvs k b, Rd H a (.dT kvs) ∧ y = .ref b ∧ H b = some (.tup (k.map kV)) ∧ r = valV kvs k
def DPut (H : Hp) (a : Addr) (y v : V) (H' : Hp) : Prop :=
  (∃ kvs k, H a = some (.dK kvs) ∧ y = kV k ∧ kvs.length < sizeLine ∧ H' = upd H a (.dK (putK kvs k v))) ∨
  ∃ kvs k b, H a = some (.dT kvs) ∧ y = .ref b ∧ H b = some (.tup (k.map kV)) ∧ kvs.length < sizeLine ∧ H' = upd H a (.dT (putK kvs k v))
theorem DGet.k {H : Hp} {a : Addr} {kvs : List (Key × V)} {k : Key} (e : H a = some (.dK kvs)) : DGet H a (kV k) (valV kvs k) := .inl ⟨kvs, k, .inl e, rfl, rfl⟩
theorem DGet.t {H : Hp} {a b : Addr} {kvs : List (List Key × V)} {k : List Key} (e : H a = some (.dT kvs)) (eb : H b = some (.tup (k.map kV))) : DGet H a (.ref b) (valV kvs k) := .inr ⟨kvs, k, b, .inl e, rfl, eb, rfl⟩
theorem DPut.k {H : Hp} {a : Addr} {kvs : List (Key × V)} {k : Key} {v : V} (e : H a = some (.dK kvs)) (hl : kvs.length < sizeLine) : DPut H a (kV k) v (upd H a (.dK (putK kvs k v))) := .inl ⟨kvs, k, e, rfl, hl, rfl⟩
theorem DPut.t {H : Hp} {a b : Addr} {kvs : List (List Key × V)} {k : List Key} {v : V} (e : H a = some (.dT kvs)) (eb : H b = some (.tup (k.map kV))) (hl : kvs.length < sizeLine) :
    DPut H a (.ref b) v (upd H a (.dT (putK kvs k v))) := .inr ⟨kvs, k, b, e, rfl, eb, hl, rfl⟩
section
variable {X : Cx} {pins : List (Addr × Obj)} {σ : St} {H : Hp} {s : Shared} {a : Addr} {y v : V} {u r : Value} {o : Option V} {A : Around} {E : Value → Shared → Prop}
theorem Inv.big (I : Inv X pins σ H s) : sysModules < s.heap.objs.size := by
  have h : mainGlobals < s.heap.objs.size := (I.mod.glob.keeps I.bk).lt
  exact Nat.lt_trans (by decide) h
theorem d_getItem {Q : Value → Shared → Prop} (hu : A.units + 1 < cLine) (I : Inv X pins σ H s) (g : DGet H a y (some v)) (ry : RelV y u) (h : ∀ w' s', Inv X pins σ H s' → RelV v w' → Q w' s') :
    wpAny (model X.prog X.w) A (getItem (.ref a) u) Q E s := by
  rcases g with ⟨kvs, k, e, ey, l⟩ | ⟨kvs, k, b, e, ey, eb, l⟩
  · subst ey
    obtain ⟨z, hd, vs, rel, dd⟩ := dk_rd I.hok e
    obtain ⟨w', hw, rw'⟩ := RelO.some_of (v := v) (o := valueAt vs k) (by rw [l]; exact rel.val k)
    exact wpAny_getItem_of (kV_is ry) dd.mapOf hw (h w' _ (I.tok _) rw')
  · subst ey
    cases (show u = Value.ref b from ry)
    obtain ⟨z, hd, xs, rel, dd⟩ := dt_rd I.hok e
    obtain ⟨w', hw, rw'⟩ := RelO.some_of (v := v) (o := (atKey xs k).map (·.2)) (by rw [l]; exact rel.val k)
    obtain ⟨p, hp, hp2⟩ := Option.map_eq_some_iff.mp hw
    refine wpAny_getItem_heap (tupleKind_room_in1 hu) (key_of I.hok eb) dd hp ?_
    rw [hp2]
    exact h w' _ (I.tok _) rw'
theorem d_write {h' : Heap} {t' : Nat} {ob : HO} (I : Inv X pins σ H s) (mu : Mut (H a)) (hs : Heap.SameBut a s.heap h') (he : ∃ q, h'.get? a = some q) (new : ObjOk X.prog X.w (upd H a ob) h' a ob) :
    Inv X pins σ (upd H a ob) { s with heap := h', toks := t' } :=
  I.write (x := a) (e := a) mu (.inl rfl) (fun b q hb z => (hs.2 b hb).trans z) he new
theorem dk_new {P : Program} {w : World} {H' : Hp} {h' : Heap} {kvs : List (Key × V)} {vs : List (Key × Value)} (z : kvs.length ≤ sizeLine) (hd : (a == sysModules) = false) (rel : KV kvs vs) (dd : h'.DictOf (mixKind P w) a vs) :
    ObjOk P w H' h' a (.dK kvs) := ⟨z, hd, vs, rel, dd⟩
theorem d_setItem {H' : Hp} {Q : Unit → Shared → Prop} (hu : A.units + 1 < cLine) (I : Inv X pins σ H s) (g : DPut H a y v H') (ry : RelV y u) (rv : RelV v r) (h : ∀ s', Inv X pins σ H' s' → Q () s') :
    wpAny (model X.prog X.w) A (setItem (.ref a) u r) Q E s := by
  rcases g with ⟨kvs, k, e, ey, l, eH⟩ | ⟨kvs, k, b, e, ey, eb, l, eH⟩
  · subst ey eH
    obtain ⟨z, hd, vs, rel, dd⟩ := dk_of I.hok e
    have hz : vs.length ≤ sizeLine := by rw [← rel.length]; exact z
    have hl : (putK kvs k v).length ≤ sizeLine := by have := length_putK kvs k v; omega
    refine wpAny_setItem_pairs (hsz := hz) (kV_is ry) dd fun h' dd' hs => h _ ?_
    have he : ∃ q, h'.get? a = some q := let ⟨q, _, _, hq, _⟩ := dd'; ⟨q, hq⟩
    exact d_write I (by rw [e]; exact True.intro) hs he (dk_new hl hd (rel.put k rv) dd')
  · subst ey eH
    cases (show u = Value.ref b from ry)
    obtain ⟨z, hd, xs, rel, dd⟩ := dt_of I.hok e
    have hz : xs.length ≤ sizeLine := by rw [← Paired.length rel]; exact z
    have hl : (putK kvs k v).length ≤ sizeLine := by have := length_putK kvs k v; omega
    refine wpAny_setItem_heap (hsz := hz) (tupleKind_room_in1 hu) (key_of I.hok eb) dd fun h' dd' hs => h _ ?_
    obtain ⟨q, es, ep, hq, h2, h3, h4, _, h5⟩ := dd'
    refine d_write I (by rw [e]; exact True.intro) hs ⟨q, hq⟩ ⟨hl, hd, _, (rel.put k eb rv).keeps fun c ys ec => ?_, q, es, ep, hq, h2, h3, h4, h5⟩
    rw [upd_ne (ne_of ec e (fun z => nomatch z))]
    exact ec
end
section
variable {X : Cx} {pins : List (Addr × Obj)} {σ : St} {H : Hp} {s : Shared} {a : Addr} {kvs : List (Key × V)} {k : Key} {u : Value} {A : Around} {E : Value → Shared → Prop}
end
def NoSl (i : Expr) : Prop := ∀ ov iv, subscripted i false ov iv = operate [ov, iv] (getItem ov iv)
theorem subD_of {prog : Program} {w : World} {A : Around} {E : Value → Shared → Prop} {s : Shared} {env : Env} {value slice : Expr} {pos : Pos} {T id : String} {Q : Value → Shared → Prop}
    (hl : typeLookup (.type T) "__getitem__" = pure (some (.builtin id))) (hs : NoSl slice)
    (h : wpAny (model prog w) A (eval value env) (fun o s₁ => wpAny (model prog w) A (eval slice env) (fun i s₂ => s₂.TypeIs o T ∧ wpAny (model prog w) A (getItem o i) Q E s₂) E s₁) E s) :
    wpAny (model prog w) A (eval (.Subscript value slice pos) env) Q E s := by
  refine Subscript_ (wpAny_mono h (fun o s₁ h₁ => wpAny_mono h₁ (fun i s₂ h₂ => ?_) fun _ _ x => x) fun _ _ x => x)
  obtain ⟨hT, h₂⟩ := h₂
  unfold subscriptTail
  refine wpAny_bind ?_
  rw [getitemInPython_of_ne hT.not_modules]
  refine wpAny_bind (wpAny_specialOf hT hl ?_)
  have fin : wpAny (model prog w) A (subscripted slice false o i) (fun r s₃ => wpAny (model prog w) A (letTemporaryGo value o r >>= fun _ => pure r) Q E s₃) E s₂ := by
    rw [hs o i]
    exact wpAny_operating (wpAny_mono h₂ (fun r s₃ h₃ => wpAny_bind (wpAny_letTemporaryGo (wpAny_pure h₃))) fun _ _ x => x)
  first
    | exact wpAny_pure (wpAny_bind fin)
    | exact wpAny_bind (wpAny_pure (wpAny_bind fin))
    | exact wpAny_bind fin
theorem dict_typeIs {X : Cx} {pins : List (Addr × Obj)} {σ : St} {H : Hp} {s : Shared} {a : Addr} {y : V} {o : Option V} (I : Inv X pins σ H s) (g : DGet H a y o) : s.TypeIs (.ref a) "dict" := by
  rcases g with ⟨kvs, k, e, _, _⟩ | ⟨kvs, k, b, e, _, _, _⟩
  · obtain ⟨_, _, vs, _, dd⟩ := dk_rd I.hok e
    exact dd.typeIs
  · obtain ⟨_, _, xs, _, dd⟩ := dt_rd I.hok e
    exact dd.typeIs
def tDGet (td ty : TE) : TE := fun σ H Q => td σ H fun x H1 => ty σ H1 fun y H2 => ∃ a v, x = .ref a ∧ DGet H2 a y (some v) ∧ Q v H2
def tDIn (ty td : TE) : TE := fun σ H Q => ty σ H fun y H1 => td σ H1 fun x H2 => ∃ a o, x = .ref a ∧ DGet H2 a y o ∧ Q (.bl o.isSome) H2
def tDNotIn (ty td : TE) : TE := fun σ H Q => ty σ H fun y H1 => td σ H1 fun x H2 => ∃ a o, x = .ref a ∧ DGet H2 a y o ∧ Q (.bl (!o.isSome)) H2
def sDPut (td ty tv : TE) : TS := fun D σ H => tv σ H fun v H1 => td σ H1 fun x H2 => ty σ H2 fun y H3 => ∃ a H4, x = .ref a ∧ DPut H3 a y v H4 ∧ D.nx σ H4
section
variable {X : Cx} {o i e value : Expr} {pos pos' tpos : Pos} {td ty tv : TE}
theorem pe_dget (hu : X.A.units + 1 < cLine) (ho : PE X o td) (hi : PE X i ty) (hs : NoSl i) : PE X (.Subscript o i pos) (tDGet td ty) := by
  intro pins s σ H Q I h
  refine subD_of PySem.F.slot_dict_getitem.lookup hs (thn (ho pins s σ H _ I h) fun u s1 ⟨x, H1, I1, rx, q1⟩ => thn (hi pins s1 σ H1 _ I1 q1) fun iv s2 ⟨y, H2, I2, ry, a, v, ex, g, q2⟩ => ?_)
  subst ex
  obtain rfl : u = Value.ref a := rx
  exact ⟨dict_typeIs I2 g, d_getItem hu I2 g ry fun w' s3 I3 rw' => ⟨v, H2, I3, rw', q2⟩⟩
theorem ps_dput (hu : X.A.units + 1 < cLine) (ho : PE X o td) (hi : PE X i ty) (hv : PE X value tv) (hs : swapsWith value (some (.Subscript o i pos')) pos.line X.env = pure false) :
    PS X (.Assign [.Subscript o i pos'] value pos) (sDPut td ty tv) := by
  intro pins s σ H D I h
  refine wpAny_Assign_Subscript (thn (hv pins s σ H _ I h) fun r s1 ⟨v, H1, I1, rv, q1⟩ => thn (ho pins s1 σ H1 _ I1 q1) fun u s2 ⟨x, H2, I2, rx, q2⟩ => thn (hi pins s2 σ H2 _ I2 q2) fun iv s3 ⟨y, H3, I3, ry, a, H4, ex, g, q3⟩ => ?_) hs
  subst ex
  obtain rfl : u = Value.ref a := rx
  exact d_setItem hu I3 g ry rv fun s4 I4 => ⟨σ, H4, I4, q3⟩
end
theorem dk_empty {P : Program} {w : World} {H : Hp} (h : Heap) (hb : sysModules < h.objs.size) : ObjOk P w H (h.push { cls := .type "dict", data := .dict #[] }) h.objs.size (.dK []) :=
  ⟨Nat.zero_le _, beq_eq_false_iff_ne.mpr (Ne.symm (Nat.ne_of_lt hb)), [], .nil, Heap.DictOf.new h⟩
def tDNewK : TE := fun _ H Q => ∀ p, H p = none → Q (.ref p) (upd H p (.dK []))
section
variable {X : Cx} {pos : Pos}
theorem pe_dnewK : PE X (.Dict [] [] pos) tDNewK := fun pins s σ H Q I h =>
  wpAny_Dict_empty ⟨.ref s.heap.objs.size, _, I.laid (a := s.heap.objs.size) (o := .dK []) (t' := s.toks) (fun _ _ q => Heap.get?_push_of_some _ q) (Nat.le_refl _) (dk_empty s.heap I.big), rfl, h _ (I.hok.fresh (Nat.le_refl _))⟩
end
def tPairs : List (TE × TE) → St → Hp → (List (V × V) → Hp → Prop) → Prop
  | [], _, H, Q => Q [] H
  | (tk, tv) :: r, σ, H, Q => tk σ H fun x H1 => tv σ H1 fun y H2 => tPairs r σ H2 fun ps H3 => Q ((x, y) :: ps) H3
def mergeK (kvs more : List (Key × V)) : List (Key × V) := more.foldl (fun acc kv => putK acc kv.1 kv.2) kvs
def tDisp (trs : List (TE × TE)) : TE := fun σ H Q => ∀ p, H p = none → tPairs trs σ (upd H p (.dK [])) fun ps H2 => H2 p = some (.dK []) ∧ ∃ kvs : List (Key × V), ps = kvs.map (fun kv => (kV kv.1, kv.2)) ∧ kvs.length ≤ 15 ∧ Q (.ref p) (upd H2 p (.dK (mergeK [] kvs)))
section
variable {X : Cx} {pins : List (Addr × Obj)} {σ : St} {H : Hp} {s : Shared} {a : Addr} {y d : V} {u r : Value} {o : Option V} {A : Around} {E : Value → Shared → Prop}
end
section
variable {X : Cx} {o e f : Expr} {apos cpos : Pos} {td ty tx : TE}
end
section
variable {X : Cx} {pins : List (Addr × Obj)} {σ : St} {H : Hp} {s : Shared} {a : Addr} {kvs : List (Key × V)} {A : Around} {E : Value → Shared → Prop}
end
section
variable {X : Cx} {pins : List (Addr × Obj)} {σ : St} {H : Hp} {s : Shared} {a : Addr} {y : V} {u : Value} {A : Around} {E : Value → Shared → Prop}
end
end L2
namespace L2
open PySem PySem.Spec PyProof.Rows
section
variable {X : Cx}
end
end L2
namespace L2
open PySem PySem.Spec PyProof.Rows
section
variable {κ : Type} [DecidableEq κ]
end
end L2
set_option Elab.async false
set_option linter.all false
set_option maxRecDepth 100000
set_option maxHeartbeats 1000000
namespace L2
open PySem PySem.Spec PyProof.Rows
section
variable {X : Cx}
inductive TyX (K : PySem.W.Frag) (H : Hp) : V → Value → Prop where
  | of {x : V} {t : Value} (h : TyOf K H x t) : TyX K H x t
  | tupK {a : Addr} {xs : List V} (h : SqT K H a xs) : TyX K H (.ref a) (.type "tuple")
  | lstK {a : Addr} {xs : List V} (h : SqL K H a xs) : TyX K H (.ref a) (.type "list")
def rIsi (K : PySem.W.Frag) : List V → Hp → VK → Prop := fun xs H Q => ∃ x T t b, xs = [x, .ty T] ∧ TyX K H x t ∧ PySem.W.kitOne K t (.type T) = some b ∧ Q (.bl b) H
theorem call_isi : CallR X (.builtin "isinstance") (rIsi X.K) := by
  intro pins s σ H xs us Q I r h
  obtain ⟨x, T, t, b, rfl, ty, e, q⟩ := h
  obtain ⟨u, c, rfl, rx, rc⟩ := vals2 r
  cases (show c = Value.type T from rc)
  cases ty with
  | of h => exact isinst_ok I rx h e fun tk => ⟨.bl b, H, I.tok tk, rfl, q⟩
  | @tupK a xs h =>
    cases (show u = Value.ref a from rx)
    obtain ⟨its, _, ⟨o, h1, h2, _⟩, _⟩ := I.tuple h
    exact PySem.W.kia_one PySem.W.kitx_tuple I.kIn ⟨o, h1, h2⟩ e (fun z => nomatch z) fun tk => ⟨.bl b, H, I.tok tk, rfl, q⟩
  | @lstK a xs h =>
    cases (show u = Value.ref a from rx)
    obtain ⟨its, _, ⟨o, n, h1, h2, _⟩, _⟩ := I.list h
    exact PySem.W.kia_one PySem.W.kitx_list I.kIn ⟨o, h1, h2⟩ e (fun z => nomatch z) fun tk => ⟨.bl b, H, I.tok tk, rfl, q⟩
theorem kit_same (K : PySem.W.Frag) (T : String) : PySem.W.kitOne K (.type T) (.type T) = some true := by
  unfold PySem.W.kitOne
  rw [if_pos (beq_self_eq_true _)]
def rMulS : R2 := fun x y H Q => ∃ z n, x = .str z ∧ y = .int n ∧ z.length ≤ 1000 ∧ -1000 ≤ n ∧ n ≤ 1000 ∧ Q (.str (Txt.mul z n)) H
theorem mulOk_small {z : Str} {n : Int} (h1 : z.length ≤ 1000) (h2 : -1000 ≤ n) (h3 : n ≤ 1000) : MulOk z n := by
  refine ⟨?_, fun h4 h5 => ?_, fun h4 h5 => ?_⟩
  · have a : ¬ n < -(2 ^ 63 : Int) := by omega
    have b : ¬ n ≥ 2 ^ 63 := by omega
    rw [decide_eq_false a, decide_eq_false b]; rfl
  · have : (1000 : Int) ≤ (2 ^ 63 - 1) / n := by
      rw [Int.le_ediv_iff_mul_le (by omega)]
      omega
    omega
  · have : z.length * n.toNat ≤ 1000 * 1000 := Nat.mul_le_mul h1 (by omega)
    unfold Builtin.Str.tooLong
    rw [decide_eq_false]
    have e := sizeLine_eq
    first | omega | (simp at *; omega)
theorem op_mulS : OpR X (binaryOp .Mult) rMulS := by
  intro pins s σ H x y v u Q I rx ry h
  obtain ⟨z, n, rfl, rfl, h1, h2, h3, q⟩ := h
  obtain ⟨t, rfl⟩ := rx
  obtain ⟨t', rfl⟩ := ry
  exact SB.mul (mulOk_small h1 h2 h3) fun t' k => ⟨.str _, H, I.tok k, ⟨_, rfl⟩, q⟩
def rSlS : V → Option Int → Option Int → Hp → VK → Prop := fun x lo hi H Q => ∃ z, x = .str z ∧ z.length ≤ sizeLine ∧ Q (.str (Txt.slice z lo hi)) H
theorem pick_rev (its : List Value) : slicePick its.toArray none none (some (-1)) = its.reverse.toArray := by
  unfold slicePick
  have e : sliceBounds none none (some (-1)) its.toArray.size = ((its.length : Int) - 1, -1, -1) := by
    simp [sliceBounds]
  rw [e]
  have e2 : sliceRange ((its.length : Int) - 1) (-1) (-1) = (List.range its.length).map fun k => its.length - 1 - k := by
    unfold sliceRange
    have c : (if (-1 : Int) > 0 then (if ((its.length : Int) - 1) < -1 then (-1 - ((its.length : Int) - 1) + -1 - 1) / -1 else 0) else (if ((its.length : Int) - 1) > -1 then (((its.length : Int) - 1) - -1 - -1 - 1) / (- -1) else 0)).toNat = its.length := by
      rw [if_neg (by decide)]
      by_cases h : ((its.length : Int) - 1) > -1
      · rw [if_pos h]
        have : (((its.length : Int) - 1) - -1 - -1 - 1) / (- -1) = its.length := by
          have : (- (-1 : Int)) = 1 := rfl
          rw [this, Int.ediv_one]; omega
        rw [this]; simp
      · rw [if_neg h]; simp; omega
    show (List.range (if (-1 : Int) > 0 then (if ((its.length : Int) - 1) < -1 then (-1 - ((its.length : Int) - 1) + -1 - 1) / -1 else 0) else (if ((its.length : Int) - 1) > -1 then (((its.length : Int) - 1) - -1 - -1 - 1) / (- -1) else 0)).toNat).map _ = _
    rw [c]
    apply List.map_congr_left
    intro k hk
    omega
  show ((sliceRange ((its.length : Int) - 1) (-1) (-1)).filterMap (its.toArray[·]?)).toArray = _
  rw [e2, List.filterMap_map]
  congr 1
  apply List.ext_getElem?
  intro i
  have all : (List.range its.length).filterMap ((its.toArray[·]?) ∘ fun k => its.length - 1 - k) = its.reverse := by
    have gen : ∀ (n : Nat) (f : Nat → Option Value) (g : Nat → Value), (∀ k, k < n → f k = some (g k)) → (List.range n).filterMap f = (List.range n).map g := by
      intro n f g hf
      have aux : ∀ l : List Nat, (∀ k ∈ l, f k = some (g k)) → l.filterMap f = l.map g := by
        intro l
        induction l with
        | nil => intro _; rfl
        | cons k l ih =>
          intro h
          rw [List.filterMap_cons, h k (List.mem_cons_self), List.map_cons, ih fun j hj => h j (List.mem_cons_of_mem _ hj)]
      exact aux _ fun k hk => hf k (List.mem_range.mp hk)
    rw [gen its.length _ (fun k => its.reverse.getD k .none) (fun k hk => by
      have h2 : its.length - 1 - k < its.length := by omega
      simp [h2, List.getElem?_reverse, hk])]
    apply List.ext_getElem
    · simp
    · intro k h1 h2
      simp at h1
      simp [List.getElem?_reverse, h1]
  rw [all]
def tRev (K : PySem.W.Frag) (te ts : TE) : TE := fun σ H Q => te σ H fun x H1 => ts σ H1 fun y H2 => ∃ a xs, x = .ref a ∧ y = .int (-1) ∧ SqL K H2 a xs ∧ ∀ p, H2 p = none → Q (.ref p) (upd H2 p (.lst xs.reverse))
theorem pe_rev {e st : Expr} {te ts : TE} {p2 pos : Pos} (he : PE X e te) (hst : PE X st ts) : PE X (.Subscript e (.Slice none none (some st) p2) pos) (tRev X.K te ts) := by
  intro pins s σ H Q I h
  refine Subscript_ (thn (he pins s σ H _ I h) fun v s1 ⟨x, H1, I1, r1, q1⟩ => ?_)
  refine wpAny_Slice ?_
  rw [evalPart_none, evalPart_some]
  refine wpAny_pure (wpAny_pure (thn (hst pins s1 σ H1 _ I1 q1) fun vs s2 ⟨y, H2, I2, r2, q2⟩ => ?_))
  obtain ⟨a, xs, rfl, rfl, hx, q⟩ := q2
  cases r1
  obtain ⟨t, rfl⟩ := r2
  have I4 : Inv X pins σ H2 { s2 with heap := s2.heap.push { cls := .type "slice", data := .fields #[.none, .none, .int (-1) t] } } := I2.kept (t' := s2.toks) fun b ob q => Heap.get?_push_of_some _ q
  obtain ⟨its, r, ht, hz⟩ := I4.list hx
  have hlen := r.length
  show wpAny (model X.prog X.w) X.A (subscriptTail e (.Slice none none (some st) p2) (.ref a) (.ref s2.heap.objs.size)) (EP X pins σ Q) X.xe { s2 with heap := s2.heap.push { cls := .type "slice", data := .fields #[.none, .none, .int (-1) t] } }
  refine tail_any (ops := [.ref a, .ref s2.heap.objs.size]) ht.isList.typeIs slot_list_getitem.lookup ?_ (by with_unfolding_all rfl)
  refine wpAny_getItem_list_slice ht.isList (Heap.IsSliceOf.new ..) .none .none (.int _ _) (by simp) ?_ (by rw [List.size_toArray] <;> omega)
  rw [pick_rev]
  refine ⟨.ref _, _, I4.laid (t' := s2.toks) (o := .lst xs.reverse) (fun b ob q => Heap.get?_push_of_some _ q) (Nat.le_refl _) ?_, rfl, q _ (I4.hok.fresh (Nat.le_refl _))⟩
  exact ⟨by rw [List.length_reverse]; exact hz, _, 0, r.reverse, Heap.get?_push_size _ rfl⟩
theorem strsAre_of : ∀ {ys : List Str} {us : List Value}, Vals (ys.map V.str) us → StrsAre us ys
  | [], _, r => by cases r; exact .nil
  | y :: ys, _, r => by
    cases r with
    | cons h t =>
      obtain ⟨tk, rfl⟩ := h
      exact .cons _ _ (strsAre_of t)
def rJoin (K : PySem.W.Frag) : V → List V → Hp → VK → Prop := fun x vs H Q => ∃ sep l ys, x = .str sep ∧ vs = [.ref l] ∧ SqL K H l (ys.map V.str) ∧ (ys.map (·.length)).sum + ys.length * sep.length ≤ 16777216 ∧ Q (.str (Txt.join sep ys)) H
abbrev TF := Str → St → Hp → VK → Prop
def tF0 : TF := fun out _ H Q => out.length ≤ sizeLine ∧ Q (.str out) H
def tFc (x : Str) (t : TF) : TF := fun out σ H Q => (out ++ x).length ≤ sizeLine ∧ t (out ++ x) σ H Q
def tFv (te : TE) (t : TF) : TF := fun out σ H Q => te σ H fun v H1 => ∃ y, v = .str y ∧ y.length ≤ sizeLine ∧ (out ++ y).length ≤ sizeLine ∧ t (out ++ y) σ H1 Q
def tFs (t : TF) : TE := fun σ H Q => t Str.empty σ H Q
end
end L2
set_option Elab.async false
set_option linter.all false
set_option maxRecDepth 100000
set_option maxHeartbeats 1000000
namespace L2
open PySem PySem.Spec PyProof.Rows
mutual
def Dn (K : PySem.W.Frag) (H : Hp) : V → PyData → Prop
  | v, .none => v = .non
  | v, .bool b => v = .bl b
  | v, .int i => v = .int i
  | v, .str x => v = .str x
  | v, .list ds => ∃ a xs, v = .ref a ∧ SqL K H a xs ∧ DnAll K H xs ds
  | v, .tuple ds => ∃ a xs, v = .ref a ∧ SqT K H a xs ∧ DnAll K H xs ds
  | _, .dict _ => False
def DnAll (K : PySem.W.Frag) (H : Hp) : List V → List PyData → Prop
  | xs, [] => xs = []
  | xs, d :: ds => ∃ x r, xs = x :: r ∧ Dn K H x d ∧ DnAll K H r ds
end
theorem DnAll.length {K : PySem.W.Frag} {H : Hp} : ∀ {xs : List V} {ds : List PyData}, DnAll K H xs ds → xs.length = ds.length
  | xs, [], h => by rw [DnAll] at h; rw [h]; rfl
  | xs, d :: ds, h => by
    rw [DnAll] at h
    obtain ⟨x, r, rfl, _, h⟩ := h
    simp [DnAll.length h]
def KeepT (K : PySem.W.Frag) (H H' : Hp) : Prop := ∀ a xs, SqT K H a xs → SqT K H' a xs
mutual
def noList : PyData → Bool
  | .list _ => false
  | .tuple ds => noLists ds
  | .dict _ => false
  | _ => true
def noLists : List PyData → Bool
  | [] => true
  | d :: ds => noList d && noLists ds
end
mutual
theorem Dn.keepT {K : PySem.W.Frag} {H H' : Hp} (k : KeepT K H H') : ∀ {d : PyData} {v : V}, noList d = true → Dn K H v d → Dn K H' v d
  | .none, v, _, h => by rw [Dn] at h ⊢; exact h
  | .bool _, v, _, h => by rw [Dn] at h ⊢; exact h
  | .int _, v, _, h => by rw [Dn] at h ⊢; exact h
  | .str _, v, _, h => by rw [Dn] at h ⊢; exact h
  | .list _, v, n, h => by rw [noList] at n; cases n
  | .dict _, v, n, h => by rw [noList] at n; cases n
  | .tuple ds, v, n, h => by
    rw [Dn] at h ⊢
    rw [noList] at n
    obtain ⟨a, xs, e, hs, hd⟩ := h
    exact ⟨a, xs, e, k a xs hs, DnAll.keepT k n hd⟩
theorem DnAll.keepT {K : PySem.W.Frag} {H H' : Hp} (k : KeepT K H H') : ∀ {ds : List PyData} {xs : List V}, noLists ds = true → DnAll K H xs ds → DnAll K H' xs ds
  | [], xs, _, h => by rw [DnAll] at h ⊢; exact h
  | d :: ds, xs, n, h => by
    rw [DnAll] at h ⊢
    rw [noLists, Bool.and_eq_true] at n
    obtain ⟨x, r, e, h1, h2⟩ := h
    exact ⟨x, r, e, Dn.keepT k n.1 h1, DnAll.keepT k n.2 h2⟩
end
mutual
theorem Dn.keep {K : PySem.W.Frag} {H H' : Hp} (k : KeepT K H H') (kl : ∀ a xs, SqL K H a xs → SqL K H' a xs) : ∀ {d : PyData} {v : V}, Dn K H v d → Dn K H' v d
  | .none, v, h => by rw [Dn] at h ⊢; exact h
  | .bool _, v, h => by rw [Dn] at h ⊢; exact h
  | .int _, v, h => by rw [Dn] at h ⊢; exact h
  | .str _, v, h => by rw [Dn] at h ⊢; exact h
  | .list ds, v, h => by
    rw [Dn] at h ⊢
    obtain ⟨a, xs, e, hs, hd⟩ := h
    exact ⟨a, xs, e, kl a xs hs, DnAll.keep k kl hd⟩
  | .dict _, v, h => by rw [Dn] at h; exact h.elim
  | .tuple ds, v, h => by
    rw [Dn] at h ⊢
    obtain ⟨a, xs, e, hs, hd⟩ := h
    exact ⟨a, xs, e, k a xs hs, DnAll.keep k kl hd⟩
theorem DnAll.keep {K : PySem.W.Frag} {H H' : Hp} (k : KeepT K H H') (kl : ∀ a xs, SqL K H a xs → SqL K H' a xs) : ∀ {ds : List PyData} {xs : List V}, DnAll K H xs ds → DnAll K H' xs ds
  | [], xs, h => by rw [DnAll] at h ⊢; exact h
  | d :: ds, xs, h => by
    rw [DnAll] at h ⊢
    obtain ⟨x, r, e, h1, h2⟩ := h
    exact ⟨x, r, e, Dn.keep k kl h1, DnAll.keep k kl h2⟩
end
section
variable {X : Cx} {pins : List (Addr × Obj)} {σ : St} {H : Hp} {s : Shared}
mutual
theorem Dn.reads (I : Inv X pins σ H s) : ∀ {d : PyData} {v : V} {u : Value}, Dn X.K H v d → RelV v u → ∃ as, Reads s.heap u d as
  | .none, v, u, h, r => by rw [Dn] at h; subst h; cases (show u = Value.none from r); exact ⟨_, .none⟩
  | .bool b, v, u, h, r => by rw [Dn] at h; subst h; cases (show u = Value.bool b from r); exact ⟨_, .bool b⟩
  | .int i, v, u, h, r => by rw [Dn] at h; subst h; obtain ⟨t, rfl⟩ := r; exact ⟨_, .int i t⟩
  | .str x, v, u, h, r => by rw [Dn] at h; subst h; obtain ⟨t, rfl⟩ := r; exact ⟨_, .str x t⟩
  | .dict _, v, u, h, r => by rw [Dn] at h; exact h.elim
  | .list ds, v, u, h, r => by
    rw [Dn] at h
    obtain ⟨a, xs, rfl, hs, hd⟩ := h
    cases (show u = Value.ref a from r)
    obtain ⟨its, rv, ⟨o, n, h1, h2, _, h3⟩, _⟩ := I.list hs
    obtain ⟨as, q⟩ := DnAll.reads I hd rv
    exact ⟨_, .list h1 h2 h3 (by simpa using q)⟩
  | .tuple ds, v, u, h, r => by
    rw [Dn] at h
    obtain ⟨a, xs, rfl, hs, hd⟩ := h
    cases (show u = Value.ref a from r)
    obtain ⟨its, rv, ⟨o, h1, h2, n, h3⟩, _⟩ := I.tuple hs
    obtain ⟨as, q⟩ := DnAll.reads I hd rv
    exact ⟨_, .tuple h1 h2 h3 (by simpa using q)⟩
theorem DnAll.reads (I : Inv X pins σ H s) : ∀ {ds : List PyData} {xs : List V} {us : List Value}, DnAll X.K H xs ds → Vals xs us → ∃ as, ReadsAll s.heap us ds as
  | [], xs, us, h, r => by rw [DnAll] at h; subst h; cases r; exact ⟨_, .nil⟩
  | d :: ds, xs, us, h, r => by
    rw [DnAll] at h
    obtain ⟨x, r', rfl, h1, h2⟩ := h
    cases r with
    | cons r1 r2 =>
      obtain ⟨as, q1⟩ := Dn.reads I h1 r1
      obtain ⟨bs, q2⟩ := DnAll.reads I h2 r2
      exact ⟨_, .cons q1 q2⟩
end
end
section
variable {X : Cx}
def rEqD (K : PySem.W.Frag) (neg : Bool) : R2 := fun x y H Q => ∃ d e, Dn K H x d ∧ Dn K H y e ∧ d.canLay0 = true ∧ e.canLay0 = true ∧ min d.depth e.depth ≤ 150 ∧ Q (.bl (if neg then !PyData.eqv d e else PyData.eqv d e)) H
theorem op_neD (hu : X.A.units + 150 < cLine) : OpR X (compareOp .NotEq) (rEqD X.K true) := by
  intro pins s σ H x y v u Q I rx ry h
  obtain ⟨d, e, h1, h2, l1, l2, hz, q⟩ := h
  obtain ⟨as, r1⟩ := h1.reads I rx
  obtain ⟨bs, r2⟩ := h2.reads I ry
  exact PySem.W.cmp_ofNotEq (SeqAt.rcNeAt_reads r1 r2 l1 l2 (by omega) _ _ _ _ ⟨.bl _, H, I, rfl, q⟩)
end
theorem hu_150 {A : Around} {k : Nat} (hr : Room k A) : A.units + 150 < cLine := by have := hr.un; omega
end L2
set_option Elab.async false
set_option linter.all false
set_option maxRecDepth 100000
set_option maxHeartbeats 2000000
namespace L2
open PySem PySem.Spec PyProof.Rows
def blk (X : Cx) (N' : List Str) (scope : Scope) (cl : List (Str × Addr)) (s : Shared) (H : Hp) (C : Addr) (ex : List Addr) : Cx where
  prog := X.prog
  w := X.w
  K := X.K
  mg := X.mg
  base := X.base
  A := X.A
  N := N'
  s₀ := s
  H₀ := H
  env := compEnvC scope cl C X.env
  outer := X.stack
  stack := X.stack
  ex := ex
  fn := fun _ => false
  calm := X.calm
  pn := []
  xe := fun _ _ => False
structure BlkOk (X : Cx) (scope : Scope) (cl : List (Str × Addr)) (N' : List Str) (nt : Nat) (ci : List Nat) : Prop where
  clos : closureFor scope X.env = pure cl
  cell : ∀ y ∈ scope.names, y.2 ≠ .cell
  kind : scope.kind = .function
  names : ∀ y ∈ scope.names, y.2 = .local → scope.names.lookup y.1 = some .local
  sub : ∀ x c, cl.lookup x = some c → X.env.cells.lookup x = some c
  has : ∀ x, ((relabel scope X.env).names.lookup x = some .cell ∨ (relabel scope X.env).names.lookup x = some .free) → ∃ c, cl.lookup x = some c
  len : N'.length = nt + ci.length
  cap : ∀ (j i : Nat), ci[j]? = some i → ∃ x, N'[nt + j]? = some x ∧ X.N[i]? = some x ∧ X.env.scope.names.lookup x = some .cell ∧ ((relabel scope X.env).names.lookup x = some .cell ∨ (relabel scope X.env).names.lookup x = some .free)
def capt (nt : Nat) (ci : List Nat) (σ : St) : St := List.replicate nt none ++ ci.map fun i => (σ[i]?).join
section
variable {X : Cx} {scope : Scope} {cl : List (Str × Addr)} {N' : List Str} {nt : Nat} {ci : List Nat} {pins : List (Addr × Obj)} {σ : St} {H : Hp} {s : Shared}
theorem blk_start (B : BlkOk X scope cl N' nt ci) (I : Inv X pins σ H s) {fp : List Addr} (hf : ∀ b ∈ fp, FpOk X pins H b) (ho : ∀ b ∈ fp, ∃ o, s.heap.get? b = some o) {C acc : Addr} {h1 : Heap} {tk : Nat}
    (hacc : acc = s.heap.objs.size) (hC : C = s.heap.objs.size + 1) (k : ∀ b u, s.heap.get? b = some u → h1.get? b = some u) (ns : h1.Ns C fun _ => none) (ha : h1.get? acc = some { cls := .type "list", data := .seq #[] }) :
    Inv (blk X N' scope cl s H C fp) [] (capt nt ci σ) (upd H acc (.lst [])) { s with heap := h1, toks := tk } := by
  have hn : H acc = none := I.hok.fresh (by rw [hacc]; exact Nat.le_refl _)
  have hnC : H C = none := I.hok.fresh (by rw [hC]; exact Nat.le_succ _)
  have cellLt : ∀ x c, cl.lookup x = some c → c < s.heap.objs.size := fun x c e => by
    obtain ⟨v, q⟩ := I.cell x c (B.sub x c e)
    exact q.lt
  refine ⟨⟨I.ok.mod, B.kind, I.ok.glob, I.ok.blt, ?_, fun x y c e1 e2 => I.ok.inj x y c (B.sub _ _ e1) (B.sub _ _ e2), fun x hx => B.has x hx, fun x c (z : false = true) => Bool.noConfusion z, fun hc => I.ok.hd hc, I.ok.frames, .inl rfl, fun b hb => ?_, I.bs, ?_, fun b o e hb => ?_, fun b hb => ?_, I.stack, fun b hb => I.stkFree b hb⟩,
    rfl, I.bare, Un.laid (a := acc) (o := .lst []) k (by rw [hacc]; exact Nat.le_refl _) hn, ⟨_, ns, fun i x v e1 e2 e3 => ?_⟩, fun x c e => ?_, ?_, fun x c e => ?_, fun p hp => absurd (show p ∈ ([] : List (Addr × Obj)) from hp) (by simp), I.hok.laid k (by rw [hacc]; exact Nat.le_refl _) ⟨Nat.zero_le _, [], 0, .nil, ha⟩, ?_⟩
  · show s.heap.objs.size ≤ C
    rw [hC]; exact Nat.le_succ _
  · obtain ⟨f0, f1, f2, f3, f4, f5⟩ := hf b hb
    obtain ⟨o, e⟩ := ho b hb
    refine ⟨?_, fun x c e' => f4 x c (B.sub x c e')⟩
    show b ≠ C
    rw [hC]
    exact Nat.ne_of_lt (Nat.lt_succ_of_lt (Heap.lt_size e))
  · exact Nat.le_trans I.ok.bsz I.sz
  · obtain ⟨f0, f1, f2, f3, f4, f5⟩ := hf b hb
    rcases f3 with z | z
    · exact I.ok.noex b o e z
    · exact absurd (Nat.lt_of_lt_of_le (Heap.lt_size e) (Nat.le_trans I.ok.bsz z)) (Nat.lt_irrefl _)
  · intro z
    obtain ⟨f0, f1, f2, f3, f4, f5⟩ := hf b hb
    rcases List.mem_cons.mp (I.stkSub b z) with y | y
    · exact f1 y
    · exact f2 y
  · -- the names
    obtain ⟨m, hm, hl⟩ := I.loc
    unfold capt at e2
    by_cases hi : i < nt
    · rw [List.getElem?_append_left (by simpa using hi), List.getElem?_replicate] at e2
      split at e2 <;> cases e2
    · rw [List.getElem?_append_right (by simpa using hi), List.length_replicate, List.getElem?_map] at e2
      cases q : ci[i - nt]? with
      | none => rw [q] at e2; cases e2
      | some j =>
        rw [q] at e2
        have e2' : (σ[j]?).join = some v := Option.some.inj e2
        obtain ⟨y, a1, a2, a3, a4⟩ := B.cap _ j q
        have ei : nt + (i - nt) = i := by omega
        rw [ei, show N'[i]? = some x from e1] at a1
        cases a1
        have e2'' : σ[j]? = some (some v) := by
          cases z : σ[j]? with
          | none => rw [z] at e2'; cases e2'
          | some w => rw [z] at e2'; exact congrArg some e2'
        obtain ⟨u, r, l⟩ := hl j x v a2 e2'' (.inr (.inl a3))
        refine ⟨u, r, .inr ⟨a4, ?_⟩⟩
        rcases l with ⟨kk, _⟩ | ⟨_, c, c1, c2⟩
        · have kk' : X.env.scope.names.lookup x = some .local := kk
          rw [a3] at kk'; cases kk'
        · obtain ⟨c', ec⟩ := B.has x a4
          have := B.sub x c' ec
          rw [c1] at this; cases this
          exact ⟨c, ec, let ⟨o, e, d⟩ := c2; ⟨o, k _ _ e, d⟩⟩
  · obtain ⟨v, q⟩ := I.cell x c (B.sub x c e)
    exact ⟨v, let ⟨o, e, d⟩ := q; ⟨o, k _ _ e, d⟩⟩
  · show upd H acc (.lst []) C = none
    rw [upd_ne (by rw [hacc, hC]; exact Nat.succ_ne_self _)]; exact hnC
  · have lt := cellLt x c e
    rw [upd_ne (by rw [hacc]; exact Nat.ne_of_lt lt)]
    exact I.freeC x c (B.sub x c e)
  · show (capt nt ci σ).length = N'.length
    unfold capt
    rw [List.length_append, List.length_replicate, List.length_map, B.len]
def Wk (σ σ' : St) : Prop := σ'.length = σ.length ∧ ∀ (i : Nat) v, σ[i]? = some (some v) → σ'[i]? = some (some v)
theorem wk_set {σ : St} {i : Nat} {x : V} (h : σ[i]? = some none) : Wk σ (σ.set i (some x)) := by
  refine ⟨by simp, fun j v e => ?_⟩
  by_cases hj : j = i
  · subst hj; rw [h] at e; cases e
  · rw [List.getElem?_set_ne (Ne.symm hj)]; exact e
theorem wk_head {x : V} {r : St} : Wk (none :: r) (some x :: r) := wk_set (σ := none :: r) (i := 0) rfl
theorem Wk.trans {σ1 σ2 σ3 : St} (a : Wk σ1 σ2) (b : Wk σ2 σ3) : Wk σ1 σ3 := ⟨b.1.trans a.1, fun i v e => b.2 i v (a.2 i v e)⟩
theorem Wk.refl (σ : St) : Wk σ σ := ⟨rfl, fun _ _ e => e⟩
def lcW (K : PySem.W.Frag) (σ0 : St) (J : It) (acc : Addr) (g : TG) (te : TE) (Q : VK) (W : Nat → Nat → List V → Hp → Prop) : Prop :=
  ∀ i m ys H2, W i m ys H2 → H2 acc = some (.lst ys) ∧ ys.length < sizeLine ∧ ((J.stop i H2 ∧ Q (.ref acc) H2) ∨
    (J.go i H2 ∧ ∀ x H3, J.yld i H2 x H3 → g x σ0 H3 fun σ4 H4 => Wk σ0 σ4 ∧ te σ4 H4 fun y H5 => H5 acc = some (.lst ys) ∧ ∃ m', m' < m ∧ W (i + 1) m' (ys ++ [y]) (upd H5 acc (.lst (ys ++ [y])))))
def tLC (K : PySem.W.Frag) (nt : Nat) (ci : List Nat) (wi : TI) (g : TG) (te : TE) : TE := fun σ H Q => wi σ H fun J H1 => ∀ acc, H1 acc = none → ∃ W : Nat → Nat → List V → Hp → Prop, (∃ m, W 0 m [] (upd H1 acc (.lst []))) ∧ lcW K (capt nt ci σ) J acc g te Q W
theorem compTurn_one (elt target iter : Expr) (scope : Scope) (pos : Pos) (it acc : Value) (env : Env) :
    compTurn (.ListComp elt [⟨target, iter, [], 0⟩] scope pos) 0 it acc env = (standAt iter.pos >>= fun _ => pyNext it >>= fun r => match r with
      | none => pure (.done .next)
      | some v => letOwnedTupleGo target it v >>= fun _ => assign target env v >>= fun _ =>
        (eval elt env >>= fun x => call (.builtin "list.append") [acc, x] >>= fun _ => pure ()) >>= fun _ =>
          again (.compLoop (.ListComp elt [⟨target, iter, [], 0⟩] scope pos) 0 it acc env)) := by rfl
theorem noE {M : Model} {A : Around} {env : Env} {E : Value → Shared → Prop} : ∀ e s, (fun (_ : Value) (_ : Shared) => False) e s → notedBy M A env E e s := fun _ _ z => z.elim
theorem lc_loop {tg elt iter : Expr} {pos : Pos} {g : TG} {te : TE} {it acc C : Addr} {fp : List Addr} {tn : Nat → Heap → Prop} {J : It} {Q : VK} {s0 : Shared} {H0 : Hp} {σ0 : St} {R : Result → Shared → Prop} {s : Shared} {i0 m0 : Nat} {ys0 : List V} {H1 : Hp} {W : Nat → Nat → List V → Hp → Prop}
    (hc : X.calm = true) (hg : PG (blk X N' scope cl s0 H0 C fp) tg g) (he : PE (blk X N' scope cl s0 H0 C fp) elt te) (T : Turn X.prog X.w X.K tg J fp it tn)
    (hfp : ∀ (H' : Hp), (∀ b ∈ fp, H' b = none) → ∀ b ∈ fp, FpOk (blk X N' scope cl s0 H0 C fp) [] H' b) (hW : lcW X.K σ0 J acc g te Q W)
    (hR : ∀ s' H', Inv (blk X N' scope cl s0 H0 C fp) [] σ0 H' s' → Q (.ref acc) H' → R (.ok .next) s')
    (I : Inv (blk X N' scope cl s0 H0 C fp) [] σ0 H1 s) (hst : tn i0 s.heap) (hfr : ∀ b ∈ fp, H1 b = none) (w : W i0 m0 ys0 H1) :
    codeAny (model X.prog X.w) X.A (.compLoop (.ListComp elt [⟨tg, iter, [], 0⟩] scope pos) 0 (.ref it) (.ref acc) (compEnvC scope cl C X.env)) R s := by
  refine codeAny_loop rfl (fun n s => ∃ i ys H2, Inv (blk X N' scope cl s0 H0 C fp) [] σ0 H2 s ∧ tn i s.heap ∧ (∀ b ∈ fp, H2 b = none) ∧ W i n ys H2) (fun n s hI => ?_) m0 ⟨i0, ys0, H1, I, hst, hfr, w⟩
  obtain ⟨i, ys, H2, I2, st2, fr2, w2⟩ := hI
  show wpAny _ _ ((compTurn (.ListComp elt [⟨tg, iter, [], 0⟩] scope pos) 0 (.ref it) (.ref acc) (compEnvC scope cl C X.env)).onRaise (fun x => do noteFrame x (compEnvC scope cl C X.env); theTreesLotGoes x)) _ _ s
  refine wpAny_noted ?_
  rw [compTurn_one]
  refine wpAny_bind (wpAny_standAt (wpAny_bind ?_))
  obtain ⟨hacc, hlen, hcase⟩ := hW i n ys H2 w2
  rcases hcase with ⟨stop, q⟩ | ⟨go, step⟩
  · refine thn (T.done (blk X N' scope cl s0 H0 C fp) rfl rfl rfl hc i [] s σ0 H2 _ I2 (hfp H2 fr2) st2 stop) fun r s1 ⟨hr, I3⟩ => ?_
    subst hr
    exact wpAny_pure (hR s1 H2 I3 q)
  · refine thn (T.item (blk X N' scope cl s0 H0 C fp) rfl rfl rfl hc i [] s σ0 H2 _ I2 (hfp H2 fr2) st2 go) fun r s1 ⟨u, hr, h4⟩ => ?_
    subst hr
    refine wpAny_bind (thn h4 fun _ s5 ⟨x, H5, I5, r5, y5, st5, fr5⟩ => ?_)
    have I5' := I5.pinned (hfp H5 fr5) (T.obj _ _ st5)
    refine wpAny_bind (wpAny_mono (hg _ s5 σ0 H5 x u _ I5' r5 (step x H5 y5)) (fun _ s6 ⟨σ6, H6, I6, hw6, q6⟩ => ?_) noE)
    refine wpAny_bind (wpAny_bind (wpAny_mono (he _ s6 σ6 H6 _ I6 q6) (fun v s7 ⟨y, H7, I7, r7, ha7, m', hm', w7⟩ => ?_) noE))
    refine wpAny_bind (wpAny_mono (mt_append (X := blk X N' scope cl s0 H0 C fp) _ s7 σ6 H7 (.ref acc) [y] (.ref acc) [v] (fun _ H8 => H8 = upd H7 acc (.lst (ys ++ [y]))) I7 rfl (.cons r7 .nil) ⟨acc, ys, y, rfl, rfl, ha7, hlen, rfl⟩) (fun _ s8 ⟨_, H8, I8, _, e8⟩ => ?_) noE)
    subst e8
    refine wpAny_pure (wpAny_pure ⟨rfl, m', hm', i + 1, ys ++ [y], _, ?_, ?_, fun b hb => ?_, w7⟩)
    · exact I8.unpinned.weak hw6.1.symm hw6.2
    · exact T.keep _ _ _ st5 fun b hb o e => (I8.pin (b, o) (List.mem_append_right _ (List.mem_append_right _ (mem_pinsAt hb e)))).1
    · obtain ⟨o, e, d⟩ := T.obj _ _ st5 b hb
      exact (I8.pin (b, o) (List.mem_append_right _ (List.mem_append_right _ (mem_pinsAt hb e)))).2.1
theorem lc_core {tg elt iter : Expr} {pos pos' : Pos} {wi : TI} {g : TG} {te : TE} {use : Option (Value → Sem Unit)} {Q : VK} {Qf : Value → Shared → Prop} (B : BlkOk X scope cl N' nt ci) (hc : X.calm = true) (hi : PI X tg iter wi)
    (hg : ∀ s H C ex, PG (blk X N' scope cl s H C ex) tg g) (he : ∀ s H C ex, PE (blk X N' scope cl s H C ex) elt te) (hs : ∀ x, foldedSetIterable iter X.env x = pure x) (I : Inv X pins σ H s) (h : tLC X.K nt ci wi g te σ H Q)
    (fin : ∀ (acc C : Addr) (s' : Shared) (H' : Hp), Inv X pins σ H' s' → Q (.ref acc) H' → (∃ m, s'.heap.Ns C m) → FpOk X pins H' C → (∃ o, s'.heap.get? C = some o ∧ ∀ v, o.data ≠ .cell v) → compPost (model X.prog X.w) X.A X.xe use Qf (.ref acc) C (.ok .next) s') :
    wpAny (model X.prog X.w) X.A (comprehension (.ListComp elt [⟨tg, iter, [], 0⟩] scope pos) scope X.env pos' (newList []) false (eval iter X.env) use) Qf X.xe s := by
  refine wpAny_comprehension_free (use := use) rfl hs B.clos B.kind B.names (thn (hi pins s σ H _ I h) fun v s1 h1 => thn h1 fun itv s2 h2 => ?_)
  obtain ⟨it, fp, tn, J, H2, e, I2, T, st2, f2, q2⟩ := h2
  subst e
  have hacc : H2 s2.heap.objs.size = none := I2.hok.fresh (Nat.le_refl _)
  obtain ⟨W, ⟨m0, w0⟩, hW⟩ := q2 s2.heap.objs.size hacc
  refine wpAny_newObj_type (wpAny_newFunctionEnv B.cell (by intro y hy; simp at hy) (fun h₁ hns₁ hsb₁ => ?_) B.kind)
  dsimp only at hns₁ hsb₁ ⊢
  have hCs : (s2.heap.push { cls := .type "list", dict := none, data := .seq ([] : List Value).toArray }).objs.size = s2.heap.objs.size + 1 := Heap.size_push ..
  have k1 : ∀ b u, s2.heap.get? b = some u → h₁.get? b = some u := fun b u e => hsb₁.extBut b u (by rw [hCs]; exact Nat.ne_of_lt (Nat.lt_succ_of_lt (Heap.lt_size e))) (Heap.get?_push_of_some _ (Heap.get?_push_of_some _ e))
  have a1 : h₁.get? s2.heap.objs.size = some { cls := .type "list", data := .seq #[] } := hsb₁.extBut _ _ (by rw [hCs]; exact Nat.ne_of_lt (Nat.lt_succ_self _)) (Heap.get?_push_of_some _ (Heap.get?_push_size _ rfl))
  rw [hCs] at hns₁ ⊢
  have I3 := blk_start (tk := s2.toks + ([] : List (Str × Value)).length) B I2 f2 (fun b hb => let ⟨o, e, _⟩ := T.obj _ _ st2 b hb; ⟨o, e⟩) rfl rfl k1 (by simpa using hns₁) a1
  have hfpB : ∀ (H' : Hp), (∀ b ∈ fp, H' b = none) → ∀ b ∈ fp, FpOk (blk X N' scope cl s2 H2 (s2.heap.objs.size + 1) fp) [] H' b := fun H' hn b hb => by
    obtain ⟨f0, f1, f3, f4, f5, f6⟩ := f2 b hb
    obtain ⟨o, e, _⟩ := T.obj _ _ st2 b hb
    refine ⟨hn b hb, ?_, fun z => ?_, .inl hb, fun x c e' => f5 x c (B.sub x c e'), fun p hp => absurd (show p ∈ ([] : List (Addr × Obj)) from hp) (by simp)⟩
    · exact Nat.ne_of_lt (Nat.lt_succ_of_lt (Heap.lt_size e))
    · rcases List.mem_cons.mp (I2.stkSub b z) with y | y
      · exact f1 y
      · exact f3 y
  have hfr3 : ∀ b ∈ fp, upd H2 s2.heap.objs.size (.lst []) b = none := fun b hb => by
    obtain ⟨o, e, _⟩ := T.obj _ _ st2 b hb
    rw [upd_ne (Nat.ne_of_lt (Heap.lt_size e))]; exact (f2 b hb).1
  have st3 : tn 0 h₁ := T.keep _ _ _ st2 fun b _ o e => k1 b o e
  have loop : codeAny (model X.prog X.w) X.A (.compLoop (.ListComp elt [⟨tg, iter, [], 0⟩] scope pos) 0 (.ref it) (.ref s2.heap.objs.size) (compEnvC scope cl (s2.heap.objs.size + 1) X.env))
      (compPost (model X.prog X.w) X.A X.xe use Qf (.ref s2.heap.objs.size) (s2.heap.objs.size + 1)) { s2 with heap := h₁, toks := s2.toks + ([] : List (Str × Value)).length } := by
    refine lc_loop (Q := Q) hc (hg _ _ _ _) (he _ _ _ _) T hfpB hW (fun s' H' I' q => ?_) I3 st3 hfr3 w0
    have un := I'.base
    have ns := I'.loc
    have fC : H' (s2.heap.objs.size + 1) = none := I'.free
    have I4 : Inv X pins σ H' s' := I2.call' I'.os un I'.hok I'.bare fun b hb => by
      obtain ⟨f0, f1, f3, f4, f5, f6⟩ := f2 b hb
      exact ⟨f4, f1, f5, f6⟩
    obtain ⟨m, hm, _⟩ := ns
    have hm' : s'.heap.Ns (s2.heap.objs.size + 1) m := hm
    refine fin _ _ s' H' I4 q ⟨m, hm'⟩ (I2.fpOk (Nat.le_succ _) fC) ?_
    obtain ⟨o, es, ep, e, d, _⟩ := hm'
    exact ⟨o, e, fun v z => by rw [d] at z; cases z⟩
  exact codeAny_compStart_list loop (T.self _ _ _ _ _ st3 loop)
theorem pe_lc {tg elt iter : Expr} {pos : Pos} {wi : TI} {g : TG} {te : TE} (B : X.Ok → BlkOk X scope cl N' nt ci) (hc : X.calm = true) (hi : PI X tg iter wi)
    (hg : ∀ s H C ex, PG (blk X N' scope cl s H C ex) tg g) (he : ∀ s H C ex, PE (blk X N' scope cl s H C ex) elt te) (hs : ∀ x, foldedSetIterable iter X.env x = pure x := by intro _; rfl) :
    PE X (.ListComp elt [⟨tg, iter, [], 0⟩] scope pos) (tLC X.K nt ci wi g te) := by
  intro pins s σ H Q I h
  rw [eval_ListComp]
  refine lc_core (B I.ok) hc hi hg he hs I h fun acc C s' H' I' q hm hf ho => ?_
  obtain ⟨m, hm⟩ := hm
  obtain ⟨f0, f1, f2, f3, f4, f5⟩ := hf
  exact ⟨m, hm, fun h' sb => ⟨.ref acc, H', I'.turned (t' := s'.toks) (fun b o hb e => (sb.2 b hb).trans e) f0 f1 f3 f4 f5, rfl, q⟩⟩
theorem ps_setLC {i : Nat} {x : Str} {tg elt iter : Expr} {pos spos pos' : Pos} {wi : TI} {g : TG} {te : TE} (hN : X.N.Nodup) (hi : X.N[i]? = some x) (hx : Loc X.env.scope x) (B : X.Ok → BlkOk X scope cl N' nt ci) (hc : X.calm = true) (hit : PI X tg iter wi)
    (hg : ∀ s H C ex, PG (blk X N' scope cl s H C ex) tg g) (he : ∀ s H C ex, PE (blk X N' scope cl s H C ex) elt te) (hsw : swapsWith (.ListComp elt [⟨tg, iter, [], 0⟩] scope pos) (some (.Name x pos')) spos.line X.env = pure true)
    (hs : ∀ x, foldedSetIterable iter X.env x = pure x := by intro _; rfl) (hf : X.fn x = true ∨ X.env.scope.names.lookup x = some .local := by first | exact .inl rfl | exact .inr rfl | assumption) :
    PS X (.Assign [.Name x pos'] (.ListComp elt [⟨tg, iter, [], 0⟩] scope pos) spos) (tAsg (tLC X.K nt ci wi g te) (gName i)) := by
  intro pins s σ H D I h
  rw [exec_Assign_Name_used _ _ _ _ hsw]
  refine wpAny_bind (wpAny_standAt (wpAny_bind ?_))
  rw [arm_evalThenUse_ListComp]
  refine wpAny_bind (lc_core (B I.ok) hc hit hg he hs I h fun acc C s' H' I' q hm hfC ho => ?_)
  obtain ⟨f0, f1, f2, f3, f4, f5⟩ := hfC
  obtain ⟨m, hm⟩ := hm
  obtain ⟨o, e, d⟩ := ho
  have Ip : Inv X (pins ++ [(C, o)]) σ H' s' := I'.pins_of fun p hp => (List.mem_append.mp hp).elim (fun z => I'.pin p (List.mem_append_right _ z)) fun z => by
    have e' : p = (C, o) := by simpa using z
    subst e'
    exact ⟨e, f0, f1, f2, d⟩
  refine wpAny_assign_Name (store_ok Ip hN hi hx (show RelV (.ref acc) (Value.ref acc) from rfl) (fun s2 I2 => ?_) hf)
  have e2 := (I2.pin (C, o) (List.mem_append_right _ (List.mem_append_right _ (by simp)))).1
  obtain ⟨o', es, ep, h1, h2, h3⟩ := hm
  rw [e] at h1; cases h1
  refine ⟨m, ⟨o, es, ep, e2, h2, h3⟩, fun h' sb => wpAny_pure (wpAny_pure ?_)⟩
  have I3 : Inv X pins (σ.set i (some (.ref acc))) H' s2 := I2.unpinned
  exact ⟨_, H', I3.turned (t' := s2.toks) (fun b o hb e => (sb.2 b hb).trans e) f0 f1 f3 f4 f5, q⟩
end
end L2
set_option Elab.async false
set_option linter.all false
set_option maxRecDepth 100000
set_option maxHeartbeats 2000000
namespace L2
open PySem PySem.Spec PyProof.Rows
def Itz (K : PySem.W.Frag) (a b : Addr) : It :=
  ⟨fun i H => ∃ xs ys x y, SqL K H a xs ∧ SqL K H b ys ∧ xs[i]? = some x ∧ ys[i]? = some y,
   fun i H v H' => ∃ T x y, v = .ref T ∧ H T = none ∧ H' = upd H T (.tup [x, y]) ∧ (∀ xs, SqL K H a xs → xs[i]? = some x) ∧ ∀ ys, SqL K H b ys → ys[i]? = some y,
   fun i H => ∃ xs ys, SqL K H a xs ∧ SqL K H b ys ∧ (xs.length ≤ i ∨ ys.length ≤ i)⟩
section
variable {X : Cx}
def iZip (K : PySem.W.Frag) (ta : TA) : TI := fun σ H R => ta σ H fun vs H1 => ∃ a b, vs = [.ref a, .ref b] ∧ (∃ xs, SqL K H1 a xs) ∧ (∃ ys, SqL K H1 b ys) ∧ R (Itz K a b) H1
end
end L2
set_option Elab.async false
set_option linter.all false
set_option maxRecDepth 100000
set_option maxHeartbeats 2000000
namespace PySem
open Sem (wp)
namespace F
end F
section
variable {prog : Program} {w : World} {A : Around} {E : Value → Shared → Prop} {s : Shared}
end
end PySem
namespace L2
open PySem PySem.Spec PyProof.Rows
section
variable {X : Cx}
def rRevd (K : PySem.W.Frag) : List V → Hp → VK → Prop := fun vs H Q => ∃ a xs, vs = [.ref a] ∧ SqL K H a xs ∧ xs.length ≤ 8000000 ∧ ∀ p, H p = none → Q (.ref p) (upd H p (.lst xs.reverse))
end
end L2
set_option Elab.async false
set_option linter.all false
set_option maxRecDepth 100000
set_option maxHeartbeats 2000000
namespace L2
open PySem PySem.Spec PyProof.Rows
structure KDict (K : PySem.W.Frag) (w : World) (a : Addr) (kvs : List (Str × V)) : Prop where
  ex : ∃ (o : Obj) (es : Array DictEntry) (ep : Nat), K.lookup a = some o ∧ o.ExactDict ∧ o.data = .dict es ep ∧ Paired (fun (p : Str × V) (e : DictEntry) => (∃ tk, e.key = .str p.1 tk) ∧ e.hash = PyData.keyHash w.params p.1 ∧ RelV p.2 e.val) kvs es.toList
  nd : (kvs.map (·.1)).Nodup
  ns : (a == sysModules) = false
def kvK (kvs : List (Str × V)) : List (Key × V) := kvs.map fun p => (Sum.inr p.1, p.2)
section
variable {X : Cx} {pins : List (Addr × Obj)} {σ : St} {H : Hp} {s : Shared} {a : Addr} {kvs : List (Str × V)}
theorem kd_pairs {P : Program} {w : World} : ∀ {kvs : List (Str × V)} {es : List DictEntry}, Paired (fun (p : Str × V) (e : DictEntry) => (∃ tk, e.key = .str p.1 tk) ∧ e.hash = PyData.keyHash w.params p.1 ∧ RelV p.2 e.val) kvs es →
    (∀ e ∈ es, ∃ k, (mixKind P w).is k e.key = true ∧ e.hash = (mixKind P w).hash k) ∧ Pairs (mixKind P w) es (List.zip (kvs.map fun p => (Sum.inr p.1 : Key)) (es.map (·.val))) ∧ KV (kvK kvs) (List.zip (kvs.map fun p => (Sum.inr p.1 : Key)) (es.map (·.val)))
  | [], _, r => by cases r; exact ⟨(fun _ h => (nomatch h)), .nil, .nil⟩
  | p :: kvs, _, r => by
    cases r with
    | @cons _ e _ es h t =>
      obtain ⟨⟨tk, h1⟩, h2, h3⟩ := h
      obtain ⟨q1, q2, q3⟩ := kd_pairs (P := P) t
      have hi : (mixKind P w).is (Sum.inr p.1) e.key = true := by rw [h1]; exact mixKind_str P w p.1 tk
      refine ⟨fun e' he => ?_, .cons hi rfl q2, .cons ⟨rfl, h3⟩ q3⟩
      rcases List.mem_cons.mp he with rfl | he
      · exact ⟨Sum.inr p.1, hi, h2⟩
      · exact q1 e' he
theorem KDict.of (D : KDict X.K X.w a kvs) (I : Inv X pins σ H s) : ∃ vs, KV (kvK kvs) vs ∧ s.heap.DictOf (mixKind X.prog X.w) a vs := by
  obtain ⟨o, es, ep, lk, ex, d, pr⟩ := D.ex
  obtain ⟨q1, q2, q3⟩ := kd_pairs (P := X.prog) pr
  refine ⟨_, q3, o, es, ep, I.kIn a o lk, ex, d, fun e he => q1 e (by simpa using he), q2, ?_⟩
  have e : (List.zip (kvs.map fun p => (Sum.inr p.1 : Key)) (es.toList.map (·.val))).map (·.1) = kvs.map fun p => (Sum.inr p.1 : Key) := by
    rw [List.map_fst_zip]
    have := Paired.length pr
    simp only [List.length_map]; omega
  rw [e]
  have inj : ∀ l : List (Str × V), (l.map (·.1)).Nodup → (l.map fun p => (Sum.inr p.1 : Key)).Nodup := by
    intro l
    induction l with
    | nil => intro _; exact List.nodup_nil
    | cons p r ih =>
      intro h
      rw [List.map_cons, List.nodup_cons] at h
      rw [List.map_cons, List.nodup_cons]
      refine ⟨fun m => h.1 ?_, ih h.2⟩
      obtain ⟨q, hq, eq⟩ := List.mem_map.mp m
      exact List.mem_map.mpr ⟨q, hq, Sum.inr.inj eq⟩
  exact inj kvs D.nd
def tKD (kvs : List (Str × V)) (ti : TE) : TE := fun σ H Q => ti σ H fun y H1 => ∃ x v, y = .str x ∧ kvs.lookup x = some v ∧ Q v H1
def tKNotIn (kvs : List (Str × V)) (ti : TE) : TE := fun σ H Q => ti σ H fun y H1 => ∃ x, y = .str x ∧ Q (.bl (!(kvs.lookup x).isSome)) H1
end
end L2
set_option Elab.async false
set_option linter.all false
set_option maxRecDepth 100000
set_option maxHeartbeats 2000000
namespace L2
open PySem PySem.Spec PyProof.Rows
section
variable {X : Cx} {scope : Scope} {N' : List Str}
theorem relabel_nofree {scope : Scope} {env : Env} (h : ∀ y ∈ scope.names, y.2 ≠ .free) : (relabel scope env).names = scope.names := by
  unfold relabel
  simp only
  have aux : ∀ l : List (Str × NameKind), (∀ y ∈ l, y.2 ≠ .free) → l.map (fun (n, k) => if (k == NameKind.free && env.scope.kind == .function && env.kindOf n == some .cell) then (n, NameKind.cell) else (n, k)) = l := by
    intro l
    induction l with
    | nil => intro _; rfl
    | cons y r ih =>
      intro h
      rw [List.map_cons, ih fun z hz => h z (List.mem_cons_of_mem _ hz)]
      obtain ⟨n, k⟩ := y
      have : (k == NameKind.free) = false := by simpa using h (n, k) List.mem_cons_self
      simp [this]
  exact aux _ h
theorem blk0 (hc : ∀ y ∈ scope.names, y.2 ≠ .cell) (hf : ∀ y ∈ scope.names, y.2 ≠ .free) (hk : scope.kind = .function) (hn : ∀ y ∈ scope.names, y.2 = .local → scope.names.lookup y.1 = some .local) (_ : X.Ok) : BlkOk X scope [] N' N'.length [] where
  clos := closureFor_none hf
  cell := hc
  kind := hk
  names := hn
  sub := fun _ _ h => by cases h
  has := fun x h => by
    rw [relabel_nofree hf] at h
    rcases h with h | h
    · exact absurd rfl (hc _ (PySem.mem_of_lookup h))
    · exact absurd rfl (hf _ (PySem.mem_of_lookup h))
  len := by simp
  cap := fun j i h => by simp at h
def closL (cells : List (Str × Addr)) : List (Str × NameKind) → List (Str × Addr) → List (Str × Addr)
  | [], acc => acc
  | (n, k) :: r, acc => if k == .free then closL cells r ((n, (cells.lookup n).getD 0) :: acc) else closL cells r acc
theorem closL_eq {env : Env} : ∀ (names : List (Str × NameKind)) (acc : List (Str × Addr)), (∀ y ∈ names, y.2 = .free → ∃ c, env.cells.lookup y.1 = some c) →
    (forIn names acc fun (x : Str × NameKind) cs => (match x with | (name, kind) => if (kind == .free) = true then do let c ← cellOf env name; pure (ForInStep.yield ((name, c) :: cs)) else pure (ForInStep.yield cs) : Sem (ForInStep (List (Str × Addr))))) = pure (closL env.cells names acc)
  | [], acc, _ => rfl
  | (n, k) :: r, acc, h => by
    rw [List.forIn_cons]
    unfold closL
    by_cases hk : (k == NameKind.free) = true
    · obtain ⟨c, hc⟩ := h (n, k) List.mem_cons_self (by simpa using hk)
      have e : cellOf env n = pure c := by unfold cellOf; rw [show env.cells.lookup n = some c from hc]
      have hc' : env.cells.lookup n = some c := hc
      simp only [hk, if_true, e, pure_bind, hc', Option.getD_some]
      exact closL_eq r _ fun y hy => h y (List.mem_cons_of_mem _ hy)
    · simp only [hk, if_false, pure_bind]
      exact closL_eq r acc fun y hy => h y (List.mem_cons_of_mem _ hy)
theorem closureFor_eq {scope : Scope} {env : Env} (h : ∀ y ∈ scope.names, y.2 = .free → ∃ c, env.cells.lookup y.1 = some c) : closureFor scope env = pure (closL env.cells scope.names []) := by
  unfold closureFor
  have e := closL_eq (env := env) scope.names [] h
  simp only [bind_pure_comp] at e ⊢
  first
    | exact e
    | (rw [e]; rfl)
    | (refine Eq.trans ?_ e; rfl)
theorem closL_mem {cells : List (Str × Addr)} : ∀ {names : List (Str × NameKind)} {acc : List (Str × Addr)} {x : Str} {c : Addr}, (x, c) ∈ closL cells names acc → (x, c) ∈ acc ∨ ((x, NameKind.free) ∈ names ∧ c = (cells.lookup x).getD 0)
  | [], acc, x, c, h => .inl h
  | (n, k) :: r, acc, x, c, h => by
    unfold closL at h
    by_cases hk : (k == NameKind.free) = true
    · rw [if_pos hk] at h
      have hk' : k = .free := by simpa using hk
      rcases closL_mem h with h | ⟨h1, h2⟩
      · rcases List.mem_cons.mp h with e | h
        · cases e
          subst hk'
          exact .inr ⟨List.mem_cons_self, rfl⟩
        · exact .inl h
      · exact .inr ⟨List.mem_cons_of_mem _ h1, h2⟩
    · rw [if_neg hk] at h
      rcases closL_mem h with h | ⟨h1, h2⟩
      · exact .inl h
      · exact .inr ⟨List.mem_cons_of_mem _ h1, h2⟩
theorem closL_has {cells : List (Str × Addr)} : ∀ {names : List (Str × NameKind)} {acc : List (Str × Addr)} {x : Str}, (x, NameKind.free) ∈ names ∨ (∃ c, (x, c) ∈ acc) → ∃ c, (x, c) ∈ closL cells names acc
  | [], acc, x, h => by
    rcases h with h | h
    · cases h
    · exact h
  | (n, k) :: r, acc, x, h => by
    unfold closL
    by_cases hk : (k == NameKind.free) = true
    · rw [if_pos hk]
      refine closL_has ?_
      rcases h with h | ⟨c, h⟩
      · rcases List.mem_cons.mp h with e | h
        · cases e
          exact .inr ⟨_, List.mem_cons_self⟩
        · exact .inl h
      · exact .inr ⟨c, List.mem_cons_of_mem _ h⟩
    · rw [if_neg hk]
      refine closL_has ?_
      rcases h with h | h
      · rcases List.mem_cons.mp h with e | h
        · cases e
          exact absurd (beq_self_eq_true NameKind.free) hk
        · exact .inl h
      · exact .inr h
theorem lookup_of_mem {l : List (Str × Addr)} {x : Str} {c : Addr} (h : (x, c) ∈ l) : ∃ c', l.lookup x = some c' := by
  induction l with
  | nil => cases h
  | cons p r ih =>
    obtain ⟨n, a⟩ := p
    by_cases e : (x == n) = true
    · exact ⟨a, by simp [List.lookup_cons, e]⟩
    · have e' : (x == n) = false := by simpa using e
      rcases List.mem_cons.mp h with h | h
      · cases h; simp at e
      · obtain ⟨c', q⟩ := ih h
        exact ⟨c', by simp only [List.lookup_cons, e']; exact q⟩
theorem relabel_free {env : Env} : ∀ {names : List (Str × NameKind)} {x : Str} {k : NameKind}, (names.map fun (n, k) => if (k == NameKind.free && env.scope.kind == .function && env.kindOf n == some .cell) then (n, NameKind.cell) else (n, k)).lookup x = some k → (k = .cell ∨ k = .free) → (∀ y ∈ names, y.2 ≠ .cell) → (x, NameKind.free) ∈ names
  | [], x, k, h, _, _ => by cases h
  | (n, j) :: r, x, k, h, hk, hc => by
    rw [List.map_cons] at h
    by_cases e : (x == n) = true
    · have e' : x = n := by simpa using e
      subst e'
      have hj : j ≠ .cell := hc (x, j) List.mem_cons_self
      by_cases q : (j == NameKind.free && env.scope.kind == .function && env.kindOf x == some .cell) = true
      · have : j = .free := by
          rw [Bool.and_eq_true, Bool.and_eq_true] at q
          simpa using q.1.1
        subst this
        exact List.mem_cons_self
      · simp only [q, if_false, List.lookup_cons, beq_self_eq_true] at h
        have h' : j = k := by simpa using h
        subst h'
        rcases hk with z | z
        · exact absurd z hj
        · subst z; exact List.mem_cons_self
    · have e' : (x == n) = false := by simpa using e
      refine List.mem_cons_of_mem _ (relabel_free (env := env) (k := k) ?_ hk fun y hy => hc y (List.mem_cons_of_mem _ hy))
      have h' : List.lookup x ((if (j == NameKind.free && env.scope.kind == .function && env.kindOf n == some .cell) = true then (n, NameKind.cell) else (n, j)) :: _) = some k := h
      by_cases q : (j == NameKind.free && env.scope.kind == .function && env.kindOf n == some .cell) = true
      · rw [if_pos q, List.lookup_cons, e'] at h'; exact h'
      · rw [if_neg q, List.lookup_cons, e'] at h'; exact h'
theorem relabel_cell {env : Env} {x : Str} (h1 : env.scope.kind = .function) (h2 : env.kindOf x = some .cell) : ∀ {names : List (Str × NameKind)}, names.lookup x = some .free → (names.map fun (n, k) => if (k == NameKind.free && env.scope.kind == .function && env.kindOf n == some .cell) then (n, NameKind.cell) else (n, k)).lookup x = some .cell
  | [], h => by cases h
  | (n, j) :: r, h => by
    rw [List.map_cons]
    by_cases e : (x == n) = true
    · have e' : x = n := by simpa using e
      subst e'
      simp only [List.lookup_cons, beq_self_eq_true] at h
      have hj : j = .free := by simpa using h
      subst hj
      have q : ((NameKind.free == NameKind.free) && env.scope.kind == .function && env.kindOf x == some .cell) = true := by rw [h1, h2]; rfl
      show List.lookup x ((if ((NameKind.free == NameKind.free) && env.scope.kind == .function && env.kindOf x == some .cell) = true then (x, NameKind.cell) else (x, NameKind.free)) :: _) = _
      rw [if_pos q, List.lookup_cons, beq_self_eq_true]
    · have e' : (x == n) = false := by simpa using e
      simp only [List.lookup_cons, e'] at h
      by_cases q : (j == NameKind.free && env.scope.kind == .function && env.kindOf n == some .cell) = true
      · show List.lookup x ((if (j == NameKind.free && env.scope.kind == .function && env.kindOf n == some .cell) = true then (n, NameKind.cell) else (n, j)) :: _) = _
        rw [if_pos q, List.lookup_cons, e']; exact relabel_cell h1 h2 h
      · show List.lookup x ((if (j == NameKind.free && env.scope.kind == .function && env.kindOf n == some .cell) = true then (n, NameKind.cell) else (n, j)) :: _) = _
        rw [if_neg q, List.lookup_cons, e']; exact relabel_cell h1 h2 h
def capOk (N' : List Str) (nt : Nat) (ci : List Nat) (Xn : List Str) (fsc scope : Scope) : Bool :=
  (List.range ci.length).all fun j => match ci[j]?, N'[nt + j]? with
    | some i, some x => Xn[i]? == some x && fsc.names.lookup x == some .cell && scope.names.lookup x == some .free
    | _, _ => false
theorem blkC {nt : Nat} {ci : List Nat} (Xn : List Str) (fsc : Scope) (hN : X.N = Xn) (hs : X.env.scope = fsc) (hc : ∀ y ∈ scope.names, y.2 ≠ .cell) (hk : scope.kind = .function) (hn : ∀ y ∈ scope.names, y.2 = .local → scope.names.lookup y.1 = some .local)
    (hfr : ∀ y ∈ scope.names, y.2 = .free → fsc.names.lookup y.1 = some .cell) (hl : N'.length = nt + ci.length) (cap : capOk N' nt ci Xn fsc scope = true) (ok : X.Ok) : BlkOk X scope (closL X.env.cells scope.names []) N' nt ci := by
  have fr : ∀ y ∈ scope.names, y.2 = .free → ∃ c, X.env.cells.lookup y.1 = some c := fun y hy e => ok.has y.1 (.inl (by show X.env.scope.names.lookup y.1 = _; rw [hs]; exact hfr y hy e))
  have sub : ∀ x c, (closL X.env.cells scope.names []).lookup x = some c → X.env.cells.lookup x = some c := fun x c h => by
    rcases closL_mem (PySem.mem_of_lookup h) with z | ⟨z1, z2⟩
    · cases z
    · obtain ⟨c', e⟩ := fr _ z1 rfl
      rw [show X.env.cells.lookup x = some c' from e] at z2 ⊢
      rw [z2]; rfl
  refine ⟨closureFor_eq fr, hc, hk, hn, sub, fun x h => ?_, hl, fun j i h => ?_⟩
  · have hm : (x, NameKind.free) ∈ scope.names := by
      rcases h with h | h
      · exact relabel_free h (.inl rfl) hc
      · exact relabel_free h (.inr rfl) hc
    obtain ⟨c, q⟩ := closL_has (cells := X.env.cells) (acc := []) (.inl hm)
    exact lookup_of_mem q
  · unfold capOk at cap
    rw [List.all_eq_true] at cap
    have hj : j < ci.length := (List.getElem?_eq_some_iff.mp h).1
    have q := cap j (List.mem_range.mpr hj)
    rw [h] at q
    cases e : N'[nt + j]? with
    | none => rw [e] at q; cases q
    | some x =>
      rw [e] at q
      simp only [Bool.and_eq_true, beq_iff_eq] at q
      refine ⟨x, rfl, by rw [hN]; exact q.1.1, by rw [hs]; exact q.1.2, .inl (relabel_cell ok.kind ?_ q.2)⟩
      show X.env.scope.names.lookup x = _
      rw [hs]; exact q.1.2
end
theorem Same.sqt {K : PySem.W.Frag} {H H' : Hp} {a : Addr} {xs : List V} (e : Same H H') (h : SqT K H a xs) : SqT K H' a xs := by
  rcases h with (h | ⟨o, h⟩) | h
  · exact .inl (.inl (e _ _ h))
  · exact .inl (.inr ⟨o, e _ _ h⟩)
  · exact .inr h
theorem Same.keepT {K : PySem.W.Frag} {H H' : Hp} (e : Same H H') : KeepT K H H' := fun _ _ h => e.sqt h
theorem same_new {H : Hp} {p : Addr} (h : H p = none) (o : HO) : Same H (upd H p o) := fun b u q => by rw [upd_ne (ne_of_none q h)]; exact q
theorem KeepT.trans {K : PySem.W.Frag} {H H1 H2 : Hp} (a : KeepT K H H1) (b : KeepT K H1 H2) : KeepT K H H2 := fun x xs h => b x xs (a x xs h)
theorem KeepT.refl {K : PySem.W.Frag} (H : Hp) : KeepT K H H := fun _ _ h => h
theorem keepT_lst {K : PySem.W.Frag} {H : Hp} {l : Addr} {xs : List V} {o : HO} (h : H l = some (.lst xs)) : KeepT K H (upd H l o) := fun a ys q => by
  rcases q with (q | ⟨ob, q⟩) | q
  · exact .inl (.inl (by rw [upd_ne (ne_of q h (by intro z; cases z))]; exact q))
  · exact .inl (.inr ⟨ob, by rw [upd_ne (ne_of q h (by intro z; cases z))]; exact q⟩)
  · exact .inr q
theorem keepT_new {K : PySem.W.Frag} {H : Hp} {l : Addr} {o : HO} (h : H l = none) : KeepT K H (upd H l o) := (same_new h o).keepT
theorem Same.write {H0 H : Hp} {l : Addr} {o : HO} (e : Same H0 H) (h : H0 l = none) : Same H0 (upd H l o) := fun b u q => by
  rw [upd_ne (ne_of_none q h)]; exact e b u q
theorem sqL_ne {K : PySem.W.Frag} {H : Hp} {l a : Addr} {xs : List V} {o : HO} (q : SqL K H a xs) (h : a ≠ l) : SqL K (upd H l o) a xs := by
  rcases q with (q | ⟨ob, q⟩) | q
  · exact .inl (.inl (by rw [upd_ne h]; exact q))
  · exact .inl (.inr ⟨ob, by rw [upd_ne h]; exact q⟩)
  · exact .inr q
theorem cxOf_K (CX : CXT) (P : Program) (w : World) (K : PySem.W.Frag) (mg : Str → Option Value) (base : Heap) (N : List Str) (qual : Str) (scope : Scope) (f : Addr) (cd : Value) (A : Around) (outer : List Env) (s : Shared) (H : Hp) (E : XK) : (cxOf CX P w K mg base N qual scope f cd A outer s H E).K = K := rfl
theorem blk_K (X : Cx) (N' : List Str) (scope : Scope) (cl : List (Str × Addr)) (s : Shared) (H : Hp) (C : Addr) (ex : List Addr) : (blk X N' scope cl s H C ex).K = X.K := rfl
theorem scal_int (a b : Int) : scal (.int a) (.int b) = true := rfl
theorem scal_str (a b : Str) : scal (.str a) (.str b) = true := rfl
theorem scal_bl (a b : Bool) : scal (.bl a) (.bl b) = true := rfl
theorem mul_left {i j : Int} (h1 : -(2 ^ 64) < i) (h2 : i < 2 ^ 64) : CMul i j := .inl ⟨h1, h2⟩
theorem mul_right {i j : Int} (h1 : -(2 ^ 64) < j) (h2 : j < 2 ^ 64) : CMul i j := .inr ⟨h1, h2⟩
theorem seq_then {t u : TS} {D : Ends} {σ : St} {H : Hp} (R : St → Hp → Prop) (rest : ∀ σ' H', R σ' H' → u D σ' H') (first : ∀ C : St → Hp → Prop, (∀ σ' H', R σ' H' → C σ' H') → t { D with nx := C } σ H) : tSeq t u D σ H := first (u D) rest
theorem lcW_range {K : PySem.W.Frag} {σ0 : St} {n : Nat} {lo : Int} {acc : Addr} {g : TG} {te : TE} {Q : VK} {H : Hp} (Pv : Nat → List V → Hp → Prop) (h0 : Pv 0 [] (upd H acc (.lst []))) (hl : ∀ i ys H2, i ≤ n → Pv i ys H2 → H2 acc = some (.lst ys) ∧ ys.length < sizeLine)
    (hs : ∀ i ys H2, i < n → Pv i ys H2 → ∀ C : VK, (∀ y H5, H5 acc = some (.lst ys) → Pv (i + 1) (ys ++ [y]) (upd H5 acc (.lst (ys ++ [y]))) → C y H5) → g (.int (lo + i)) σ0 H2 fun σ4 H4 => Wk σ0 σ4 ∧ te σ4 H4 C) (hd : ∀ ys H2, Pv n ys H2 → Q (.ref acc) H2) :
    ∃ W : Nat → Nat → List V → Hp → Prop, (∃ m, W 0 m [] (upd H acc (.lst []))) ∧ lcW K σ0 (Itr lo n) acc g te Q W := by
  refine ⟨fun i m ys H2 => m = n - i ∧ i ≤ n ∧ Pv i ys H2, ⟨n, by simp, Nat.zero_le _, h0⟩, ?_⟩
  rintro i m ys H2 ⟨rfl, hi, p⟩
  obtain ⟨a, b⟩ := hl i ys H2 hi p
  refine ⟨a, b, ?_⟩
  by_cases hlt : i < n
  · refine .inr ⟨hlt, fun x H3 y => ?_⟩
    obtain ⟨e, y⟩ := y
    subst e y
    exact hs i ys _ hlt p _ fun v H5 z1 z2 => ⟨z1, n - (i + 1), by omega, rfl, hlt, z2⟩
  · have e : i = n := by omega
    subst e
    exact .inl ⟨Nat.le_refl _, hd ys H2 p⟩
theorem lcW_list {K : PySem.W.Frag} {σ0 : St} {a : Addr} {xs : List V} {acc : Addr} {g : TG} {te : TE} {Q : VK} {H : Hp} (Pv : Nat → List V → Hp → Prop) (h0 : Pv 0 [] (upd H acc (.lst []))) (hl : ∀ i ys H2, i ≤ xs.length → Pv i ys H2 → H2 acc = some (.lst ys) ∧ ys.length < sizeLine ∧ SqL K H2 a xs)
    (hs : ∀ i x ys H2, xs[i]? = some x → Pv i ys H2 → ∀ C : VK, (∀ y H5, H5 acc = some (.lst ys) → Pv (i + 1) (ys ++ [y]) (upd H5 acc (.lst (ys ++ [y]))) → C y H5) → g x σ0 H2 fun σ4 H4 => Wk σ0 σ4 ∧ te σ4 H4 C) (hd : ∀ ys H2, Pv xs.length ys H2 → Q (.ref acc) H2) :
    ∃ W : Nat → Nat → List V → Hp → Prop, (∃ m, W 0 m [] (upd H acc (.lst []))) ∧ lcW K σ0 (Itl K a) acc g te Q W := by
  refine ⟨fun i m ys H2 => m = xs.length - i ∧ i ≤ xs.length ∧ Pv i ys H2, ⟨xs.length, by simp, Nat.zero_le _, h0⟩, ?_⟩
  rintro i m ys H2 ⟨rfl, hi, p⟩
  obtain ⟨e1, e2, q⟩ := hl i ys H2 hi p
  refine ⟨e1, e2, ?_⟩
  by_cases hlt : i < xs.length
  · refine .inr ⟨⟨xs, xs[i], q, by simp [hlt]⟩, fun x H3 y => ?_⟩
    obtain ⟨e, y⟩ := y
    subst e
    exact hs i x ys _ (y xs q) p _ fun v H5 z1 z2 => ⟨z1, xs.length - (i + 1), by omega, rfl, hlt, z2⟩
  · have e : i = xs.length := by omega
    subst e
    exact .inl ⟨⟨xs, q, Nat.le_refl _⟩, hd ys H2 p⟩
theorem str_ext {x y : Str} (h : x.cps.toList = y.cps.toList) : x = y := by
  obtain ⟨a⟩ := x
  obtain ⟨b⟩ := y
  have : a = b := by simpa using congrArg List.toArray h
  rw [this]
theorem cps_append (x y : Str) : (x ++ y).cps.toList = x.cps.toList ++ y.cps.toList := by
  show (x.cps ++ y.cps).toList = _
  simp
theorem len_cps (x : Str) : x.length = x.cps.toList.length := by simp [Str.length]
end L2
set_option Elab.async false
set_option linter.all false
set_option maxRecDepth 100000
set_option maxHeartbeats 2000000
namespace Ken
open PySem L2
theorem boot_len : bootBuiltins "len" = some (.builtin "len") := by decide +kernel
theorem boot_isinstance : bootBuiltins "isinstance" = some (.builtin "isinstance") := by decide +kernel
theorem boot_sorted : bootBuiltins "sorted" = some (.builtin "sorted") := by decide +kernel
theorem boot_str : bootBuiltins "str" = some (.type "str") := by decide +kernel
theorem boot_list : bootBuiltins "list" = some (.type "list") := by decide +kernel
theorem boot_set : bootBuiltins "set" = some (.type "set") := by decide +kernel
theorem boot_range : bootBuiltins "range" = some (.type "range") := by decide +kernel
theorem boot_enumerate : bootBuiltins "enumerate" = some (.type "enumerate") := by decide +kernel
theorem boot_reversed : bootBuiltins "reversed" = some (.type "reversed") := by decide +kernel
inductive Kd where
  | both | one | thn
  deriving DecidableEq
def Kd.str : Kd → Str
  | .both => "both"
  | .one => "one"
  | .thn => "then"
inductive Tm where
  | low
  | ltr (w : Str)
  | nd (k : Kd) (a b : Tm)
  deriving DecidableEq
def Tm.data : Tm → PyData
  | .low => .tuple [.str "low"]
  | .ltr w => .tuple [.str "letter", .str w]
  | .nd k a b => .tuple [.str k.str, a.data, b.data]
def Tm.parts : Tm → Nat
  | .low => 1
  | .ltr _ => 1
  | .nd _ a b => 1 + a.parts + b.parts
def Tm.deep : Tm → Nat
  | .low => 1
  | .ltr _ => 1
  | .nd _ a b => 1 + max a.deep b.deep
theorem Tm.parts_pos : ∀ t : Tm, 1 ≤ t.parts
  | .low => Nat.le_refl _
  | .ltr _ => Nat.le_refl _
  | .nd _ a b => by show 1 ≤ 1 + a.parts + b.parts; omega
def Word (x : Str) : Prop := 1 ≤ x.cps.toList.length ∧ x.cps.toList.length ≤ 8 ∧ ∀ c ∈ x.cps.toList, 97 ≤ c ∧ c ≤ 122
theorem Word.strOk {x : Str} (h : Word x) : PySem.PyData.strOk x = true := by
  unfold PySem.PyData.strOk
  rw [Array.all_eq_true_iff_forall_mem]
  intro c hc
  have := h.2.2 c (by simpa using hc)
  exact decide_eq_true (by omega)
def Tm.ok : Tm → Prop
  | .low => True
  | .ltr w => Word w
  | .nd _ a b => a.ok ∧ b.ok
abbrev IsT (K : PySem.W.Frag) (H : Hp) (v : V) (t : Tm) : Prop := Dn K H v t.data
theorem Tm.noList : ∀ t : Tm, L2.noList t.data = true
  | .low => rfl
  | .ltr _ => rfl
  | .nd k a b => by
    show (true && (L2.noList a.data && (L2.noList b.data && true))) = true
    rw [a.noList, b.noList]; rfl
theorem Tm.lay : ∀ t : Tm, t.ok → t.data.canLay0 = true
  | .low, _ => by
    show (PySem.PyData.strOk "low" && true) = true
    decide +kernel
  | .ltr w, h => by
    show (PySem.PyData.strOk "letter" && (PySem.PyData.strOk w && true)) = true
    rw [Word.strOk h]; decide +kernel
  | .nd k a b, h => by
    show (PySem.PyData.strOk k.str && (a.data.canLay0 && (b.data.canLay0 && true))) = true
    rw [a.lay h.1, b.lay h.2]
    cases k <;> decide +kernel
theorem Tm.depth : ∀ t : Tm, t.data.depth = t.deep
  | .low => rfl
  | .ltr _ => rfl
  | .nd k a b => by
    show max 0 (max a.data.depth (max b.data.depth 0)) + 1 = 1 + max a.deep b.deep
    rw [a.depth, b.depth]; omega
section
variable {K : PySem.W.Frag} {H H' : Hp} {v : V}
theorem IsT.keep {t : Tm} (h : IsT K H v t) (k : KeepT K H H') : IsT K H' v t := Dn.keepT k t.noList h
theorem isT_low : IsT K H v .low ↔ ∃ a, v = .ref a ∧ SqT K H a [.str "low"] := by
  show Dn K H v (.tuple [.str "low"]) ↔ _
  rw [Dn]
  constructor
  · rintro ⟨a, xs, rfl, hs, hd⟩
    rw [DnAll] at hd
    obtain ⟨x, r, rfl, h1, h2⟩ := hd
    rw [Dn] at h1
    rw [DnAll] at h2
    subst h1; subst h2
    exact ⟨a, rfl, hs⟩
  · rintro ⟨a, rfl, hs⟩
    refine ⟨a, _, rfl, hs, ?_⟩
    rw [DnAll]
    exact ⟨_, _, rfl, by rw [Dn], by rw [DnAll]⟩
theorem isT_ltr {w : Str} : IsT K H v (.ltr w) ↔ ∃ a, v = .ref a ∧ SqT K H a [.str "letter", .str w] := by
  show Dn K H v (.tuple [.str "letter", .str w]) ↔ _
  rw [Dn]
  constructor
  · rintro ⟨a, xs, rfl, hs, hd⟩
    rw [DnAll] at hd
    obtain ⟨x, r, rfl, h1, h2⟩ := hd
    rw [DnAll] at h2
    obtain ⟨y, r, rfl, h3, h4⟩ := h2
    rw [Dn] at h1 h3
    rw [DnAll] at h4
    subst h1; subst h3; subst h4
    exact ⟨a, rfl, hs⟩
  · rintro ⟨a, rfl, hs⟩
    refine ⟨a, _, rfl, hs, ?_⟩
    rw [DnAll]
    refine ⟨_, _, rfl, by rw [Dn], ?_⟩
    rw [DnAll]
    exact ⟨_, _, rfl, by rw [Dn], by rw [DnAll]⟩
theorem isT_nd {k : Kd} {a b : Tm} : IsT K H v (.nd k a b) ↔ ∃ p x y, v = .ref p ∧ SqT K H p [.str k.str, x, y] ∧ IsT K H x a ∧ IsT K H y b := by
  show Dn K H v (.tuple [.str k.str, a.data, b.data]) ↔ _
  rw [Dn]
  constructor
  · rintro ⟨p, xs, rfl, hs, hd⟩
    rw [DnAll] at hd
    obtain ⟨x, r, rfl, h1, h2⟩ := hd
    rw [DnAll] at h2
    obtain ⟨y, r, rfl, h3, h4⟩ := h2
    rw [DnAll] at h4
    obtain ⟨z, r, rfl, h5, h6⟩ := h4
    rw [Dn] at h1
    rw [DnAll] at h6
    subst h1; subst h6
    exact ⟨p, y, z, rfl, hs, h3, h5⟩
  · rintro ⟨p, x, y, rfl, hs, h1, h2⟩
    refine ⟨p, _, rfl, hs, ?_⟩
    rw [DnAll]
    refine ⟨_, _, rfl, by rw [Dn], ?_⟩
    rw [DnAll]
    refine ⟨_, _, rfl, h1, ?_⟩
    rw [DnAll]
    exact ⟨_, _, rfl, h2, by rw [DnAll]⟩
end
theorem eqvAll3 (a b c d e f : PyData) : PyData.eqvAll [a, b, c] [d, e, f] = (PyData.eqv a d && (PyData.eqv b e && PyData.eqv c f)) := by
  simp [PyData.eqvAll]
theorem Kd.str_inj {a b : Kd} (h : a.str = b.str) : a = b := by
  cases a <;> cases b <;> first | rfl | exact absurd h (by decide)
theorem Tm.eqv : ∀ s t : Tm, PyData.eqv s.data t.data = decide (s = t)
  | .low, .low => by decide
  | .low, .ltr w => by
    show PyData.eqvAll [.str "low"] [.str "letter", .str w] = _
    simp [PyData.eqvAll]
  | .low, .nd k a b => by
    show PyData.eqvAll [.str "low"] [.str k.str, a.data, b.data] = _
    simp [PyData.eqvAll]
  | .ltr w, .low => by
    show PyData.eqvAll [.str "letter", .str w] [.str "low"] = _
    simp [PyData.eqvAll]
  | .ltr w, .ltr v => by
    show (PyData.eqv (.str "letter") (.str "letter") && (PyData.eqv (.str w) (.str v) && true)) = _
    simp [PyData.eqv]
    rfl
  | .ltr w, .nd k a b => by
    show PyData.eqvAll [.str "letter", .str w] [.str k.str, a.data, b.data] = _
    simp [PyData.eqvAll]
  | .nd k a b, .low => by
    show PyData.eqvAll [.str k.str, a.data, b.data] [.str "low"] = _
    simp [PyData.eqvAll]
  | .nd k a b, .ltr w => by
    show PyData.eqvAll [.str k.str, a.data, b.data] [.str "letter", .str w] = _
    simp [PyData.eqvAll]
  | .nd k a b, .nd l c d => by
    show PyData.eqvAll [.str k.str, a.data, b.data] [.str l.str, c.data, d.data] = _
    rw [eqvAll3, a.eqv c, b.eqv d]
    have e : PyData.eqv (.str k.str) (.str l.str) = decide (k = l) := by
      show (k.str == l.str) = _
      by_cases h : k = l
      · subst h; simp
      · have : ¬ k.str = l.str := fun z => h (Kd.str_inj z)
        rw [decide_eq_false h]; exact beq_eq_false_iff_ne.mpr this
    rw [e]
    by_cases h1 : k = l <;> by_cases h2 : a = c <;> by_cases h3 : b = d <;> simp [h1, h2, h3]
end Ken
set_option Elab.async false
set_option linter.all false
set_option maxRecDepth 100000
set_option maxHeartbeats 2000000
namespace Ken
open PySem L2
def mix (c k : Int) : Int := ((c + 1) * (48271 + 118 * k) % 2147483629 / 977 * 16807 + (c + 1) * (48271 + 118 * k) % 2147483629 * (k * k + 7) + k) % 2147483587
theorem mix_nn (c k : Int) : 0 ≤ mix c k := by unfold mix; exact Int.emod_nonneg _ (by decide)
def sp_mix : Sp := fun vs H Q _ => ∃ c k : Int, vs = [.int c, .int k] ∧ 0 ≤ k ∧ k ≤ 100000 ∧ Q (.int (mix c k)) H
def cellOf (ns : List Int) (k : Int) : Int := mix (if k < (ns.length : Int) then (ns[k.toNat]?.getD 0) % 2147483647 else 0) (k + 101)
theorem cell_nn (ns : List Int) (k : Int) : 0 ≤ cellOf ns k := mix_nn _ _
def sp_cell (K : PySem.W.Frag) : Sp := fun vs H Q _ => ∃ (a : Addr) (ns : List Int) (k : Int), vs = [.ref a, .int k] ∧ SqL K H a (ns.map V.int) ∧ ns.length ≤ 63 ∧ 0 ≤ k ∧ k ≤ 1000 ∧ Q (.int (cellOf ns k)) H
def Words (ws : List Str) : Prop := 2 ≤ ws.length ∧ ws.length ≤ 6 ∧ ∀ w ∈ ws, Word w
def sp_words : Sp := fun vs H Q _ => ∃ c m : Int, vs = [.int c, .int m] ∧ 0 ≤ c ∧ 2 ≤ m ∧ m ≤ 6 ∧
  ∀ (r : Addr) (H' : Hp) (ws : List Str), Same H H' → H r = none → H' r = some (.lst (ws.map V.str)) → Words ws → Q (.ref r) H'
def Tm.inW (ws : List Str) : Tm → Prop
  | .low => True
  | .ltr w => w ∈ ws
  | .nd _ a b => a.inW ws ∧ b.inW ws
theorem Tm.inW.ok {ws : List Str} (hw : ∀ w ∈ ws, Word w) : ∀ {t : Tm}, t.inW ws → t.ok
  | .low, _ => trivial
  | .ltr w, h => hw w h
  | .nd _ a b, h => ⟨Tm.inW.ok hw h.1, Tm.inW.ok hw h.2⟩
def Made (K : PySem.W.Frag) (H : Hp) (ws : List Str) (p d : Nat) (r : V) (t : Tm) : Prop := IsT K H r t ∧ t.inW ws ∧ t.parts ≤ p ∧ t.deep ≤ d
theorem Made.mono {K : PySem.W.Frag} {H H' : Hp} {ws : List Str} {p d p' d' : Nat} {r : V} {t : Tm} (h : Made K H ws p d r t) (k : KeepT K H H') (hp : p ≤ p') (hd : d ≤ d') : Made K H' ws p' d' r t :=
  ⟨h.1.keep k, h.2.1, Nat.le_trans h.2.2.1 hp, Nat.le_trans h.2.2.2 hd⟩
def sp_leaf (K : PySem.W.Frag) : Sp := fun vs H Q _ => ∃ (c : Int) (wa : Addr) (ws : List Str), vs = [.int c, .ref wa] ∧ SqL K H wa (ws.map V.str) ∧ Words ws ∧
  ∀ (r : V) (H' : Hp) (t : Tm), Same H H' → Made K H' ws 1 1 r t → Q r H'
def rk (n : Int) : Nat := if n < 40 then n.toNat else if n ≤ 53 then 40 else if n ≤ 71 then 41 else if n ≤ 95 then 42 else if n ≤ 127 then 43 else if n ≤ 170 then 44 else if n ≤ 227 then 45 else 46
theorem rk_le (n : Int) : rk n ≤ 46 := by
  unfold rk
  repeat' split
  all_goals omega
theorem rk_two {n : Int} (h0 : 3 ≤ n) (h1 : n < 40) : rk (n - 2) < rk n := by
  unfold rk
  rw [if_pos (by omega), if_pos (by omega)]
  omega
theorem rk_less {n m : Int} (h0 : 3 ≤ n) (h1 : n < 40) (h2 : m ≤ n - 1) : rk m < rk n := by
  unfold rk
  rw [if_pos (by omega), if_pos (by omega)]
  omega
theorem rk_big {n m : Int} (h0 : 40 ≤ n) (h1 : n ≤ 300) (h2 : m ≤ n - 1 - (n - 1) / 4) : rk m < rk n := by
  unfold rk
  rw [if_neg (show ¬ n < 40 by omega)]
  repeat' split
  all_goals omega
def sp_stm (K : PySem.W.Frag) (n : Nat) : Sp := fun vs H Q _ => ∃ (c size : Int) (wa : Addr) (ws : List Str), vs = [.int c, .int size, .ref wa] ∧ 0 ≤ c ∧ 0 ≤ size ∧ size ≤ 300 ∧ rk size < n ∧ SqL K H wa (ws.map V.str) ∧ Words ws ∧
  ∀ (r : V) (H' : Hp) (t : Tm), Same H H' → Made K H' ws (max 1 size.toNat) (rk size + 1) r t → Q r H'
section
variable {K : PySem.W.Frag} {H : Hp} {p : Addr}
theorem made_low (ws : List Str) (hp : H p = none) : Made K (upd H p (.tup [.str "low"])) ws 1 1 (.ref p) .low :=
  ⟨isT_low.mpr ⟨p, rfl, .inl (.inl upd_same)⟩, trivial, Nat.le_refl _, Nat.le_refl _⟩
theorem made_ltr {ws : List Str} {w : Str} (hw : w ∈ ws) (hp : H p = none) : Made K (upd H p (.tup [.str "letter", .str w])) ws 1 1 (.ref p) (.ltr w) :=
  ⟨isT_ltr.mpr ⟨p, rfl, .inl (.inl upd_same)⟩, hw, Nat.le_refl _, Nat.le_refl _⟩
theorem made_nd {ws : List Str} {k : Kd} {x y : V} {a b : Tm} {pa da pb db : Nat} (ha : Made K H ws pa da x a) (hb : Made K H ws pb db y b) (hp : H p = none) :
    Made K (upd H p (.tup [.str k.str, x, y])) ws (1 + pa + pb) (1 + max da db) (.ref p) (.nd k a b) := by
  refine ⟨isT_nd.mpr ⟨p, x, y, rfl, .inl (.inl upd_same), ha.1.keep (keepT_new hp), hb.1.keep (keepT_new hp)⟩, ⟨ha.2.1, hb.2.1⟩, ?_, ?_⟩
  · show 1 + a.parts + b.parts ≤ _
    have := ha.2.2.1
    have := hb.2.2.1
    omega
  · show 1 + max a.deep b.deep ≤ _
    have := ha.2.2.2
    have := hb.2.2.2
    omega
end
theorem word_mul {c : Nat} {n : Int} (h1 : 97 ≤ c) (h2 : c ≤ 122) (h3 : 1 ≤ n) (h4 : n ≤ 8) : Word (Txt.mul ⟨#[c]⟩ n) := by
  unfold Word
  rw [PyProof.Rows.mul_one_list]
  refine ⟨by rw [List.length_replicate]; omega, by rw [List.length_replicate]; omega, fun d hd => ?_⟩
  rw [List.mem_replicate] at hd
  omega
theorem word_mid {c d : Nat} {a b : Int} (h1 : 97 ≤ c) (h2 : c ≤ 122) (h3 : 97 ≤ d) (h4 : d ≤ 122) (h5 : 0 ≤ a) (h6 : 0 ≤ b) (h7 : a + b ≤ 7) : Word (Txt.mul ⟨#[c]⟩ a ++ ⟨#[d]⟩ ++ Txt.mul ⟨#[c]⟩ b) := by
  unfold Word
  rw [cps_append, cps_append, PyProof.Rows.mul_one_list, PyProof.Rows.mul_one_list]
  refine ⟨by simp only [List.length_append, List.length_replicate, List.length_cons, List.length_nil]; omega, by simp only [List.length_append, List.length_replicate, List.length_cons, List.length_nil]; omega, fun e he => ?_⟩
  simp only [List.mem_append, List.mem_replicate, List.mem_cons, List.not_mem_nil, or_false] at he
  omega
theorem mul_len {c : Nat} {n : Int} : (Txt.mul ⟨#[c]⟩ n).length = n.toNat := by rw [len_cps, PyProof.Rows.mul_one_list, List.length_replicate]
def wordB (x : Str) : Bool := decide (1 ≤ x.cps.toList.length) && decide (x.cps.toList.length ≤ 8) && x.cps.toList.all fun c => decide (97 ≤ c) && decide (c ≤ 122)
theorem word_of {x : Str} (h : wordB x = true) : Word x := by
  unfold wordB at h
  simp only [Bool.and_eq_true, decide_eq_true_eq, List.all_eq_true] at h
  exact ⟨h.1.1, h.1.2, fun c hc => by have := h.2 c hc; simpa using this⟩
def Six (H0 H : Hp) (p : Addr) (ws : List Str) : Prop := Same H0 H ∧ H0 p = none ∧ H p = some (.lst (ws.map V.str)) ∧ ws.length = 6 ∧ ∀ w ∈ ws, Word w
theorem cut_map (ws : List Str) (lo hi : Option Int) : cutV (ws.map V.str) lo hi = ((ws.drop (HT.sIx ws.length 0 lo)).take (HT.sIx ws.length ws.length hi - HT.sIx ws.length 0 lo)).map V.str := by
  unfold cutV
  rw [List.length_map, ← List.map_drop, ← List.map_take]
def kd4 (i : Int) : Kd := if i = 0 then .both else if i = 1 then .one else .thn
theorem at_kd4 {i : Int} (h0 : 0 ≤ i) (h1 : i < 4) : atI [V.str "both", V.str "one", V.str "then", V.str "then"] i = some (.str (kd4 i).str) := by
  have : i = 0 ∨ i = 1 ∨ i = 2 ∨ i = 3 := by omega
  rcases this with rfl | rfl | rfl | rfl <;> rfl
theorem at_list {α : Type} {xs : List α} {i : Int} (h0 : 0 ≤ i) (h1 : i < (xs.length : Int)) : ∃ v, v ∈ xs ∧ atI xs i = some v := by
  obtain ⟨j, rfl⟩ := Int.eq_ofNat_of_zero_le h0
  have hj : j < xs.length := by omega
  exact ⟨xs[j], List.getElem_mem hj, atI_nat (List.getElem?_eq_getElem hj)⟩
end Ken
set_option Elab.async false
set_option linter.all false
set_option maxRecDepth 100000
set_option maxHeartbeats 2000000
namespace Ken
open PySem L2
theorem small1M {n : Nat} (h : n ≤ 1000000) : n < sizeLine := Nat.lt_of_le_of_lt h (by rw [sizeLine_eq]; decide)
def Kd.sgn : Kd → Nat
  | .both => 38
  | .one => 124
  | .thn => 62
def Tm.text : Tm → List Nat
  | .low => [48]
  | .ltr w => w.cps.toList
  | .nd k a b => if k = .thn ∧ b = .low then 126 :: a.text else 40 :: (a.text ++ (32 :: k.sgn :: 32 :: (b.text ++ [41])))
abbrev Itm := Str ⊕ Tm
def DIt (K : PySem.W.Frag) (H : Hp) : V → Itm → Prop
  | v, .inl x => v = .str x
  | v, .inr t => IsT K H v t ∧ t.ok
abbrev DIts (K : PySem.W.Frag) (H : Hp) : List V → List Itm → Prop := Paired (DIt K H)
theorem DIt.keep {K : PySem.W.Frag} {H H' : Hp} (k : KeepT K H H') : ∀ {v : V} {i : Itm}, DIt K H v i → DIt K H' v i
  | _, .inl _, h => h
  | _, .inr _, h => ⟨h.1.keep k, h.2⟩
theorem DIts.keep {K : PySem.W.Frag} {H H' : Hp} (k : KeepT K H H') {vs : List V} {is : List Itm} (h : DIts K H vs is) : DIts K H' vs is := Paired.mapP h fun _ _ q => q.keep k
theorem DIts.append {K : PySem.W.Frag} {H : Hp} : ∀ {a b : List V} {c d : List Itm}, DIts K H a c → DIts K H b d → DIts K H (a ++ b) (c ++ d)
  | _, _, _, _, .nil, q => q
  | _, _, _, _, .cons h t, q => .cons h (DIts.append t q)
theorem canLay_list {ds : List PyData} (h : ∀ d ∈ ds, d.canLay0 = true) : (PyData.list ds).canLay0 = true := by
  show PyData.canLayAll0 ds = true
  induction ds with
  | nil => rfl
  | cons d ds ih =>
    show (d.canLay0 && PyData.canLayAll0 ds) = true
    rw [h d List.mem_cons_self, ih fun e he => h e (List.mem_cons_of_mem _ he)]; rfl
end Ken
set_option Elab.async false
set_option linter.all false
set_option maxRecDepth 100000
set_option maxHeartbeats 2000000
namespace Ken
open PySem L2
abbrev IsTs (K : PySem.W.Frag) (H : Hp) (n : Nat) : List V → List Tm → Prop := Paired fun v t => IsT K H v t ∧ t.ok ∧ t.parts ≤ n
theorem IsTs.keep {K : PySem.W.Frag} {H H' : Hp} {n : Nat} (k : KeepT K H H') {vs : List V} {ts : List Tm} (h : IsTs K H n vs ts) : IsTs K H' n vs ts := Paired.mapP h fun _ _ q => ⟨q.1.keep k, q.2⟩
theorem paired_get {α β : Type} {F : α → β → Prop} : ∀ {l : List α} {m : List β} {i : Nat} {x : α}, Paired F l m → l[i]? = some x → ∃ y, m[i]? = some y ∧ F x y
  | _, _, 0, _, .cons h t, e => by cases e; exact ⟨_, rfl, h⟩
  | _, _, i + 1, _, .cons h t, e => paired_get (i := i) t (by simpa using e)
end Ken
set_option Elab.async false
set_option linter.all false
set_option maxRecDepth 100000
set_option maxHeartbeats 2000000
namespace L2
open PySem PySem.Spec PyProof.Rows
def Ite (K : PySem.W.Frag) (l : Addr) : It :=
  ⟨fun i H => ∃ xs x, SqL K H l xs ∧ xs[i]? = some x,
   fun i H v H' => ∃ T x, v = .ref T ∧ H T = none ∧ H' = upd H T (.tup [.int i, x]) ∧ ∀ xs, SqL K H l xs → xs[i]? = some x,
   fun i H => ∃ xs, SqL K H l xs ∧ xs.length ≤ i⟩
def enSt (e it l : Addr) (i : Nat) (h : Heap) : Prop := (∃ old, IsEnum h e it i old) ∧ h.IsListIter it l i
theorem turn_enum {P : Program} {w : World} {K : PySem.W.Frag} {elts : List Expr} {k0 : Nat} {tpos : Pos} (e it l : Addr) (hne : e ≠ it) :
    Turn P w K (.Tuple elts k0 tpos) (Ite K l) [e, it] e (enSt e it l) where
  mem := by simp
  obj := fun i h st b hb => by
    obtain ⟨⟨old, hz⟩, ⟨o1, e1, c1, d1⟩⟩ := st
    simp only [List.mem_cons, List.not_mem_nil, or_false] at hb
    rcases hb with rfl | rfl
    · exact ⟨_, hz, fun v q => by cases q⟩
    · exact ⟨o1, e1, fun v q => by rw [d1] at q; cases q⟩
  keep := fun i h h' st k => by
    obtain ⟨⟨old, hz⟩, h1⟩ := st
    exact ⟨⟨old, k e (by simp) _ hz⟩, h1.at fun o q => k it (by simp) o q⟩
  item := by
    intro X hP hw hK hc i pins s σ H E I hf st hg
    subst hP hw hK
    obtain ⟨⟨old, hz⟩, h1⟩ := st
    obtain ⟨xs, x, q1, hx⟩ := hg
    obtain ⟨its1, rv1, p1, _⟩ := I.list q1
    obtain ⟨u1, hu1, ru1⟩ := rv1.get hx
    refine wpAny_pyNext_enum_item hz h1 p1.isList (x := u1) (by simpa using hu1) hne fun h' a1 a2 a5 a6 kk => ?_
    have hT : H s.heap.objs.size = none := I.hok.fresh (Nat.le_refl _)
    have nch : ∀ b u, H b = some u → b ∉ [e, it] := fun b u q hb => by rw [(hf b hb).1] at q; cases q
    have kk' : ∀ b o, b ∉ [e, it] → s.heap.get? b = some o → h'.get? b = some o := fun b o hb q => by
      simp only [List.mem_cons, List.not_mem_nil, or_false, not_or] at hb
      exact kk b o hb.1 hb.2 q
    have ltT : ∀ b o, s.heap.get? b = some o → b ≠ s.heap.objs.size := fun b o q => Nat.ne_of_lt (Heap.lt_size q)
    have hokT : HOk X.prog X.w (upd H s.heap.objs.size (.tup [.int i, x])) h' := fun b ob q => by
      by_cases hb : b = s.heap.objs.size
      · subst hb
        rw [upd_same] at q
        cases q
        exact ⟨by show 2 ≤ sizeLine; decide, [.int i s.toks, u1], .cons ⟨_, rfl⟩ (.cons ru1 .nil), _, a5, rfl, _, rfl⟩
      · rw [upd_ne hb] at q
        refine (I.hok b ob q).stay (fun c v hcv q' => kk' c v ?_ q') (fun c q' => by rw [upd_ne (ne_of_none q' hT)]; exact q') fun c xs q' => by rw [upd_ne (ne_of_none q' hT)]; exact q'
        rcases hcv with rfl | hcv
        · exact nch _ _ q
        · exact nch _ _ hcv
    have I1 : Inv X pins σ (upd H s.heap.objs.size (.tup [.int i, x])) { s with heap := h', toks := s.toks + 1 } := by
      refine I.step (g' := s.gens) (d' := s.drawn) (t' := s.toks + 1) (ch := [e, it]) (fun b hb => ?_) (fun b o _ _ hb q _ => kk' b o hb q) (fun b o _ _ hb q _ => ⟨o.slots, kk' b o hb q⟩) (fun b o _ q n => by rw [upd_ne (ltT b o q)]; exact n) (fun b o hb q => ⟨o, kk' b o hb q⟩)
        (fun b xs q => by rw [upd_ne (ne_of_none q hT)]; exact q) (fun b o u q => by rw [upd_ne (ne_of_none q hT)]; exact q) (fun b ps q => ⟨#[], by rw [upd_ne (ne_of_none q hT), q]; simp⟩) (fun m hm => ?_) hokT I.bare
      · obtain ⟨f0, f1, f2, f3, f4, f5⟩ := hf b hb
        exact ⟨f3, f1, f4, f5⟩
      · obtain ⟨o, es, ep, ho, r⟩ := hm
        refine ⟨o, es, ep, kk' _ o ?_ ho, r⟩
        simp only [List.mem_cons, List.not_mem_nil, or_false, not_or]
        exact ⟨((hf e (by simp)).2.1).symm, ((hf it (by simp)).2.1).symm⟩
    refine ⟨_, rfl, wpAny_letOwnedTupleGo_enum a1 fun h'' hz'' sb => ?_⟩
    obtain ⟨f0, f1, f2, f3, f4, f5⟩ := hf e (by simp)
    have ltz : ∀ b ∈ [e, it], b ≠ s.heap.objs.size := fun b hb => by
      simp only [List.mem_cons, List.not_mem_nil, or_false] at hb
      obtain ⟨o1, e1, _⟩ := h1
      rcases hb with rfl | rfl
      · exact ltT _ _ hz
      · exact ltT _ _ e1
    have fn : ∀ b ∈ [e, it], upd H s.heap.objs.size (.tup [.int i, x]) b = none := fun b hb => by rw [upd_ne (ltz b hb)]; exact (hf b hb).1
    have I2 : Inv X pins σ (upd H s.heap.objs.size (.tup [.int i, x])) { s with heap := h'', toks := s.toks + 1 } := I1.turned (t' := s.toks + 1) (fun b o hb q => (sb.2 b hb).trans q) (fn e (by simp)) f1 f3 f4 f5
    refine ⟨.ref s.heap.objs.size, _, I2, rfl, ⟨_, x, rfl, hT, rfl, fun ys hy' => by rw [I.list_inj hy' q1]; exact hx⟩, ⟨⟨u1, ?_⟩, ?_⟩, fn⟩
    · rw [Int.natCast_add]; exact hz''
    · exact a2.extBut sb.extBut (Ne.symm hne)
  done := by
    intro X hP hw hK hc i pins s σ H E I hf st hg
    subst hP hw hK
    obtain ⟨⟨old, hz⟩, h1⟩ := st
    obtain ⟨xs, q1, hend⟩ := hg
    obtain ⟨its1, rv1, p1, _⟩ := I.list q1
    have e1 := rv1.length
    refine wpAny_pyNext_enum_end (I.ok.hd hc) hz h1 p1.isList (by simp; omega) fun h' eb => ⟨rfl, ?_⟩
    obtain ⟨f0, f1, f2, f3, f4, f5⟩ := hf it (by simp)
    exact I.turned (t' := s.toks) (fun b o hb q => eb b o hb q) f0 f1 f3 f4 f5
  self := fun _ _ _ _ _ st h => by
    obtain ⟨⟨old, hz⟩, _⟩ := st
    exact wpAny_pyIter_enum hz h
def Its (x : Str) : It := ⟨fun i _ => i < x.length, fun i H v H' => H' = H ∧ ∃ c, x.cps.toList[i]? = some c ∧ v = .str ⟨#[c]⟩, fun i _ => x.length ≤ i⟩
section
variable {X : Cx}
def iEnum (K : PySem.W.Frag) (ta : TA) : TI := fun σ H R => ta σ H fun vs H1 => ∃ a, vs = [.ref a] ∧ (∃ xs, SqL K H1 a xs) ∧ R (Ite K a) H1
theorem pi_enum {a : Expr} {ta : TA} {p pos : Pos} {elts : List Expr} {k0 : Nat} {tpos : Pos} (hg : Gl X "enumerate") (hm : X.mg "enumerate" = none) (ha : PA X [a] ta) (hs : starEach [a] X.env = [(false, eval a X.env)] := by rfl) :
    PI X (.Tuple elts k0 tpos) (.Call (.Name "enumerate" p) [a] [] pos) (iEnum X.K ta) := by
  intro pins s σ H R I h
  refine Call_ (ld_blt I hg hm (by first | exact PySem.boot_enumerate | rfl) (PyProof.Rows.callWith_type1 (thn (ha pos pins s σ H _ I h) fun us s1 ⟨vs, H1, I1, r1, q1⟩ => ?_) (by rw [hs]; rfl) rfl))
  obtain ⟨l, e, ⟨xs, q1⟩, q⟩ := q1
  subst e
  obtain ⟨u1, rfl, ru1⟩ := r1.one
  cases ru1
  obtain ⟨its1, rv1, p1, _⟩ := I1.list q1
  refine call_enumerate_list p1.isList fun h' hz hi _ hk => wpAny_pyIter_enum hz ?_
  have I2 : Inv X pins σ H1 { s1 with heap := h' } := I1.kept (t' := s1.toks) hk
  refine ⟨_, _, _, _, H1, rfl, I2, turn_enum _ _ l (Nat.succ_ne_self _), ⟨⟨_, hz⟩, hi⟩, fun b hb => ?_, q⟩
  have hb' : s1.heap.objs.size ≤ b := by
    simp only [List.mem_cons, List.not_mem_nil, or_false] at hb
    rcases hb with rfl | rfl <;> omega
  exact I1.fpOk hb' (I1.hok.fresh hb')
def iStr (te : TE) : TI := fun σ H R => te σ H fun v H1 => ∃ x : Str, v = .str x ∧ (x.cps.all fun c => decide (c < 128)) = true ∧ R (Its x) H1
end
theorem pg_tupK {X : Cx} {K : PySem.W.Frag} {pos : Pos} {es : List Expr} {k : Nat} {t : TGs} {n : Nat} (hc : X.calm = true) (hK : X.K = K) (h : PGs X es t)
    (hn : (assignEach es X.env).length = n) (hst : (assignEach es X.env).findIdx? (·.1) = none) : PG X (.Tuple es k pos) (gTup K n t) := hK ▸ pg_tup hc h hn hst
end L2
set_option Elab.async false
set_option linter.all false
set_option maxRecDepth 100000
set_option maxHeartbeats 2000000
namespace Ken
open PySem L2
inductive Wr : Tm → List Nat → Prop where
  | low : Wr .low [48]
  | ltr (w : Str) : Wr (.ltr w) w.cps.toList
  | neg {a : Tm} {x : List Nat} : Wr a x → Wr (.nd .thn a .low) (126 :: x)
  | nd {k : Kd} {a b : Tm} {x y : List Nat} : Wr a x → Wr b y → Wr (.nd k a b) (40 :: (x ++ (32 :: k.sgn :: 32 :: (y ++ [41]))))
theorem Wr.len : ∀ {t : Tm} {x : List Nat}, Wr t x → t.ok → x.length ≤ 10 * t.parts
  | _, _, .low, _ => by decide
  | _, _, .ltr w, h => by
    show w.cps.toList.length ≤ 10
    have := h.2.1
    omega
  | _, _, .neg (a := a) (x := x) ha, h => by
    have := ha.len h.1
    show x.length + 1 ≤ 10 * (1 + a.parts + 1)
    omega
  | _, _, .nd (k := k) (a := a) (b := b) (x := x) (y := y) ha hb, h => by
    have h1 := ha.len h.1
    have h2 := hb.len h.2
    show (40 :: (x ++ (32 :: k.sgn :: 32 :: (y ++ [41])))).length ≤ 10 * (1 + a.parts + b.parts)
    simp
    omega
inductive Fr where
  | ng
  | op (k : Kd) (b : Tm) (y : List Nat)
  | sn (k : Kd) (a : Tm)
def Fr.ok : Fr → Prop
  | .ng => True
  | .op _ b y => Wr b y ∧ b.ok
  | .sn _ a => a.ok
def restF : List Fr → List Nat
  | [] => []
  | .ng :: fs => restF fs
  | .op k _ y :: fs => 32 :: k.sgn :: 32 :: (y ++ (41 :: restF fs))
  | .sn _ _ :: fs => 41 :: restF fs
def plug : List Fr → Tm → Tm
  | [], t => t
  | .ng :: fs, t => plug fs (.nd .thn t .low)
  | .op k b _ :: fs, t => plug fs (.nd k t b)
  | .sn k a :: fs, t => plug fs (.nd k a t)
def simple : Tm → Prop
  | .nd _ _ _ => False
  | _ => True
def frSign : Fr → Nat
  | .ng => 126
  | _ => 40
def newFr : Fr → Prop
  | .sn _ _ => False
  | _ => True
theorem Wr.open : ∀ {t : Tm} {x : List Nat}, Wr t x → t.ok → ∃ (gs : List Fr) (u : Tm), simple u ∧ u.ok ∧ (∀ g ∈ gs, g.ok ∧ newFr g) ∧ ∀ fs : List Fr, x ++ restF fs = (gs.map frSign) ++ (u.text ++ restF (gs.reverse ++ fs)) ∧ plug (gs.reverse ++ fs) u = plug fs t
  | _, _, .low, _ => ⟨[], .low, trivial, trivial, by simp, fun fs => ⟨rfl, rfl⟩⟩
  | _, _, .ltr w, h => ⟨[], .ltr w, trivial, h, by simp, fun fs => ⟨rfl, rfl⟩⟩
  | _, _, .neg (a := a) (x := x) ha, h => by
    obtain ⟨gs, u, h1, h2, h3, h4⟩ := ha.open h.1
    refine ⟨.ng :: gs, u, h1, h2, ?_, fun fs => ?_⟩
    · intro g hg
      rcases List.mem_cons.mp hg with rfl | hg
      · exact ⟨trivial, trivial⟩
      · exact h3 g hg
    · obtain ⟨e1, e2⟩ := h4 (.ng :: fs)
      rw [List.reverse_cons, List.append_assoc]
      refine ⟨?_, e2⟩
      show 126 :: (x ++ restF fs) = 126 :: (gs.map frSign ++ (u.text ++ restF (gs.reverse ++ (.ng :: fs))))
      rw [← e1]; rfl
  | _, _, .nd (k := k) (a := a) (b := b) (x := x) (y := y) ha hb, h => by
    obtain ⟨gs, u, h1, h2, h3, h4⟩ := ha.open h.1
    refine ⟨.op k b y :: gs, u, h1, h2, ?_, fun fs => ?_⟩
    · intro g hg
      rcases List.mem_cons.mp hg with rfl | hg
      · exact ⟨⟨hb, h.2⟩, trivial⟩
      · exact h3 g hg
    · obtain ⟨e1, e2⟩ := h4 (.op k b y :: fs)
      rw [List.reverse_cons, List.append_assoc]
      refine ⟨?_, e2⟩
      show 40 :: ((x ++ (32 :: k.sgn :: 32 :: (y ++ [41]))) ++ restF fs) = 40 :: (gs.map frSign ++ (u.text ++ restF (gs.reverse ++ (.op k b y :: fs))))
      rw [← e1]
      show 40 :: ((x ++ (32 :: k.sgn :: 32 :: (y ++ [41]))) ++ restF fs) = 40 :: (x ++ (32 :: k.sgn :: 32 :: (y ++ (41 :: restF fs))))
      simp
def DFr (K : PySem.W.Frag) (H : Hp) (v : V) : Fr → Prop
  | .ng => ∃ p, v = .ref p ∧ SqT K H p [.str "~", .non]
  | .op _ _ _ => ∃ p, v = .ref p ∧ SqT K H p [.str "(", .non]
  | .sn k a => ∃ p x, v = .ref p ∧ SqT K H p [.str k.str, x] ∧ IsT K H x a
theorem DFr.keep {K : PySem.W.Frag} {H H' : Hp} (k : KeepT K H H') : ∀ {v : V} {f : Fr}, DFr K H v f → DFr K H' v f
  | _, .ng, ⟨p, e, h⟩ => ⟨p, e, k _ _ h⟩
  | _, .op _ _ _, ⟨p, e, h⟩ => ⟨p, e, k _ _ h⟩
  | _, .sn _ _, ⟨p, x, e, h, i⟩ => ⟨p, x, e, k _ _ h, i.keep k⟩
abbrev DFrs (K : PySem.W.Frag) (H : Hp) : List V → List Fr → Prop := Paired (DFr K H)
theorem DFrs.keep {K : PySem.W.Frag} {H H' : Hp} (k : KeepT K H H') {vs : List V} {fs : List Fr} (h : DFrs K H vs fs) : DFrs K H' vs fs := Paired.mapP h fun _ _ q => q.keep k
theorem drop_add {α : Type} {l : List α} {a : Nat} {p q : List α} (h : l.drop a = p ++ q) : l.drop (a + p.length) = q := by
  rw [← List.drop_drop, h, List.drop_left]
theorem drop_lt {α : Type} {l : List α} {a : Nat} {p q : List α} (ha : a ≤ l.length) (h : l.drop a = p ++ q) : a + p.length ≤ l.length := by
  have := congrArg List.length h
  rw [List.length_drop, List.length_append] at this
  omega
def At (x : Str) (a : Nat) (cs : List Nat) : Prop := x.length ≤ 5000 ∧ a ≤ x.length ∧ x.cps.toList.drop a = cs
theorem At.move {x : Str} {a : Nat} {p q : List Nat} (h : At x a (p ++ q)) : At x (a + p.length) q := by
  refine ⟨h.1, ?_, drop_add h.2.2⟩
  have := drop_lt (by rw [← len_cps]; exact h.2.1) h.2.2
  rw [len_cps]; exact this
theorem At.step {x : Str} {a c : Nat} {q : List Nat} (h : At x a (c :: q)) : At x (a + 1) q := At.move (p := [c]) h
theorem paired_app {α β : Type} {F : α → β → Prop} : ∀ {l l' : List α} {m m' : List β}, Paired F l m → Paired F l' m' → Paired F (l ++ l') (m ++ m')
  | _, _, _, _, .nil, q => q
  | _, _, _, _, .cons h t, q => .cons h (paired_app t q)
end Ken
set_option Elab.async false
set_option linter.all false
set_option maxRecDepth 100000
set_option maxHeartbeats 2000000
namespace Ken
open PySem L2
def DIx (K : PySem.W.Frag) (H : Hp) : V → Itm → Prop
  | v, .inl x => v = .str x
  | v, .inr t => IsT K H v t
theorem DIx.keep {K : PySem.W.Frag} {H H' : Hp} (k : KeepT K H H') : ∀ {v : V} {i : Itm}, DIx K H v i → DIx K H' v i
  | _, .inl _, h => h
  | _, .inr _, h => IsT.keep h k
abbrev IsTd (K : PySem.W.Frag) (H : Hp) : List V → List Tm → Prop := Paired fun v t => IsT K H v t ∧ t.ok ∧ t.parts ≤ 300 ∧ t.deep ≤ 47
theorem IsTd.keep {K : PySem.W.Frag} {H H' : Hp} (k : KeepT K H H') {vs : List V} {ts : List Tm} (h : IsTd K H vs ts) : IsTd K H' vs ts := Paired.mapP h fun _ _ q => ⟨q.1.keep k, q.2⟩
end Ken
set_option Elab.async false
set_option linter.all false
set_option maxRecDepth 100000
set_option maxHeartbeats 2000000
namespace L2
open PySem PySem.Spec PyProof.Rows
section
variable {X : Cx}
theorem vals_of_strs : ∀ {us : List Value} {ys : List Str}, StrsAre us ys → Vals (ys.map V.str) us
  | _, _, .nil => .nil
  | _, _, .cons _ _ t => .cons ⟨_, rfl⟩ (vals_of_strs t)
theorem call_sorted_strs : CallR X (.builtin "sorted") (fun xs H Q => ∃ a ys, xs = [.ref a] ∧ SqL X.K H a (ys.map V.str) ∧ ys.length < 64 ∧ ∀ l ys', H l = none → List.Perm ys' ys → sortedS ys' = true → Q (.ref l) (upd H l (.lst (ys'.map V.str)))) := by
  intro pins s σ H xs us Q I r h
  obtain ⟨a, ys, rfl, hq, hz, q⟩ := h
  obtain ⟨u, rfl, ru⟩ := vals1 r
  cases ru
  obtain ⟨its, r', pl, _⟩ := I.list hq
  have hlen := r'.length
  rw [List.length_map] at hlen
  refine sorted_strs pl.isList (strsAre_of r') (by omega) fun out ss' h1 h2 h3 => ?_
  obtain ⟨e, he⟩ := sortedAll_at s.heap its out
  have hl2 := h2.length_eq
  refine ⟨.ref (s.heap.objs.size + 1), _, I.laid (t' := s.toks) (fun b o q => sortedAll_old q) (Nat.le_succ _) (show ObjOk X.prog X.w _ _ _ (.lst (ss'.map V.str)) from ⟨?_, out.toList, e, vals_of_strs h1, by simpa using he⟩), rfl, q _ ss' (I.hok.fresh (Nat.le_succ _)) h2 h3⟩
  rw [List.length_map, hl2]
  exact Nat.le_trans (Nat.le_of_lt hz) (by decide)
theorem ix_tupK {K : PySem.W.Frag} (hK : X.K = K) : IxR X (rIxT K) := hK ▸ ix_tup
end
end L2
set_option Elab.async false
set_option linter.all false
set_option maxRecDepth 100000
set_option maxHeartbeats 2000000
namespace L2
open PySem PySem.Spec PyProof.Rows
abbrev TK := St → Hp → (Hp → Prop) → Prop
def compW (σ0 : St) (J : It) (g : TG) (tk : TK) (Q : Hp → Prop) (W : Nat → Nat → Hp → Prop) : Prop :=
  ∀ i m H2, W i m H2 → (J.stop i H2 ∧ Q H2) ∨ (J.go i H2 ∧ ∀ x H3, J.yld i H2 x H3 → g x σ0 H3 fun σ4 H4 => Wk σ0 σ4 ∧ tk σ4 H4 fun H5 => ∃ m', m' < m ∧ W (i + 1) m' H5)
def PTn (Y : Cx) (body : Sem Unit) (tk : TK) : Prop := ∀ (pins : List (Addr × Obj)) (s : Shared) (σ : St) (H : Hp) (N : Hp → Prop), Inv Y pins σ H s → tk σ H N →
  wpAny (model Y.prog Y.w) Y.A body (fun _ s' => ∃ σ' H', Inv Y pins σ' H' s' ∧ Wk σ σ' ∧ N H') Y.xe s
def TurnIs (e : Expr) (d : Nat) (tg : Expr) (p : Pos) (acc : Value) (env : Env) (body : Sem Unit) : Prop := ∀ it, compTurn e d it acc env = (standAt p >>= fun _ => pyNext it >>= fun r => match r with
      | none => pure (.done .next)
      | some v => letOwnedTupleGo tg it v >>= fun _ => assign tg env v >>= fun _ => body >>= fun _ => again (.compLoop e d it acc env))
def DenIs (prog : Program) (w : World) (A : Around) (e : Expr) (d : Nat) (acc : Value) (env : Env) : Prop := ∀ it,
  (model prog w).den (.compLoop e d it acc env) = (compTurn e d it acc env).onRaise (fun x => do noteFrame x env; theTreesLotGoes x) ∧ A.under (.compLoop e d it acc env) = A ∧
  (∃ p, (model prog w).den (.compStart e d it acc env) = (compStart e d it acc env).onRaise (fun x => do noteFrame x env; standAt p)) ∧ A.under (.compStart e d it acc env) = A
theorem comp_loop {Y : Cx} {e tg : Expr} {d : Nat} {p : Pos} {g : TG} {tk : TK} {it : Addr} {acc : Value} {body : Sem Unit} {fp : List Addr} {tn : Nat → Heap → Prop} {J : It} {Q : Hp → Prop} {σ0 : St} {R : Result → Shared → Prop} {s : Shared} {i0 m0 : Nat} {H1 : Hp} {W : Nat → Nat → Hp → Prop} {pins : List (Addr × Obj)}
    (hc : Y.calm = true) (hxe : Y.xe = fun _ _ => False) (hden : DenIs Y.prog Y.w Y.A e d acc Y.env) (eq : TurnIs e d tg p acc Y.env body) (hg : PG Y tg g) (hb : PTn Y body tk) (T : Turn Y.prog Y.w Y.K tg J fp it tn)
    (hfp : ∀ (H' : Hp), (∀ b ∈ fp, H' b = none) → ∀ b ∈ fp, FpOk Y pins H' b) (hW : compW σ0 J g tk Q W)
    (hR : ∀ s' H', Inv Y pins σ0 H' s' → Q H' → R (.ok .next) s')
    (I : Inv Y pins σ0 H1 s) (hst : tn i0 s.heap) (hfr : ∀ b ∈ fp, H1 b = none) (w : W i0 m0 H1) :
    codeAny (model Y.prog Y.w) Y.A (.compLoop e d (.ref it) acc Y.env) R s := by
  have nE : ∀ {M : Model} {A : Around} {env : Env} {E : Value → Shared → Prop} (x : Value) (s : Shared), Y.xe x s → notedBy M A env E x s := fun x s z => by rw [hxe] at z; exact z.elim
  refine codeAny_loop rfl (fun n s => ∃ i H2, Inv Y pins σ0 H2 s ∧ tn i s.heap ∧ (∀ b ∈ fp, H2 b = none) ∧ W i n H2) (fun n s hI => ?_) m0 ⟨i0, H1, I, hst, hfr, w⟩
  obtain ⟨i, H2, I2, st2, fr2, w2⟩ := hI
  rw [(hden (.ref it)).1, (hden (.ref it)).2.1]
  refine wpAny_noted ?_
  rw [eq]
  refine wpAny_bind (wpAny_standAt (wpAny_bind ?_))
  rcases hW i n H2 w2 with ⟨stop, q⟩ | ⟨go, step⟩
  · refine thn (T.done Y rfl rfl rfl hc i pins s σ0 H2 _ I2 (hfp H2 fr2) st2 stop) fun r s1 ⟨hr, I3⟩ => ?_
    subst hr
    exact wpAny_pure (hR s1 H2 I3 q)
  · refine thn (T.item Y rfl rfl rfl hc i pins s σ0 H2 _ I2 (hfp H2 fr2) st2 go) fun r s1 ⟨u, hr, h4⟩ => ?_
    subst hr
    refine wpAny_bind (thn h4 fun _ s5 ⟨x, H5, I5, r5, y5, st5, fr5⟩ => ?_)
    have I5' := I5.pinned (hfp H5 fr5) (T.obj _ _ st5)
    refine wpAny_bind (wpAny_mono (hg _ s5 σ0 H5 x u _ I5' r5 (step x H5 y5)) (fun _ s6 ⟨σ6, H6, I6, hw6, q6⟩ => ?_) nE)
    refine wpAny_bind (wpAny_mono (hb _ s6 σ6 H6 _ I6 q6) (fun _ s8 ⟨σ8, H8, I8, hw8, m', hm', w7⟩ => ?_) nE)
    refine wpAny_pure ⟨rfl, m', hm', i + 1, H8, ?_, ?_, fun b hb => ?_, w7⟩
    · have := hw6.trans hw8
      exact I8.unpinned.weak this.1.symm this.2
    · exact T.keep _ _ _ st5 fun b hb o e => (I8.pin (b, o) (List.mem_append_right _ (List.mem_append_right _ (mem_pinsAt hb e)))).1
    · obtain ⟨o, e, dd⟩ := T.obj _ _ st5 b hb
      exact (I8.pin (b, o) (List.mem_append_right _ (List.mem_append_right _ (mem_pinsAt hb e)))).2.1
theorem codeAny_compStart_gen {prog : Program} {w : World} {A : Around} {R : Result → Shared → Prop} {s : Shared} {e : Expr} {d : Nat} {g : Comprehension} {it acc : Value} {env : Env} (hden : DenIs prog w A e d acc env) (hcl : (clausesOf e)[d]? = some g) (ha : g.is_async = 0)
    (h0 : codeAny (model prog w) A (.compLoop e d it acc env) R s)
    (h : wpAny (model prog w) A (pyIter it) (fun it' s' => codeAny (model prog w) A (.compLoop e d it' acc env) R s') (notedBy (model prog w) A env fun x s' => R (.error x) s') s) :
    codeAny (model prog w) A (.compStart e d it acc env) R s := by
  refine codeAny_of_tree ?_
  obtain ⟨p, ep⟩ := (hden it).2.2.1
  rw [ep, (hden it).2.2.2]
  refine wpAny_notedAt ?_
  unfold compStart
  rw [hcl]
  have e1 : ((some g).elim false fun x => x.is_async != 0) = false := by show (g.is_async != 0) = false; rw [ha]; rfl
  rw [e1, if_neg Bool.false_ne_true]
  refine wpAny_bind (wpAny_askSetting ?_)
  refine wpAny_ite ?_
  split
  · exact wpAny_pure ⟨rfl, h0⟩
  · refine wpAny_bind (wpAny_rule (wpAny_bind (wpAny_standAt (wpAny_bind (wpAny_mono h (fun it' s' h' => wpAny_pure ⟨rfl, h'⟩) fun _ _ z => z)))))
theorem den_L {prog : Program} {w : World} {A : Around} {elt : Expr} {gens : List Comprehension} {scope : Scope} {pos : Pos} {d : Nat} {acc : Value} {env : Env} : DenIs prog w A (.ListComp elt gens scope pos) d acc env := fun it => ⟨rfl, rfl, ⟨_, rfl⟩, rfl⟩
theorem den_S {prog : Program} {w : World} {A : Around} {elt : Expr} {gens : List Comprehension} {scope : Scope} {pos : Pos} {d : Nat} {acc : Value} {env : Env} : DenIs prog w A (.SetComp elt gens scope pos) d acc env := fun it => ⟨rfl, rfl, ⟨_, rfl⟩, rfl⟩
theorem den_D {prog : Program} {w : World} {A : Around} {k v : Expr} {gens : List Comprehension} {scope : Scope} {pos : Pos} {d : Nat} {acc : Value} {env : Env} : DenIs prog w A (.DictComp k v gens scope pos) d acc env := fun it => ⟨rfl, rfl, ⟨_, rfl⟩, rfl⟩
def emitL (elt : Expr) (acc : Value) (env : Env) : Sem Unit := eval elt env >>= fun x => call (.builtin "list.append") [acc, x] >>= fun _ => pure ()
def emitS (elt : Expr) (acc : Value) (env : Env) : Sem Unit := eval elt env >>= fun v => standAt elt.pos >>= fun _ => call (.builtin "set.add") [acc, v] >>= fun _ => pure ()
def emitD (k v : Expr) (d : Addr) (env : Env) : Sem Unit := eval k env >>= fun kv => holding [kv] (eval v env) >>= fun vv => standAt { line := k.pos.line, col := k.pos.col, endLine := v.pos.endLine, endCol := v.pos.endCol } >>= fun _ => holding [kv, vv] (dictSet d kv vv)
def testB (c : Expr) (env : Env) (body : Sem Unit) : Sem Unit := PySem.isTrue c env (eval c env) >>= fun ok => if ok = true then body else pure ()
def nestB (e : Expr) (d : Nat) (iter : Expr) (acc : Value) (env : Env) : Sem Unit := eval iter env >>= fun x => standAt iter.pos >>= fun _ => foldedSetIterable iter env x >>= fun x => holding [x] (pyIter x) >>= fun it => runOwn (.compStart e d it acc env) env >>= fun _ => pure ()
theorem turn_L1 {elt tg iter c tg2 iter2 : Expr} {scope : Scope} {pos : Pos} {acc : Value} {env : Env} : TurnIs (.ListComp elt [⟨tg, iter, [c], 0⟩] scope pos) 0 tg iter.pos acc env (testB c env (emitL elt acc env)) := fun it => by
  simp only [compTurn, testB, emitL, emitS, emitD, nestB, List.getElem?_cons_zero, List.getElem?_cons_succ, List.getElem?_nil, List.forIn_cons, List.forIn_nil, bind_assoc, pure_bind, if_true, bne_self_eq_false, Bool.false_eq_true, if_false, Nat.zero_add, Nat.reduceAdd]
  refine bind_congr fun _ => bind_congr fun r => ?_
  cases r with
  | none => rfl
  | some v =>
    refine bind_congr fun _ => bind_congr fun _ => ?_
    first
      | rfl
      | (refine bind_congr fun ok => ?_
         cases ok <;> simp)
      | simp
theorem turn_S1 {elt tg iter c tg2 iter2 : Expr} {scope : Scope} {pos : Pos} {acc : Value} {env : Env} : TurnIs (.SetComp elt [⟨tg, iter, [c], 0⟩] scope pos) 0 tg iter.pos acc env (testB c env (emitS elt acc env)) := fun it => by
  simp only [compTurn, testB, emitL, emitS, emitD, nestB, List.getElem?_cons_zero, List.getElem?_cons_succ, List.getElem?_nil, List.forIn_cons, List.forIn_nil, bind_assoc, pure_bind, if_true, bne_self_eq_false, Bool.false_eq_true, if_false, Nat.zero_add, Nat.reduceAdd]
  refine bind_congr fun _ => bind_congr fun r => ?_
  cases r with
  | none => rfl
  | some v =>
    refine bind_congr fun _ => bind_congr fun _ => ?_
    first
      | rfl
      | (refine bind_congr fun ok => ?_
         cases ok <;> simp)
      | simp
theorem turn_S2a00 {elt tg iter c c2 tg2 iter2 : Expr} {scope : Scope} {pos : Pos} {acc : Value} {env : Env} : TurnIs (.SetComp elt [⟨tg, iter, [], 0⟩, ⟨tg2, iter2, [], 0⟩] scope pos) 0 tg iter.pos acc env (nestB (.SetComp elt [⟨tg, iter, [], 0⟩, ⟨tg2, iter2, [], 0⟩] scope pos) 1 iter2 acc env) := fun it => by
  simp only [compTurn, testB, emitL, emitS, emitD, nestB, List.getElem?_cons_zero, List.getElem?_cons_succ, List.getElem?_nil, List.forIn_cons, List.forIn_nil, bind_assoc, pure_bind, if_true, bne_self_eq_false, Bool.false_eq_true, if_false, Nat.zero_add, Nat.reduceAdd]
  refine bind_congr fun _ => bind_congr fun r => ?_
  cases r with
  | none => rfl
  | some v =>
    refine bind_congr fun _ => bind_congr fun _ => ?_
    first
      | rfl
      | (refine bind_congr fun ok => ?_
         cases ok <;> simp)
      | simp
theorem turn_S2b00 {elt tg iter c c2 tg2 iter2 : Expr} {scope : Scope} {pos : Pos} {acc : Value} {env : Env} : TurnIs (.SetComp elt [⟨tg, iter, [], 0⟩, ⟨tg2, iter2, [], 0⟩] scope pos) 1 tg2 iter2.pos acc env (emitS elt acc env) := fun it => by
  simp only [compTurn, testB, emitL, emitS, emitD, nestB, List.getElem?_cons_zero, List.getElem?_cons_succ, List.getElem?_nil, List.forIn_cons, List.forIn_nil, bind_assoc, pure_bind, if_true, bne_self_eq_false, Bool.false_eq_true, if_false, Nat.zero_add, Nat.reduceAdd]
  refine bind_congr fun _ => bind_congr fun r => ?_
  cases r with
  | none => rfl
  | some v =>
    refine bind_congr fun _ => bind_congr fun _ => ?_
    first
      | rfl
      | (refine bind_congr fun ok => ?_
         cases ok <;> simp)
      | simp
theorem turn_D0 {elt tg iter c tg2 iter2 : Expr} {a : Addr} {scope : Scope} {pos : Pos} {env : Env} : TurnIs (.DictComp elt iter2 [⟨tg, iter, [], 0⟩] scope pos) 0 tg iter.pos (.ref a) env (emitD elt iter2 a env) := fun it => by
  simp only [compTurn, testB, emitL, emitS, emitD, nestB, List.getElem?_cons_zero, List.getElem?_cons_succ, List.getElem?_nil, List.forIn_cons, List.forIn_nil, bind_assoc, pure_bind, if_true, bne_self_eq_false, Bool.false_eq_true, if_false, Nat.zero_add, Nat.reduceAdd]
  refine bind_congr fun _ => bind_congr fun r => ?_
  cases r with
  | none => rfl
  | some v =>
    refine bind_congr fun _ => bind_congr fun _ => ?_
    first
      | rfl
      | (refine bind_congr fun ok => ?_
         cases ok <;> simp)
      | simp
def kApp (te : TE) (acc : Addr) : TK := fun σ H N => te σ H fun y H5 => ∃ ys, H5 acc = some (.lst ys) ∧ ys.length < sizeLine ∧ N (upd H5 acc (.lst (ys ++ [y])))
def kTest (tc : TT) (tk : TK) : TK := fun σ H N => tc σ H fun b H1 => if b = true then tk σ H1 N else N H1
def kNest (wi : TI) (g : TG) (tk : TK) : TK := fun σ H N => wi σ H fun J H1 => ∃ W : Nat → Nat → Hp → Prop, (∃ m, W 0 m H1) ∧ compW σ J g tk N W
section
variable {Y : Cx}
theorem pk_emitL {elt : Expr} {te : TE} {acc : Addr} (he : PE Y elt te) : PTn Y (emitL elt (.ref acc) Y.env) (kApp te acc) := by
  intro pins s σ H N I h
  refine wpAny_bind (thn (he pins s σ H _ I h) fun v s7 ⟨y, H7, I7, r7, ys, ha7, hlen, n⟩ => ?_)
  refine wpAny_bind (thn (mt_append (X := Y) pins s7 σ H7 (.ref acc) [y] (.ref acc) [v] (fun _ H8 => H8 = upd H7 acc (.lst (ys ++ [y]))) I7 rfl (.cons r7 .nil) ⟨acc, ys, y, rfl, rfl, ha7, hlen, rfl⟩) fun _ s8 ⟨_, H8, I8, _, e8⟩ => ?_)
  subst e8
  exact wpAny_pure ⟨σ, _, I8, Wk.refl _, n⟩
theorem pk_test {c : Expr} {tc : TT} {body : Sem Unit} {tk : TK} (ht : PT Y c tc) (hb : PTn Y body tk) : PTn Y (testB c Y.env body) (kTest tc tk) := by
  intro pins s σ H N I h
  refine wpAny_bind (thn (ht pins s σ H _ I h) fun b s1 ⟨H1, I1, q1⟩ => ?_)
  cases b with
  | true =>
    rw [if_pos rfl] at q1 ⊢
    exact hb pins s1 σ H1 N I1 q1
  | false =>
    rw [if_neg Bool.false_ne_true] at q1 ⊢
    exact wpAny_pure ⟨σ, H1, I1, Wk.refl _, q1⟩
theorem pk_nest {e tg2 iter2 : Expr} {p2 : Pos} {ifs2 : List Expr} {acc : Value} {wi : TI} {g2 : TG} {tk2 : TK} {body2 : Sem Unit} (hc : Y.calm = true) (hxe : Y.xe = fun _ _ => False) (hden : DenIs Y.prog Y.w Y.A e 1 acc Y.env) (hcl : (clausesOf e)[1]? = some ⟨tg2, iter2, ifs2, 0⟩)
    (hi : PI Y tg2 iter2 wi) (hs : ∀ x, foldedSetIterable iter2 Y.env x = pure x) (eq : TurnIs e 1 tg2 p2 acc Y.env body2) (hg : PG Y tg2 g2) (hb : PTn Y body2 tk2) :
    PTn Y (nestB e 1 iter2 acc Y.env) (kNest wi g2 tk2) := by
  intro pins s σ H N I h
  refine wpAny_bind (thn (hi pins s σ H _ I h) fun v s1 h1 => ?_)
  refine wpAny_bind (wpAny_standAt (wpAny_bind ?_))
  rw [hs]
  refine wpAny_pure (wpAny_bind (wpAny_holding (thn h1 fun itv s2 h2 => ?_)))
  obtain ⟨it, fp, tn, J, H2, e0, I2, T, st2, f2, W, ⟨m0, w0⟩, hW⟩ := h2
  subst e0
  refine wpAny_bind (wpAny_runOwn ?_)
  have loop : codeAny (model Y.prog Y.w) Y.A (.compLoop e 1 (.ref it) acc Y.env) (fun r s' => match r with
      | .ok f => wpAny (model Y.prog Y.w) Y.A (pure ()) (fun _ s' => ∃ σ' H', Inv Y pins σ' H' s' ∧ Wk σ σ' ∧ N H') Y.xe s'
      | .error x => cameBackBy (model Y.prog Y.w) Y.A Y.env Y.xe x s') s2 := by
    refine comp_loop (Y := Y) (pins := pins) (Q := N) hc hxe hden eq hg hb T (fun H' hn b hb => ?_) hW (fun s' H' I' q => wpAny_pure ⟨σ, H', I', Wk.refl _, q⟩) I2 st2 (fun b hb => (f2 b hb).1) w0
    obtain ⟨f0, f1, f3, f4, f5, f6⟩ := f2 b hb
    exact ⟨hn b hb, f1, f3, f4, f5, f6⟩
  exact codeAny_compStart_gen hden hcl rfl loop (T.self _ _ _ _ _ st2 loop)
end
def tComp (nt : Nat) (ci : List Nat) (wi : TI) (g : TG) (tk : Addr → TK) (o0 : HO) : TE := fun σ H Q => wi σ H fun J H1 => ∀ acc, H1 acc = none → ∃ W : Nat → Nat → Hp → Prop, (∃ m, W 0 m (upd H1 acc o0)) ∧ compW (capt nt ci σ) J g (tk acc) (fun H2 => Q (.ref acc) H2) W
section
variable {X : Cx} {scope : Scope} {cl : List (Str × Addr)} {N' : List Str} {nt : Nat} {ci : List Nat} {pins : List (Addr × Obj)} {σ : St} {H : Hp} {s : Shared}
theorem blk_startO {o0 : HO} (B : BlkOk X scope cl N' nt ci) (I : Inv X pins σ H s) {fp : List Addr} (hf : ∀ b ∈ fp, FpOk X pins H b) (ho : ∀ b ∈ fp, ∃ o, s.heap.get? b = some o) {C acc : Addr} {h1 : Heap} {tk : Nat}
    (hacc : acc = s.heap.objs.size) (hC : C = s.heap.objs.size + 1) (k : ∀ b u, s.heap.get? b = some u → h1.get? b = some u) (ns : h1.Ns C fun _ => none) (ha : ObjOk X.prog X.w (upd H acc o0) h1 acc o0) :
    Inv (blk X N' scope cl s H C fp) [] (capt nt ci σ) (upd H acc o0) { s with heap := h1, toks := tk } := by
  have hn : H acc = none := I.hok.fresh (by rw [hacc]; exact Nat.le_refl _)
  have hnC : H C = none := I.hok.fresh (by rw [hC]; exact Nat.le_succ _)
  have cellLt : ∀ x c, cl.lookup x = some c → c < s.heap.objs.size := fun x c e => by
    obtain ⟨v, q⟩ := I.cell x c (B.sub x c e)
    exact q.lt
  refine ⟨⟨I.ok.mod, B.kind, I.ok.glob, I.ok.blt, ?_, fun x y c e1 e2 => I.ok.inj x y c (B.sub _ _ e1) (B.sub _ _ e2), fun x hx => B.has x hx, fun x c (z : false = true) => Bool.noConfusion z, fun hc => I.ok.hd hc, I.ok.frames, .inl rfl, fun b hb => ?_, I.bs, ?_, fun b o e hb => ?_, fun b hb => ?_, I.stack, fun b hb => I.stkFree b hb⟩,
    rfl, I.bare, Un.laid (a := acc) (o := o0) k (by rw [hacc]; exact Nat.le_refl _) hn, ⟨_, ns, fun i x v e1 e2 e3 => ?_⟩, fun x c e => ?_, ?_, fun x c e => ?_, fun p hp => absurd (show p ∈ ([] : List (Addr × Obj)) from hp) (by simp), I.hok.laid k (by rw [hacc]; exact Nat.le_refl _) ha, ?_⟩
  · show s.heap.objs.size ≤ C
    rw [hC]; exact Nat.le_succ _
  · obtain ⟨f0, f1, f2, f3, f4, f5⟩ := hf b hb
    obtain ⟨o, e⟩ := ho b hb
    refine ⟨?_, fun x c e' => f4 x c (B.sub x c e')⟩
    show b ≠ C
    rw [hC]
    exact Nat.ne_of_lt (Nat.lt_succ_of_lt (Heap.lt_size e))
  · exact Nat.le_trans I.ok.bsz I.sz
  · obtain ⟨f0, f1, f2, f3, f4, f5⟩ := hf b hb
    rcases f3 with z | z
    · exact I.ok.noex b o e z
    · exact absurd (Nat.lt_of_lt_of_le (Heap.lt_size e) (Nat.le_trans I.ok.bsz z)) (Nat.lt_irrefl _)
  · intro z
    obtain ⟨f0, f1, f2, f3, f4, f5⟩ := hf b hb
    rcases List.mem_cons.mp (I.stkSub b z) with y | y
    · exact f1 y
    · exact f2 y
  · -- the names
    obtain ⟨m, hm, hl⟩ := I.loc
    unfold capt at e2
    by_cases hi : i < nt
    · rw [List.getElem?_append_left (by simpa using hi), List.getElem?_replicate] at e2
      split at e2 <;> cases e2
    · rw [List.getElem?_append_right (by simpa using hi), List.length_replicate, List.getElem?_map] at e2
      cases q : ci[i - nt]? with
      | none => rw [q] at e2; cases e2
      | some j =>
        rw [q] at e2
        have e2' : (σ[j]?).join = some v := Option.some.inj e2
        obtain ⟨y, a1, a2, a3, a4⟩ := B.cap _ j q
        have ei : nt + (i - nt) = i := by omega
        rw [ei, show N'[i]? = some x from e1] at a1
        cases a1
        have e2'' : σ[j]? = some (some v) := by
          cases z : σ[j]? with
          | none => rw [z] at e2'; cases e2'
          | some w => rw [z] at e2'; exact congrArg some e2'
        obtain ⟨u, r, l⟩ := hl j x v a2 e2'' (.inr (.inl a3))
        refine ⟨u, r, .inr ⟨a4, ?_⟩⟩
        rcases l with ⟨kk, _⟩ | ⟨_, c, c1, c2⟩
        · have kk' : X.env.scope.names.lookup x = some .local := kk
          rw [a3] at kk'; cases kk'
        · obtain ⟨c', ec⟩ := B.has x a4
          have := B.sub x c' ec
          rw [c1] at this; cases this
          exact ⟨c, ec, let ⟨o, e, d⟩ := c2; ⟨o, k _ _ e, d⟩⟩
  · obtain ⟨v, q⟩ := I.cell x c (B.sub x c e)
    exact ⟨v, let ⟨o, e, d⟩ := q; ⟨o, k _ _ e, d⟩⟩
  · show upd H acc o0 C = none
    rw [upd_ne (by rw [hacc, hC]; exact Nat.succ_ne_self _)]; exact hnC
  · have lt := cellLt x c e
    rw [upd_ne (by rw [hacc]; exact Nat.ne_of_lt lt)]
    exact I.freeC x c (B.sub x c e)
  · show (capt nt ci σ).length = N'.length
    unfold capt
    rw [List.length_append, List.length_replicate, List.length_map, B.len]
theorem cg_core {e : Expr} {gs : List Comprehension} {ifs : List Expr} {body : Addr → Env → Sem Unit} {newAcc : Sem Value} {ob : Obj} {o0 : HO} {p0 : Pos} {tk : Addr → TK} {tg iter : Expr} {pos' : Pos} {wi : TI} {g : TG} {use : Option (Value → Sem Unit)} {Q : VK} {Qf : Value → Shared → Prop} (B : BlkOk X scope cl N' nt ci) (hc : X.calm = true) (hi : PI X tg iter wi)
    (hg : ∀ s H C ex, PG (blk X N' scope cl s H C ex) tg g) (hcl : clausesOf e = ⟨tg, iter, ifs, 0⟩ :: gs) (hden : ∀ acc env, DenIs X.prog X.w X.A e 0 acc env) (htn : ∀ a env, TurnIs e 0 tg p0 (.ref a) env (body a env))
    (hb : ∀ s H C ex a, PTn (blk X N' scope cl s H C ex) (body a (blk X N' scope cl s H C ex).env) (tk a)) (hnew : ∀ {M : Model} {A : Around} {E : Value → Shared → Prop} {s : Shared} {Q : Value → Shared → Prop}, Q (.ref s.heap.objs.size) { s with heap := s.heap.push ob } → wpAny M A newAcc Q E s)
    (hfree : ob.isFreed = false) (hobj : ∀ (H : Hp) (h : Heap) (a : Addr), h.get? a = some ob → sysModules < a → ObjOk X.prog X.w (upd H a o0) h a o0) (hs : ∀ x, foldedSetIterable iter X.env x = pure x) (I : Inv X pins σ H s) (h : tComp nt ci wi g tk o0 σ H Q)
    (fin : ∀ (acc C : Addr) (s' : Shared) (H' : Hp), Inv X pins σ H' s' → Q (.ref acc) H' → (∃ m, s'.heap.Ns C m) → FpOk X pins H' C → (∃ o, s'.heap.get? C = some o ∧ ∀ v, o.data ≠ .cell v) → compPost (model X.prog X.w) X.A X.xe use Qf (.ref acc) C (.ok .next) s') :
    wpAny (model X.prog X.w) X.A (comprehension e scope X.env pos' newAcc false (eval iter X.env) use) Qf X.xe s := by
  refine wpAny_comprehension_free (use := use) hcl hs B.clos B.kind B.names (thn (hi pins s σ H _ I h) fun v s1 h1 => thn h1 fun itv s2 h2 => ?_)
  obtain ⟨it, fp, tn, J, H2, e, I2, T, st2, f2, q2⟩ := h2
  subst e
  have hacc : H2 s2.heap.objs.size = none := I2.hok.fresh (Nat.le_refl _)
  obtain ⟨W, ⟨m0, w0⟩, hW⟩ := q2 s2.heap.objs.size hacc
  refine hnew (wpAny_newFunctionEnv B.cell (by intro y hy; simp at hy) (fun h₁ hns₁ hsb₁ => ?_) B.kind)
  dsimp only at hns₁ hsb₁ ⊢
  have hCs : (s2.heap.push ob).objs.size = s2.heap.objs.size + 1 := Heap.size_push ..
  have k1 : ∀ b u, s2.heap.get? b = some u → h₁.get? b = some u := fun b u e => hsb₁.extBut b u (by rw [hCs]; exact Nat.ne_of_lt (Nat.lt_succ_of_lt (Heap.lt_size e))) (Heap.get?_push_of_some _ (Heap.get?_push_of_some _ e))
  have a1 : h₁.get? s2.heap.objs.size = some ob := hsb₁.extBut _ _ (by rw [hCs]; exact Nat.ne_of_lt (Nat.lt_succ_self _)) (Heap.get?_push_of_some _ (Heap.get?_push_size _ hfree))
  rw [hCs] at hns₁ ⊢
  have hsys : sysModules < s2.heap.objs.size := I2.big
  have I3 := blk_startO (o0 := o0) (tk := s2.toks + ([] : List (Str × Value)).length) B I2 f2 (fun b hb => let ⟨o, e, _⟩ := T.obj _ _ st2 b hb; ⟨o, e⟩) rfl rfl k1 (by simpa using hns₁) (hobj _ _ _ a1 hsys)
  have hfpB : ∀ (H' : Hp), (∀ b ∈ fp, H' b = none) → ∀ b ∈ fp, FpOk (blk X N' scope cl s2 H2 (s2.heap.objs.size + 1) fp) [] H' b := fun H' hn b hb => by
    obtain ⟨f0, f1, f3, f4, f5, f6⟩ := f2 b hb
    obtain ⟨o, e, _⟩ := T.obj _ _ st2 b hb
    refine ⟨hn b hb, ?_, fun z => ?_, .inl hb, fun x c e' => f5 x c (B.sub x c e'), fun p hp => absurd (show p ∈ ([] : List (Addr × Obj)) from hp) (by simp)⟩
    · exact Nat.ne_of_lt (Nat.lt_succ_of_lt (Heap.lt_size e))
    · rcases List.mem_cons.mp (I2.stkSub b z) with y | y
      · exact f1 y
      · exact f3 y
  have hfr3 : ∀ b ∈ fp, upd H2 s2.heap.objs.size o0 b = none := fun b hb => by
    obtain ⟨o, e, _⟩ := T.obj _ _ st2 b hb
    rw [upd_ne (Nat.ne_of_lt (Heap.lt_size e))]; exact (f2 b hb).1
  have st3 : tn 0 h₁ := T.keep _ _ _ st2 fun b _ o e => k1 b o e
  have loop : codeAny (model X.prog X.w) X.A (.compLoop e 0 (.ref it) (.ref s2.heap.objs.size) (compEnvC scope cl (s2.heap.objs.size + 1) X.env))
      (compPost (model X.prog X.w) X.A X.xe use Qf (.ref s2.heap.objs.size) (s2.heap.objs.size + 1)) { s2 with heap := h₁, toks := s2.toks + ([] : List (Str × Value)).length } := by
    refine comp_loop (Y := blk X N' scope cl s2 H2 (s2.heap.objs.size + 1) fp) (Q := fun H' => Q (.ref s2.heap.objs.size) H') hc rfl (hden _ _) (htn _ _) (hg _ _ _ _) (hb _ _ _ _ _) T hfpB hW (fun s' H' I' q => ?_) I3 st3 hfr3 w0
    have un := I'.base
    have ns := I'.loc
    have fC : H' (s2.heap.objs.size + 1) = none := I'.free
    have I4 : Inv X pins σ H' s' := I2.call' I'.os un I'.hok I'.bare fun b hb => by
      obtain ⟨f0, f1, f3, f4, f5, f6⟩ := f2 b hb
      exact ⟨f4, f1, f5, f6⟩
    obtain ⟨m, hm, _⟩ := ns
    have hm' : s'.heap.Ns (s2.heap.objs.size + 1) m := hm
    refine fin _ _ s' H' I4 q ⟨m, hm'⟩ (I2.fpOk (Nat.le_succ _) fC) ?_
    obtain ⟨o, es, ep, e, d, _⟩ := hm'
    exact ⟨o, e, fun v z => by rw [d] at z; cases z⟩
  exact codeAny_compStart_gen (hden _ _) (by rw [hcl]; rfl) rfl loop (T.self _ _ _ _ _ st3 loop)
theorem lst_obj {P : Program} {w : World} (H : Hp) (h : Heap) (a : Addr) (e : h.get? a = some { cls := .type "list", dict := none, data := .seq ([] : List Value).toArray }) (_ : sysModules < a) : ObjOk P w (upd H a (.lst [])) h a (.lst []) := ⟨Nat.zero_le _, [], 0, .nil, e⟩
theorem pe_lcG {elt tg iter : Expr} {ifs : List Expr} {gs : List Comprehension} {pos p0 : Pos} {wi : TI} {g : TG} {tk : Addr → TK} {body : Addr → Env → Sem Unit} (B : X.Ok → BlkOk X scope cl N' nt ci) (hc : X.calm = true) (hi : PI X tg iter wi)
    (hg : ∀ s H C ex, PG (blk X N' scope cl s H C ex) tg g) (htn : ∀ a env, TurnIs (.ListComp elt (⟨tg, iter, ifs, 0⟩ :: gs) scope pos) 0 tg p0 (.ref a) env (body a env))
    (hb : ∀ s H C ex a, PTn (blk X N' scope cl s H C ex) (body a (blk X N' scope cl s H C ex).env) (tk a)) (hs : ∀ x, foldedSetIterable iter X.env x = pure x := by intro _; rfl) :
    PE X (.ListComp elt (⟨tg, iter, ifs, 0⟩ :: gs) scope pos) (tComp nt ci wi g tk (.lst [])) := by
  intro pins s σ H Q I h
  rw [eval_ListComp]
  refine cg_core (B I.ok) hc hi hg rfl (fun _ _ => den_L) htn hb (fun h => wpAny_newObj_type h) rfl lst_obj hs I h fun acc C s' H' I' q hm hf ho => ?_
  obtain ⟨m, hm⟩ := hm
  obtain ⟨f0, f1, f2, f3, f4, f5⟩ := hf
  exact ⟨m, hm, fun h' sb => ⟨.ref acc, H', I'.turned (t' := s'.toks) (fun b o hb e => (sb.2 b hb).trans e) f0 f1 f3 f4 f5, rfl, q⟩⟩
end
end L2
set_option Elab.async false
set_option linter.all false
set_option maxRecDepth 100000
set_option maxHeartbeats 2000000
namespace Ken
open PySem L2
section
variable {n : Nat} {lt : Nat → Nat → Bool} {cmp : Nat → Nat → (Bool → Shared → Prop) → Shared → Prop} {S : Shared → Prop}
end
end Ken
set_option Elab.async false
set_option linter.all false
set_option maxRecDepth 100000
set_option maxHeartbeats 2000000
namespace L2
open PySem PySem.Spec PyProof.Rows
theorem next_key {prog : Program} {w : World} {A : Around} {E : Value → Shared → Prop} {s : Shared} {it d : Addr} {i ep : Nat} {es : Array DictEntry} {od : Obj} {e : DictEntry} {Q : Option Value → Shared → Prop} (hit : s.heap.IsKeyIter it d i es.size ep) (hod : s.heap.get? d = some od) (hdd : od.data = .dict es ep) (he : es[i]? = some e)
    (hQ : ∀ h', h'.IsKeyIter it d (i + 1) es.size ep → Heap.SameBut it s.heap h' → Q (some e.key) { s with heap := h' }) : wpAny (model prog w) A (pyNext (.ref it)) Q E s := by
  obtain ⟨o, ho, hc, hd⟩ := id hit
  refine wpAny_bind (wpAny_attempt (wpAny_callSpecial?_slot hit.typeIs F.slot_dict_keyiterator_next (wpAny_call_entry F.slot_dict_keyiterator_next hit.typeIs F.entry_dict_keyiterator_next ?_ (F.args_dict_keyiterator_next_1 _))))
  refine wpAny_bind (wpAny_pure (wpAny_bind (wpAny_bind (wpAny_bind (wpAny_typeNameOfWhole_keyiter hit.typeIs (wpAny_pure (wpAny_bind (wpAny_fieldsOf ho hd ?_))))))))
  have hown : Builtin.Dict_items.ownsTuple "dict_keyiterator" = false := by decide
  simp only [hown, Bool.false_eq_true, if_false, Nat.zero_add]
  dsimp only [List.drop, List.take]
  rw [if_neg (show ¬ ((Value.ref d == Value.none) = true) from Bool.false_ne_true)]
  refine wpAny_bind (wpAny_pure (wpAny_bind (wpAny_dictEntries hod hdd ?_)))
  rw [if_neg (by simp)]
  refine wpAny_bind (wpAny_pure (wpAny_bind (wpAny_dictEpoch hod hdd ?_)))
  rw [if_neg (by simp)]
  refine wpAny_pure ?_
  dsimp only
  rw [if_neg (by omega), Int.toNat_natCast, he]
  dsimp only
  refine wpAny_bind (wpAny_bind (wpAny_typeNameOfWhole_keyiter hit.typeIs (wpAny_pure ?_)))
  refine wpAny_bind (wpAny_isOneOf_keyiter hit.typeIs ?_)
  simp only [hown, Bool.false_eq_true, if_false, Nat.zero_add]
  refine wpAny_bind (wpAny_setField ho hd (by simp) ?_)
  split
  · rename_i h; exact absurd h (by decide)
  have hit' : (s.heap.update it (Obj.mapFields fun x => x.setIfInBounds 1 (rawInt ((i : Int) + 1)))).IsKeyIter it d (i + 1) es.size ep := by
    obtain ⟨c0, d0, dat, sl⟩ := o
    dsimp only at hc hd
    subst hc hd
    exact ⟨_, Heap.get?_update_self _ ho rfl, rfl, rfl⟩
  refine wpAny_bind (wpAny_holding (wpAny_bind (wpAny_isOneOf_keyiter hit'.typeIs ?_)))
  rw [if_pos (by decide)]
  exact wpAny_pure (wpAny_pure ⟨_, rfl, wpAny_pure (hQ _ hit' (Heap.SameBut.update _ _ _))⟩)
theorem next_key_end {prog : Program} {w : World} {A : Around} {E : Value → Shared → Prop} {s : Shared} {it d : Addr} {i ep : Nat} {es : Array DictEntry} {od : Obj} {Q : Option Value → Shared → Prop} (hh : A.handled = none) (hit : s.heap.IsKeyIter it d i es.size ep) (hod : s.heap.get? d = some od) (hdd : od.data = .dict es ep) (he : es[i]? = none)
    (hQ : ∀ h', Heap.ExtBut it s.heap h' → Q none { s with heap := h' }) : wpAny (model prog w) A (pyNext (.ref it)) Q E s := by
  obtain ⟨o, ho, hc, hd⟩ := id hit
  refine wpAny_bind (wpAny_attempt (wpAny_callSpecial?_slot hit.typeIs F.slot_dict_keyiterator_next (wpAny_call_entry F.slot_dict_keyiterator_next hit.typeIs F.entry_dict_keyiterator_next ?_ (F.args_dict_keyiterator_next_1 _))))
  refine wpAny_bind (wpAny_pure (wpAny_bind (wpAny_bind (wpAny_bind (wpAny_typeNameOfWhole_keyiter hit.typeIs (wpAny_pure (wpAny_bind (wpAny_fieldsOf ho hd ?_))))))))
  have hown : Builtin.Dict_items.ownsTuple "dict_keyiterator" = false := by decide
  simp only [hown, Bool.false_eq_true, if_false, Nat.zero_add]
  dsimp only [List.drop, List.take]
  rw [if_neg (show ¬ ((Value.ref d == Value.none) = true) from Bool.false_ne_true)]
  refine wpAny_bind (wpAny_pure (wpAny_bind (wpAny_dictEntries hod hdd ?_)))
  rw [if_neg (by simp)]
  refine wpAny_bind (wpAny_pure (wpAny_bind (wpAny_dictEpoch hod hdd ?_)))
  rw [if_neg (by simp)]
  refine wpAny_pure ?_
  dsimp only
  rw [if_neg (by omega), Int.toNat_natCast, he]
  dsimp only
  refine wpAny_bind (wpAny_bind (wpAny_typeNameOfWhole_keyiter hit.typeIs (wpAny_pure ?_)))
  simp only [hown, Bool.false_eq_true, if_false, Nat.zero_add]
  refine wpAny_bind (wpAny_setField ho hd (by simp) ?_)
  refine wpAny_bind (wpAny_bind (wpAny_newObj_type ?_))
  refine wpAny_bind (wpAny_of_eq (show firstArgMember (.type "StopIteration") [] = pure .none from rfl) ?_)
  refine wpAny_newObj_type ?_
  refine wpAny_bind (wpAny_handled ?_)
  have hh' : A.in1.handled = none := hh
  rw [hh']
  refine wpAny_throw (wpAny_bind (wpAny_isInstance (T := "StopIteration") (U := "StopIteration") (b := true) ⟨_, Heap.get?_push_size _ rfl, rfl⟩ rfl ?_))
  rw [if_pos rfl]
  refine wpAny_pure (hQ _ ?_)
  exact ((Heap.SameBut.update _ _ _).extBut.push _).push _
theorem iter_dict {prog : Program} {w : World} {A : Around} {E : Value → Shared → Prop} {s : Shared} {d : Addr} {ep : Nat} {es : Array DictEntry} {od : Obj} {Q : Value → Shared → Prop} (hsys : (d == sysModules) = false) (hod : s.heap.get? d = some od) (hx : od.ExactDict) (hdd : od.data = .dict es ep)
    (hQ : Q (.ref s.heap.objs.size) { s with heap := s.heap.push { cls := .type "dict_keyiterator", data := .fields #[.ref d, .int 0 0, .int (es.size : Nat) 0, .int (ep : Nat) 0] } }) : wpAny (model prog w) A (pyIter (.ref d)) Q E s := by
  have hT : s.TypeIs (.ref d) "dict" := ⟨od, hod, hx.1⟩
  refine wpAny_pyIter_slot hT F.slot_dict_iter (wpAny_call_entry F.slot_dict_iter hT F.entry_dict_iter ?_ (F.args_dict_iter_1 (.ref d)))
  refine wpAny_bind (wpAny_bind (wpAny_notOrdered_dict hT (wpAny_pure (wpAny_bind (wpAny_pure (wpAny_bind ?_))))))
  have e0 : Builtin.Dict.showsAll d = pure () := by unfold Builtin.Dict.showsAll; rw [hsys]; rfl
  rw [e0]
  refine wpAny_pure (wpAny_bind (wpAny_dictEntries hod hdd (wpAny_bind (wpAny_dictEpoch hod hdd (wpAny_bind ?_)))))
  refine wpAny_newObj_type (wpAny_pure ⟨_, rfl, "dict_keyiterator", _, ⟨_, Heap.get?_push_size _ rfl, rfl⟩, F.slot_dict_keyiterator_next.lookup, ?_⟩)
  exact hQ
def EntsAt (d : Addr) (es : Array DictEntry) (ep : Nat) (h : Heap) : Prop := ∃ od, h.get? d = some od ∧ od.ExactDict ∧ od.data = .dict es ep
theorem EntsAt.at {d : Addr} {es : Array DictEntry} {ep : Nat} {h h' : Heap} (x : EntsAt d es ep h) (k : ∀ o, h.get? d = some o → h'.get? d = some o) : EntsAt d es ep h' := by
  obtain ⟨od, h1, h2, h3⟩ := x
  exact ⟨od, k _ h1, h2, h3⟩
end L2
set_option Elab.async false
set_option linter.all false
set_option maxRecDepth 100000
set_option maxHeartbeats 2000000
namespace L2
open PySem PySem.Spec PyProof.Rows
def sLt (x y : Str) : Bool := decide (x.cps.toList < y.cps.toList)
theorem sLt_irr (x : Str) : sLt x x = false := decide_eq_false (List.lt_irrefl _)
theorem sLt_trans {x y z : Str} (h : sLt x y = true) (g : sLt y z = true) : sLt x z = true := decide_eq_true (List.lt_trans (of_decide_eq_true h) (of_decide_eq_true g))
theorem sLt_asym {x y : Str} (h : sLt x y = true) : sLt y x = false := decide_eq_false (List.lt_asymm (of_decide_eq_true h))
theorem sLt_tot {x y : Str} (h : x ≠ y) : sLt x y = true ∨ sLt y x = true := by
  rcases Std.lt_trichotomy x.cps.toList y.cps.toList with z | z | z
  · exact .inl (decide_eq_true z)
  · exact absurd (str_ext z) h
  · exact .inr (decide_eq_true z)
def lexT : List Str → List Str → Bool
  | [], [] => false
  | [], _ :: _ => true
  | _ :: _, [] => false
  | x :: xs, y :: ys => if x = y then lexT xs ys else sLt x y
def TupS (h : Heap) (v : Value) (k : List Str) : Prop := ∃ a o its n, v = .ref a ∧ h.get? a = some o ∧ o.cls = .type "tuple" ∧ o.data = .seq its n ∧ StrsAre its.toList k
theorem TupS.at {h h' : Heap} {v : Value} {k : List Str} (x : TupS h v k) (kp : ∀ a o, v = .ref a → h.get? a = some o → h'.get? a = some o) : TupS h' v k := by
  obtain ⟨a, o, its, n, e, h1, h2, h3, h4⟩ := x
  exact ⟨a, o, its, n, e, kp a o e h1, h2, h3, h4⟩
section
variable {X : Cx}
def keyS : List Key → List Str
  | [] => []
  | .inr x :: r => x :: keyS r
  | .inl _ :: r => keyS r
end
end L2
set_option Elab.async false
set_option linter.all false
set_option maxRecDepth 100000
set_option maxHeartbeats 2000000
namespace L2
open PySem PySem.Spec PyProof.Rows
section
variable {X : Cx} {pins : List (Addr × Obj)} {σ : St} {H : Hp} {s : Shared} {a : Addr} {y v : V} {u r : Value} {A : Around} {E : Value → Shared → Prop}
theorem d_dictSet {H' : Hp} {Q : Unit → Shared → Prop} (hu : A.units < cLine) (I : Inv X pins σ H s) (g : DPut H a y v H') (ry : RelV y u) (rv : RelV v r) (h : ∀ s', Inv X pins σ H' s' → Q () s') :
    wpAny (model X.prog X.w) A (dictSet a u r) Q E s := by
  rcases g with ⟨kvs, k, e, ey, l, eH⟩ | ⟨kvs, k, b, e, ey, eb, l, eH⟩
  · subst ey eH
    obtain ⟨z, hd, vs, rel, dd⟩ := dk_of I.hok e
    have hz : vs.length ≤ sizeLine := by rw [← rel.length]; exact z
    have hl : (putK kvs k v).length ≤ sizeLine := by have := length_putK kvs k v; omega
    refine wpAny_dictSet_pairs (hsz := hz) (kV_is ry) dd fun h' dd' hs => h _ ?_
    have he : ∃ q, h'.get? a = some q := let ⟨q, _, _, hq, _⟩ := dd'; ⟨q, hq⟩
    exact d_write I (by rw [e]; exact True.intro) hs he (dk_new hl hd (rel.put k rv) dd')
  · subst ey eH
    cases (show u = Value.ref b from ry)
    obtain ⟨z, hd, xs, rel, dd⟩ := dt_of I.hok e
    have hz : xs.length ≤ sizeLine := by rw [← Paired.length rel]; exact z
    have hl : (putK kvs k v).length ≤ sizeLine := by have := length_putK kvs k v; omega
    refine wpAny_dictSet_heap (hsz := hz) (knd := tupleKind (mixKind X.prog X.w)) hu (key_of I.hok eb) dd fun h' dd' hs => h _ ?_
    obtain ⟨q, es, ep, hq, h2, h3, h4, _, h5⟩ := dd'
    refine d_write I (by rw [e]; exact True.intro) hs ⟨q, hq⟩ ⟨hl, hd, _, (rel.put k eb rv).keeps fun c ys ec => ?_, q, es, ep, hq, h2, h3, h4, h5⟩
    rw [upd_ne (ne_of ec e (fun z => nomatch z))]
    exact ec
end
def kPut (tk tv : TE) (acc : Addr) : TK := fun σ H N => tk σ H fun y H1 => tv σ H1 fun x H2 => ∃ H3, DPut H2 acc y x H3 ∧ N H3
section
variable {Y : Cx}
theorem pk_emitD {k v : Expr} {tk tv : TE} {acc : Addr} (hu : Y.A.units < cLine) (hk : PE Y k tk) (hv : PE Y v tv) : PTn Y (emitD k v acc Y.env) (kPut tk tv acc) := by
  intro pins s σ H N I h
  refine wpAny_bind (thn (hk pins s σ H _ I h) fun kv s1 ⟨y, H1, I1, r1, h1⟩ => ?_)
  refine wpAny_bind (wpAny_holding (thn (hv pins s1 σ H1 _ I1 h1) fun vv s2 ⟨x, H2, I2, r2, H3, g, n⟩ => ?_))
  refine wpAny_bind (wpAny_standAt (wpAny_holding ?_))
  exact d_dictSet hu I2 g r1 r2 fun s' I' => ⟨σ, _, I', Wk.refl _, n⟩
end
section
variable {X : Cx} {scope : Scope} {cl : List (Str × Addr)} {N' : List Str} {nt : Nat} {ci : List Nat} {pins : List (Addr × Obj)} {σ : St} {H : Hp} {s : Shared}
end
theorem comp_list {K : PySem.W.Frag} {a : Addr} {xs : List V} {σ0 : St} {g : TG} {tk : TK} {Q : Hp → Prop} {H : Hp} (Pv : Nat → Hp → Prop) (h0 : Pv 0 H) (hl : ∀ i H, i ≤ xs.length → Pv i H → SqL K H a xs)
    (hs : ∀ i x H (N : Hp → Prop), xs[i]? = some x → Pv i H → (∀ H', Pv (i + 1) H' → N H') → g x σ0 H fun σ4 H4 => Wk σ0 σ4 ∧ tk σ4 H4 N) (hd : ∀ H, Pv xs.length H → Q H) :
    ∃ W : Nat → Nat → Hp → Prop, (∃ m, W 0 m H) ∧ compW σ0 (Itl K a) g tk Q W := by
  refine ⟨fun i m H => m = xs.length - i ∧ i ≤ xs.length ∧ Pv i H, ⟨xs.length, by simp, Nat.zero_le _, h0⟩, ?_⟩
  rintro i m H ⟨rfl, hi, p⟩
  have q := hl i H hi p
  by_cases hlt : i < xs.length
  · refine .inr ⟨⟨xs, xs[i], q, by simp [hlt]⟩, fun x H' y => ?_⟩
    obtain ⟨e, y⟩ := y
    subst e
    exact hs i x H' _ (y xs q) p fun H5 p5 => ⟨xs.length - (i + 1), by omega, rfl, hlt, p5⟩
  · have e : i = xs.length := by omega
    subst e
    exact .inl ⟨⟨xs, q, Nat.le_refl _⟩, hd _ p⟩
section
variable {X : Cx} {K : PySem.W.Frag} {tg l : Expr} {tl : TE}
theorem pi_listK (e : X.K = K) (hl : PE X l tl) : PI X tg l (iList K tl) := by subst e; exact pi_list hl
end
end L2
set_option Elab.async false
set_option linter.all false
set_option maxRecDepth 100000
set_option maxHeartbeats 2000000
namespace Ken
open PySem L2
def Tm.kids : Tm → List Tm
  | .nd _ a b => [a, b]
  | _ => []
def Tm.pre : Tm → List Tm
  | .low => [.low]
  | .ltr w => [.ltr w]
  | .nd k a b => .nd k a b :: (a.pre ++ b.pre)
theorem Tm.pre_len : ∀ t : Tm, t.pre.length = t.parts
  | .low => rfl
  | .ltr _ => rfl
  | .nd _ a b => by
    show (a.pre ++ b.pre).length + 1 = 1 + a.parts + b.parts
    rw [List.length_append, a.pre_len, b.pre_len]; omega
theorem Tm.pre_eq (t : Tm) : t.pre = t :: t.kids.flatMap Tm.pre := by
  cases t with
  | low => rfl
  | ltr w => rfl
  | nd k a b => show _ :: (a.pre ++ b.pre) = _ :: (a.pre ++ (b.pre ++ [])); rw [List.append_nil]
def Tm.own : Tm → List Str
  | .low => ["low"]
  | .ltr w => ["letter", w]
  | .nd k _ _ => [k.str]
def Tm.spell (t : Tm) : List Str := t.pre.flatMap Tm.own
theorem spell_nd (k : Kd) (a b : Tm) : (Tm.nd k a b).spell = k.str :: (a.spell ++ b.spell) := by
  show (Tm.nd k a b :: (a.pre ++ b.pre)).flatMap Tm.own = _
  rw [List.flatMap_cons, List.flatMap_append]; rfl
theorem spell_pre : ∀ {s t : Tm} {l m : List Str}, s.spell ++ l = t.spell ++ m → s = t ∧ l = m
  | .low, .low, l, m, h => ⟨rfl, by have := List.cons.inj (show ("low" : Str) :: l = ("low" : Str) :: m from h); exact this.2⟩
  | .low, .ltr w, l, m, h => absurd (List.cons.inj (show ("low" : Str) :: l = ("letter" : Str) :: (w :: m) from h)).1 (by decide)
  | .low, .nd k a b, l, m, h => by
    rw [spell_nd] at h
    exact absurd (List.cons.inj (show ("low" : Str) :: l = k.str :: ((a.spell ++ b.spell) ++ m) from h)).1 (by cases k <;> decide)
  | .ltr w, .low, l, m, h => absurd (List.cons.inj (show ("letter" : Str) :: (w :: l) = ("low" : Str) :: m from h)).1 (by decide)
  | .ltr w, .ltr v, l, m, h => by
    have h1 := (List.cons.inj (show ("letter" : Str) :: (w :: l) = ("letter" : Str) :: (v :: m) from h)).2
    obtain ⟨e1, e2⟩ := List.cons.inj h1
    exact ⟨by rw [e1], e2⟩
  | .ltr w, .nd k a b, l, m, h => by
    rw [spell_nd] at h
    exact absurd (List.cons.inj (show ("letter" : Str) :: (w :: l) = k.str :: ((a.spell ++ b.spell) ++ m) from h)).1 (by cases k <;> decide)
  | .nd k a b, .low, l, m, h => by
    rw [spell_nd] at h
    exact absurd (List.cons.inj (show k.str :: ((a.spell ++ b.spell) ++ l) = ("low" : Str) :: m from h)).1 (by cases k <;> decide)
  | .nd k a b, .ltr w, l, m, h => by
    rw [spell_nd] at h
    exact absurd (List.cons.inj (show k.str :: ((a.spell ++ b.spell) ++ l) = ("letter" : Str) :: (w :: m) from h)).1 (by cases k <;> decide)
  | .nd k a b, .nd k' c d, l, m, h => by
    rw [spell_nd, spell_nd] at h
    obtain ⟨e1, e2⟩ := List.cons.inj (show k.str :: ((a.spell ++ b.spell) ++ l) = k'.str :: ((c.spell ++ d.spell) ++ m) from h)
    rw [List.append_assoc, List.append_assoc] at e2
    obtain ⟨f1, f2⟩ := spell_pre e2
    obtain ⟨g1, g2⟩ := spell_pre f2
    exact ⟨by rw [Kd.str_inj e1, f1, g1], g2⟩
theorem spell_inj {s t : Tm} (h : s.spell = t.spell) : s = t := (spell_pre (l := []) (m := []) (by rw [h])).1
theorem paired_keepT {K : PySem.W.Frag} {H H' : Hp} (k : KeepT K H H') {us : List V} {ts : List Tm} (h : Paired (IsT K H) us ts) : Paired (IsT K H') us ts := Paired.mapP h fun _ _ z => z.keep k
def sp_within (K : PySem.W.Frag) : Sp := fun vs H Q _ => ∃ (v : V) (t : Tm), vs = [v] ∧ IsT K H v t ∧
  ∀ (r : Addr) (H' : Hp) (us : List V), Same H H' → H r = none → H' r = some (.lst us) → Paired (IsT K H') us t.kids → Q (.ref r) H'
def sp_pieces (K : PySem.W.Frag) : Sp := fun vs H Q _ => ∃ (v : V) (t : Tm), vs = [v] ∧ IsT K H v t ∧ t.parts ≤ 400 ∧
  ∀ (r : Addr) (H' : Hp) (us : List V), Same H H' → H r = none → H' r = some (.lst us) → Paired (IsT K H') us t.pre → Q (.ref r) H'
end Ken
set_option Elab.async false
set_option linter.all false
set_option maxRecDepth 100000
set_option maxHeartbeats 2000000
namespace Ken
open PySem L2
abbrev Wd := Option Nat × List Str
def bV : Option Nat → V
  | none => .non
  | some j => .int (j : Nat)
def AtW (K : PySem.W.Frag) (H : Hp) (v : V) (x : Wd) : Prop := ∃ p q, v = .ref p ∧ SqT K H p [bV x.1, .ref q] ∧ H q = some (.lst (x.2.map V.str))
theorem AtW.keep {K : PySem.W.Frag} {H H' : Hp} (e : Same H H') {v : V} {x : Wd} (h : AtW K H v x) : AtW K H' v x := by
  obtain ⟨p, q, rfl, h1, h2⟩ := h
  exact ⟨p, q, rfl, e.sqt h1, e _ _ h2⟩
abbrev AtWs (K : PySem.W.Frag) (H : Hp) : List V → List Wd → Prop := Paired (AtW K H)
theorem AtWs.keep {K : PySem.W.Frag} {H H' : Hp} (e : Same H H') {vs : List V} {ws : List Wd} (h : AtWs K H vs ws) : AtWs K H' vs ws := Paired.mapP h fun _ _ q => q.keep e
def inWs (us : List Str) (ws : List Wd) : Prop := ∀ x ∈ ws, x.2.Nodup ∧ ∀ y ∈ x.2, y ∈ us
def okWs (ws : List Wd) : Prop := ∀ x ∈ ws, ∀ y ∈ x.2, Word y
def bef (ws : List Wd) (n : Nat) : Option Nat := (ws[n]?).bind (·.1)
def natsV (L : List Nat) : List V := L.map fun n => V.int (n : Nat)
def AtWn (K : PySem.W.Frag) (H : Hp) (acc : Addr) (v : V) (x : Wd) : Prop := ∃ p q, q ≠ acc ∧ v = .ref p ∧ SqT K H p [bV x.1, .ref q] ∧ H q = some (.lst (x.2.map V.str))
theorem AtWn.at {K : PySem.W.Frag} {H : Hp} {acc : Addr} {v : V} {x : Wd} (h : AtWn K H acc v x) : AtW K H v x := by
  obtain ⟨p, q, _, e, h1, h2⟩ := h
  exact ⟨p, q, e, h1, h2⟩
theorem AtWn.keep {K : PySem.W.Frag} {H H' : Hp} {acc : Addr} (e : Same H H') {v : V} {x : Wd} (h : AtWn K H acc v x) : AtWn K H' acc v x := by
  obtain ⟨p, q, n, rfl, h1, h2⟩ := h
  exact ⟨p, q, n, rfl, e.sqt h1, e _ _ h2⟩
theorem AtWn.write {K : PySem.W.Frag} {H : Hp} {acc : Addr} {ys : List V} {o : HO} (ha : H acc = some (.lst ys)) {v : V} {x : Wd} (h : AtWn K H acc v x) : AtWn K (upd H acc o) acc v x := by
  obtain ⟨p, q, n, rfl, h1, h2⟩ := h
  exact ⟨p, q, n, rfl, keepT_lst ha _ _ h1, by rw [upd_ne n]; exact h2⟩
theorem in_strs (L : List Str) (z : Str) : inV (.str z) (L.map V.str) = decide (z ∈ L) := by
  unfold inV
  induction L with
  | nil => rfl
  | cons n L ih =>
    rw [List.map_cons, List.any_cons, ih]
    have e : eqV (.str n) (.str z) = decide (n = z) := rfl
    rw [e]
    by_cases h : n = z
    · subst h; simp
    · have : ¬ (z = n) := fun y => h y.symm
      simp [h, this]
theorem strs_flat (L : List Str) : (L.map V.str).all flatV = true := by
  rw [List.all_eq_true]
  intro v hv
  obtain ⟨n, _, rfl⟩ := List.mem_map.mp hv
  rfl
end Ken
set_option Elab.async false
set_option linter.all false
set_option maxRecDepth 100000
set_option maxHeartbeats 2000000
namespace Ken
open PySem L2
def bD : Option Nat → PyData
  | none => .none
  | some j => .int (j : Nat)
def wdD (x : Wd) : PyData := .tuple [bD x.1, .list (x.2.map PyData.str)]
theorem bD_dn {K : PySem.W.Frag} {H : Hp} (b : Option Nat) : Dn K H (bV b) (bD b) := by
  cases b
  · show Dn K H .non .none; rw [Dn]
  · show Dn K H (.int _) (.int _); rw [Dn]
theorem strs_dn {K : PySem.W.Frag} {H : Hp} : ∀ L : List Str, DnAll K H (L.map V.str) (L.map PyData.str)
  | [] => by show DnAll K H [] []; rw [DnAll]
  | n :: L => by
    show DnAll K H (.str n :: L.map V.str) (.str n :: L.map PyData.str)
    rw [DnAll]
    exact ⟨_, _, rfl, by rw [Dn], strs_dn L⟩
theorem AtW.dn {K : PySem.W.Frag} {H : Hp} {v : V} {x : Wd} (h : AtW K H v x) : Dn K H v (wdD x) := by
  obtain ⟨p, q, rfl, h1, h2⟩ := h
  show Dn K H (.ref p) (.tuple [bD x.1, .list (x.2.map PyData.str)])
  rw [Dn]
  refine ⟨p, _, rfl, h1, ?_⟩
  rw [DnAll]
  refine ⟨_, _, rfl, bD_dn _, ?_⟩
  rw [DnAll]
  refine ⟨_, _, rfl, ?_, by rw [DnAll]⟩
  rw [Dn]
  exact ⟨q, _, rfl, SqL.of h2, strs_dn _⟩
theorem eqvAll_self : ∀ {ds : List PyData}, (∀ d ∈ ds, PyData.eqv d d = true) → PyData.eqvAll ds ds = true
  | [], _ => rfl
  | d :: ds, h => by
    show (PyData.eqv d d && PyData.eqvAll ds ds) = true
    rw [h d List.mem_cons_self, eqvAll_self fun e he => h e (List.mem_cons_of_mem _ he)]; rfl
theorem str_self (x : Str) : PyData.eqv (.str x) (.str x) = true := by show (x == x) = true; simp
theorem depth_list {ds : List PyData} {n : Nat} (h : ∀ d ∈ ds, d.depth ≤ n) : (PyData.list ds).depth ≤ n + 1 := by
  show PyData.depthAll ds + 1 ≤ n + 1
  have : PyData.depthAll ds ≤ n := by
    induction ds with
    | nil => exact Nat.zero_le _
    | cons d ds ih =>
      show max d.depth (PyData.depthAll ds) ≤ n
      exact Nat.max_le.mpr ⟨h d List.mem_cons_self, ih fun e he => h e (List.mem_cons_of_mem _ he)⟩
  omega
theorem inWs.ok {us : List Str} (hu : ∀ u ∈ us, Word u) {ws : List Wd} (h : inWs us ws) : okWs ws := fun x hx y hy => hu y ((h x hx).2 y hy)
end Ken
set_option Elab.async false
set_option linter.all false
set_option maxRecDepth 100000
set_option maxHeartbeats 2000000
namespace L2
open PySem PySem.Spec PyProof.Rows Ken
theorem orStandIn_led (t : SetTable) (n : Nat) : (t.orStandIn n).led = t.led := by
  unfold SetTable.orStandIn; split <;> rfl
theorem orStandIn_plain (t : SetTable) (n : Nat) (h : t.plain = false) : (t.orStandIn n).plain = false := by
  unfold SetTable.orStandIn; split
  · exact h
  · rfl
theorem layNew_led (t : SetTable) (es : Array (Int × Value)) (h : Int) (x : Value) : (layNew t es h x).2.1.led = t.led := by
  unfold layNew
  split
  · show ((t.put _).1.orStandIn _).led = t.led
    rw [orStandIn_led]; rfl
  · rfl
theorem layNew_plain (t : SetTable) (es : Array (Int × Value)) (h : Int) (x : Value) (hp : t.plain = false) : (layNew t es h x).2.1.plain = false := by
  unfold layNew
  split
  · exact orStandIn_plain _ _ hp
  · rfl
theorem laid_flags {mask finger moves : Nat} {led plain : Bool} {hashes : Array Int} {t : SetTable} {o : Array Nat} (h : SetTable.laid mask finger moves led plain hashes = some (t, o)) : t.led = led ∧ t.plain = plain := by
  unfold SetTable.laid at h
  cases z : SetTable.layClean mask hashes with
  | none => rw [z] at h; cases h
  | some ow =>
    rw [z] at h
    cases h
    exact ⟨rfl, rfl⟩
theorem relayAll_led (t : SetTable) (es : Array (Int × Value)) (n : Nat) : (relayAll t es n).2.1.led = t.led := by
  unfold relayAll
  split
  · rename_i t' o e
    have f := laid_flags (show SetTable.laid _ _ _ t.led t.plain _ = some (t', o) from e)
    dsimp only
    split
    · exact f.1
    · rfl
  · rfl
theorem relayAll_plain (t : SetTable) (es : Array (Int × Value)) (n : Nat) (hp : t.plain = false) : (relayAll t es n).2.1.plain = false := by
  unfold relayAll
  split
  · rename_i t' o e
    have f := laid_flags (show SetTable.laid _ _ _ t.led t.plain _ = some (t', o) from e)
    dsimp only
    split
    · exact f.2.trans hp
    · rfl
  · rfl
def SetAt (P : Program) (w : World) (h : Heap) (a : Addr) (xs : List Str) : Prop :=
  ∃ o es ep t ys, h.get? a = some o ∧ o.ExactSet ∧ o.data = Data.set es ep t ∧ ElemsOf (PySem.strKind P w) es.toList ∧ Paired (fun (e : Int × Value) (x : Str) => ∃ tk, e.2 = .str x tk) es.toList ys ∧ List.Perm ys xs ∧ xs.Nodup ∧ es.size < scanBound ∧ t.fits es.size = true ∧
    t.led = !(w.params.followText "set-order") ∧ (t.plain = false ∨ xs = [])
theorem SetAt.perm {P : Program} {w : World} {h : Heap} {a : Addr} {xs zs : List Str} (s : SetAt P w h a xs) (p : List.Perm xs zs) : SetAt P w h a zs := by
  obtain ⟨o, es, ep, t, ys, h1, h2, h3, h4, h5, h6, h7, h8, h9, h10, h11⟩ := s
  refine ⟨o, es, ep, t, ys, h1, h2, h3, h4, h5, h6.trans p, p.nodup_iff.mp h7, h8, h9, h10, h11.imp id fun z => ?_⟩
  rw [z] at p
  exact p.nil_eq.symm
theorem SetAt.at {P : Program} {w : World} {h h' : Heap} {a : Addr} {xs : List Str} (s : SetAt P w h a xs) (k : ∀ o, h.get? a = some o → h'.get? a = some o) : SetAt P w h' a xs := by
  obtain ⟨o, es, ep, t, ys, h1, r⟩ := s
  exact ⟨o, es, ep, t, ys, k o h1, r⟩
theorem paired_perm {α β : Type} {F : α → β → Prop} {l l' : List α} {m : List β} (p : List.Perm l l') (h : Paired F l m) : ∃ m', List.Perm m m' ∧ Paired F l' m' := by
  induction p generalizing m with
  | nil => cases h; exact ⟨[], .nil, .nil⟩
  | cons x _ ih =>
    cases h with
    | cons hx t =>
      obtain ⟨m', p', q'⟩ := ih t
      exact ⟨_ :: m', .cons _ p', .cons hx q'⟩
  | swap x y l =>
    cases h with
    | cons hx t =>
      cases t with
      | cons hy t => exact ⟨_, .swap _ _ _, .cons hy (.cons hx t)⟩
  | trans _ _ ih1 ih2 =>
    obtain ⟨m1, p1, q1⟩ := ih1 h
    obtain ⟨m2, p2, q2⟩ := ih2 q1
    exact ⟨m2, p1.trans p2, q2⟩
section
variable {P : Program} {w : World} {A : Around} {E : Value → Shared → Prop} {s : Shared}
theorem addTailS {g : Bool → Sem Unit} (hg : ∀ (b : Bool) (s₁ : Shared) (Q' : Unit → Shared → Prop), Q' () s₁ → wpAny (model P w) A (g b) Q' E s₁) {a : Addr} {o : Obj} {es : Array (Int × Value)} {ep : Nat} {t : SetTable} (ho : s.heap.get? a = some o) (hx : o.ExactSet) (hd : o.data = .set es ep t)
    {es1 : Array (Int × Value)} {t2 : SetTable} {zs ys : List Str} (he : ElemsOf (PySem.strKind P w) es1.toList) (hp : Paired (fun (e : Int × Value) (x : Str) => ∃ tk, e.2 = .str x tk) es1.toList ys) (hq : List.Perm ys zs) (hn : zs.Nodup) (hz : es1.size < scanBound) (hf : t2.fits es1.size = true) (hl : t2.led = !(w.params.followText "set-order")) (hpl : t2.plain = false)
    {wasDummy : Bool} {R : Option Bool → Shared → Prop} (hR : ∀ h', Heap.SameBut a s.heap h' → SetAt P w h' a zs → R (some true) { s with heap := h' }) :
    wpAny (model P w) A (do
      storeSet a es1 t2
      if (!wasDummy && t2.tooFull) = true then do
        g (relayAll t2 es1 (SetTable.grown es1.size)).2.2
        storeSet a (relayAll t2 es1 (SetTable.grown es1.size)).1 (relayAll t2 es1 (SetTable.grown es1.size)).2.1
        pure (some true)
      else pure (some true)) R E s := by
  have S1 := SetOf_store (knd := PySem.strKind P w) (S' := fun k => es1.toList.any fun e => (PySem.strKind P w).is k e.2) ho hx hd he (fun k => by rw [List.any_eq_true]) hz hf
  refine wpAny_bind (wpAny_storeSet_of ho hd ?_ (Nat.le_trans (Nat.le_of_lt hz) (show scanBound ≤ sizeLine by decide)))
  split
  · refine wpAny_bind (hg _ _ _ ?_)
    have rp := relayAll_perm t2 es1 (SetTable.grown es1.size)
    have rf := relayAll_fits t2 es1 (SetTable.grown es1.size)
    have rl := relayAll_led t2 es1 (SetTable.grown es1.size)
    have rpl := relayAll_plain t2 es1 (SetTable.grown es1.size) hpl
    generalize relayAll t2 es1 (SetTable.grown es1.size) = rr at rp rf rl rpl
    have he2 := he.perm rp
    obtain ⟨ys2, p2, q2⟩ := paired_perm rp.symm hp
    have hsz : rr.1.size = es1.size := by have := rp.length_eq; simpa using this
    have hz2 : rr.1.size < scanBound := by rw [hsz]; exact hz
    have S2 := SetOf_store (knd := PySem.strKind P w) (S' := fun k => rr.1.toList.any fun e => (PySem.strKind P w).is k e.2) S1.1 hx rfl he2 (fun k => by rw [List.any_eq_true]) hz2 rf
    refine wpAny_bind (wpAny_storeSet_of S1.1 rfl (wpAny_pure ?_) (Nat.le_trans (Nat.le_of_lt hz2) (show scanBound ≤ sizeLine by decide)))
    refine hR _ ((Heap.SameBut.update _ _ _).trans (Heap.SameBut.update _ _ _)) ⟨_, rr.1, _, rr.2.1, ys2, S2.1, hx, rfl, he2, q2, p2.symm.trans hq, hn, hz2, rf, rl.trans hl, .inl rpl⟩
  · refine wpAny_pure (hR _ (Heap.SameBut.update _ _ _) ⟨_, es1, _, t2, ys, S1.1, hx, rfl, he, hp, hq, hn, hz, hf, hl, .inl hpl⟩)
theorem setAdd_str {a : Addr} {x : Str} {tk : Tok} {xs : List Str} {Q : Bool → Shared → Prop} (hs : SetAt P w s.heap a xs) (hz : xs.length + 1 < scanBound)
    (hQ : ∀ h', Heap.SameBut a s.heap h' → SetAt P w h' a (if x ∈ xs then xs else xs ++ [x]) → ∀ b, Q b { s with heap := h' }) :
    wpAny (model P w) A (setAddHashed a (.str x tk) ((PySem.strKind P w).hash x)) Q E s := by
  obtain ⟨o, es, ep, t, ys, h1, h2, h3, h4, h5, h6, h7, h8, h9, h10, h11⟩ := hs
  have hlen : es.size = xs.length := by have := Paired.length h5; have := h6.length_eq; rw [← Array.length_toList]; omega
  have hscan : byScan (.str x tk) es = true := by
    unfold byScan
    rw [Bool.and_eq_true, Bool.and_eq_true]
    refine ⟨⟨rfl, decide_eq_true h8⟩, ?_⟩
    rw [Array.all_eq_true_iff_forall_mem]
    intro e he
    exact (h4 e (by simpa using he)).2
  have his : (PySem.strKind P w).is x (.str x tk) = true := by
    show Value.isStrOf x (.str x tk) = true
    simp [Value.isStrOf]
  unfold setAddHashed
  refine wpAny_holding ?_
  rw [setAddHashedIn.eq_def]
  refine wpAny_bind (wpAny_setState_of h1 h3 h9 ?_)
  dsimp only
  rw [if_pos hscan]
  unfold setAddByScan
  refine wpAny_bind (wpAny_bind (wpAny_rule (wpAny_bind (wpAny_setScan_of his h1 h3 h9 h4 ?_))))
  have mem_iff : ∀ e ∈ es.toList, (PySem.strKind P w).is x e.2 = true → x ∈ xs := fun e he hi => by
    obtain ⟨j, hj, rfl⟩ := List.getElem_of_mem he
    obtain ⟨y, hy, tk', ey⟩ := paired_get h5 (List.getElem?_eq_getElem hj)
    rw [ey] at hi
    have hxy : x = y := by
      have hi : Value.isStrOf x (.str y tk') = true := hi
      exact (show y = x by simpa [Value.isStrOf] using hi).symm
    rw [hxy]
    exact h6.mem_iff.mp (List.mem_of_getElem? hy)
  have mem_of : x ∈ xs → ∃ e ∈ es.toList, (PySem.strKind P w).is x e.2 = true := fun hx => by
    have hy : x ∈ ys := h6.mem_iff.mpr hx
    obtain ⟨j, hj, e⟩ := List.getElem_of_mem hy
    have hj' : j < es.toList.length := by rw [Paired.length h5]; exact hj
    obtain ⟨y, hy2, tk', ey⟩ := paired_get h5 (List.getElem?_eq_getElem hj')
    rw [List.getElem?_eq_getElem hj] at hy2
    cases hy2
    refine ⟨_, List.getElem_mem hj', ?_⟩
    rw [ey, e]
    show Value.isStrOf x (.str x tk') = true
    simp [Value.isStrOf]
  cases hf : List.findIdx? (fun e => (PySem.strKind P w).is x e.2) es.toList with
  | some j =>
    dsimp only
    refine wpAny_pure (wpAny_pure ?_)
    have hx : x ∈ xs := by
      obtain ⟨hj, hp, _⟩ := List.findIdx?_eq_some_iff_getElem.mp hf
      exact mem_iff _ (List.getElem_mem hj) hp
    have q := hQ s.heap (Heap.SameBut.refl _ _) (by rw [if_pos hx]; exact ⟨o, es, ep, t, ys, h1, h2, h3, h4, h5, h6, h7, h8, h9, h10, h11⟩) false
    exact q
  | none =>
    dsimp only
    have hx : x ∉ xs := fun z => by
      obtain ⟨e, he, hi⟩ := mem_of z
      have := List.findIdx?_eq_none_iff.mp hf e he
      rw [hi] at this
      cases this
    rw [if_neg hx] at hQ
    have lp := layNew_perm t es ((PySem.strKind P w).hash x) (.str x tk)
    have lf := layNew_fits t es ((PySem.strKind P w).hash x) (.str x tk)
    have ll := layNew_led t es ((PySem.strKind P w).hash x) (.str x tk)
    have lpl := layNew_plain t es ((PySem.strKind P w).hash x) (.str x tk)
    generalize layNew t es ((PySem.strKind P w).hash x) (.str x tk) = r at lp lf ll lpl
    obtain ⟨es1, t1, wd, gv⟩ := r
    dsimp only at lp lf ll lpl ⊢
    have hpush : (es.push ((PySem.strKind P w).hash x, Value.str x tk)).toList = es.toList ++ [((PySem.strKind P w).hash x, Value.str x tk)] := by simp
    rw [hpush] at lp
    have he1 : ElemsOf (PySem.strKind P w) es1.toList := ElemsOf.perm (l := es.toList ++ [((PySem.strKind P w).hash x, Value.str x tk)]) (fun e he => by
      rcases List.mem_append.mp he with he | he
      · exact h4 e he
      · rw [List.mem_singleton.mp he]
        exact ⟨⟨x, his, rfl⟩, rfl⟩) lp
    have hp1 : Paired (fun (e : Int × Value) (x : Str) => ∃ tk, e.2 = .str x tk) (es.toList ++ [((PySem.strKind P w).hash x, Value.str x tk)]) (ys ++ [x]) := paired_app h5 (.cons ⟨tk, rfl⟩ .nil)
    obtain ⟨ys1, p1, q1⟩ := paired_perm lp.symm hp1
    have hsz : es1.size = xs.length + 1 := by
      have := lp.length_eq
      rw [List.length_append, List.length_singleton, Array.length_toList, Array.length_toList] at this
      omega
    have nd : (xs ++ [x]).Nodup := by
      rw [List.nodup_append]
      refine ⟨h7, by simp, fun a ha b hb => ?_⟩
      rw [List.mem_singleton.mp hb]
      exact fun z => hx (z ▸ ha)
    have tl : ∀ (t2 : SetTable), t2.fits es1.size = true → t2.led = t1.led → t2.plain = false → ∀ h' : Heap, Heap.SameBut a s.heap h' → SetAt P w h' a (xs ++ [x]) → wpAny (model P w) A (pure true : Sem Bool) Q E { s with heap := h' } := fun t2 _ _ _ h' sb st => wpAny_pure (hQ h' sb st true)
    refine wpAny_bind ?_
    cases gv
    all_goals first | refine wpAny_pure ?_ | refine wpAny_rule ?_
    all_goals (
      by_cases hpl : t1.plain = true
      · rw [if_pos hpl]
        refine wpAny_bind (wpAny_of_eq (hashByValue.eq_5 _ _ _) ?_)
        simp only [Bool.false_eq_true, if_false]
        refine addTailS (P := P) (w := w) (fun b s₁ Q' q' => by cases b <;> first | exact wpAny_pure q' | exact wpAny_rule q') h1 h2 h3 he1 q1 (p1.symm.trans (h6.append_right _)) nd (by rw [hsz]; exact hz) (SetTable.fits_plain_off lf) (ll.trans h10) rfl fun h' sb st => wpAny_pure (hQ h' sb st true)
      · rw [if_neg hpl]
        refine wpAny_bind (wpAny_pure ?_)
        simp only [if_true]
        refine addTailS (P := P) (w := w) (fun b s₁ Q' q' => by cases b <;> first | exact wpAny_pure q' | exact wpAny_rule q') h1 h2 h3 he1 q1 (p1.symm.trans (h6.append_right _)) nd (by rw [hsz]; exact hz) lf (ll.trans h10) (by simpa using hpl) fun h' sb st => wpAny_pure (hQ h' sb st true))
end
end L2
set_option Elab.async false
set_option linter.all false
set_option maxRecDepth 100000
set_option maxHeartbeats 2000000
namespace L2
open PySem PySem.Spec PyProof.Rows Ken
def setO (P : Program) (w : World) (a : Addr) (xs : List Str) : HO := .ext fun h => SetAt P w h a xs
theorem setO_ok {P : Program} {w : World} {H : Hp} {h : Heap} {a : Addr} {xs : List Str} (s : SetAt P w h a xs) : ObjOk P w H h a (setO P w a xs) := by
  obtain ⟨o, es, ep, t, ys, h1, r⟩ := id s
  exact ⟨s, ⟨o, h1⟩, fun h1 h2 z k => SetAt.at z k⟩
theorem setO_at {P : Program} {w : World} {H : Hp} {h : Heap} {a : Addr} {xs : List Str} (ok : HOk P w H h) (e : H a = some (setO P w a xs)) : SetAt P w h a xs := (ok a _ e).1
def setObj0 (w : World) : Obj := { cls := .type "set", data := .set #[] 0 (SetTable.fresh 0 0 !(w.params.followText "set-order")) }
theorem setAt_new {P : Program} {w : World} {h : Heap} {a : Addr} (e : h.get? a = some (setObj0 w)) : SetAt P w h a [] :=
  ⟨_, #[], 0, _, [], e, ⟨rfl, rfl, rfl⟩, rfl, fun e he => by simp at he, .nil, .nil, List.nodup_nil, by decide, rfl, rfl, .inr rfl⟩
section
variable {P : Program} {w : World} {A : Around} {E : Value → Shared → Prop} {s : Shared}
theorem newSetS {Q : Value → Shared → Prop} (h : Q (.ref s.heap.objs.size) { s with heap := s.heap.push (setObj0 w) }) : wpAny (model P w) A (newSet (.type "set")) Q E s := by
  unfold newSet
  refine wpAny_bind (wpAny_bind (wpAny_askSetting (wpAny_pure ?_)))
  exact wpAny_newObj_type h (hd := by show (0 : Nat) ≤ sizeLine; decide)
theorem call_addS {a : Addr} {x : Str} {tk : Tok} {xs : List Str} {Q : Value → Shared → Prop} (hs : SetAt P w s.heap a xs) (hz : xs.length + 1 < scanBound)
    (hQ : ∀ h' tk', Heap.SameBut a s.heap h' → SetAt P w h' a (if x ∈ xs then xs else xs ++ [x]) → Q .none { s with heap := h', toks := tk' }) :
    wpAny (model P w) A (call (.builtin "set.add") [.ref a, .str x tk]) Q E s := by
  have hT : s.TypeIs (.ref a) "set" := by
    obtain ⟨o, es, ep, t, ys, h1, h2, r⟩ := id hs
    exact ⟨o, h1, h2.1⟩
  have his : (PySem.strKind P w).is x (.str x tk) = true := by
    show Value.isStrOf x (.str x tk) = true
    simp [Value.isStrOf]
  refine wpAny_call_entry F.slot_set_add hT F.entry_set_add ?_ (F.args_set_add_2 (.ref a) (.str x tk))
  show wpAny _ _ (Builtin.Frozenset.oneOther "add" { pos := [.ref a, .str x tk] } >>= _) _ _ _
  refine wpAny_bind ?_
  show wpAny _ _ (Builtin.Frozenset.addrOf (.ref a) >>= fun d => pure (d, Value.str x tk)) _ _ _
  refine wpAny_bind (wpAny_pure (wpAny_pure ?_))
  show wpAny _ _ (setAdd a (.str x tk) >>= _) _ _ _
  refine wpAny_bind (wpAny_holding (wpAny_bind ((PySem.strKind P w).pyHash his ?_)))
  exact setAdd_str hs hz fun h' sb st b => wpAny_pure ⟨_, rfl, hQ h' _ sb st⟩
end
def kAdd (P : Program) (w : World) (te : TE) (acc : Addr) : TK := fun σ H N => te σ H fun y H5 => ∃ x xs, y = .str x ∧ H5 acc = some (setO P w acc xs) ∧ xs.length < 4000 ∧ N (upd H5 acc (setO P w acc (if x ∈ xs then xs else xs ++ [x])))
theorem pk_emitS {P : Program} {w : World} {Y : Cx} {elt : Expr} {te : TE} {acc : Addr} (hP : Y.prog = P) (hw : Y.w = w) (he : PE Y elt te) : PTn Y (emitS elt (.ref acc) Y.env) (kAdd P w te acc) := by
  subst hP hw
  intro pins s σ H N I h
  refine wpAny_bind (thn (he pins s σ H _ I h) fun v s7 ⟨y, H7, I7, r7, x, xs, e, ha7, hlen, n⟩ => ?_)
  subst e
  obtain ⟨tk, rfl⟩ := r7
  have st := setO_at I7.hok ha7
  refine wpAny_bind (wpAny_standAt (wpAny_bind (call_addS st (Nat.lt_of_lt_of_le (Nat.add_lt_add_right hlen 1) (by decide)) fun h' tk' sb st' => wpAny_pure ?_)))
  obtain ⟨o, es, ep, t, ys, h1, r⟩ := id st'
  have I8 := I7.write (x := acc) (e := acc) (o := setO Y.prog Y.w acc (if x ∈ xs then xs else xs ++ [x])) (t' := tk') (by rw [ha7]; exact True.intro) (.inl rfl) (fun b u hb e => (sb.2 b hb).trans e) ⟨o, h1⟩ (setO_ok st')
  exact ⟨σ, _, I8, Wk.refl _, n⟩
def tCompA (nt : Nat) (ci : List Nat) (wi : TI) (g : TG) (tk : Addr → TK) (o0 : Addr → HO) : TE := fun σ H Q => wi σ H fun J H1 => ∀ acc, H1 acc = none → ∃ W : Nat → Nat → Hp → Prop, (∃ m, W 0 m (upd H1 acc (o0 acc))) ∧ compW (capt nt ci σ) J g (tk acc) (fun H2 => Q (.ref acc) H2) W
section
variable {X : Cx} {scope : Scope} {cl : List (Str × Addr)} {N' : List Str} {nt : Nat} {ci : List Nat} {pins : List (Addr × Obj)} {σ : St} {H : Hp} {s : Shared}
theorem cg_coreA {e : Expr} {gs : List Comprehension} {ifs : List Expr} {body : Addr → Env → Sem Unit} {newAcc : Sem Value} {ob : Obj} {o0 : Addr → HO} {p0 : Pos} {tk : Addr → TK} {tg iter : Expr} {pos' : Pos} {wi : TI} {g : TG} {use : Option (Value → Sem Unit)} {Q : VK} {Qf : Value → Shared → Prop} (B : BlkOk X scope cl N' nt ci) (hc : X.calm = true) (hi : PI X tg iter wi)
    (hg : ∀ s H C ex, PG (blk X N' scope cl s H C ex) tg g) (hcl : clausesOf e = ⟨tg, iter, ifs, 0⟩ :: gs) (hden : ∀ acc env, DenIs X.prog X.w X.A e 0 acc env) (htn : ∀ a env, TurnIs e 0 tg p0 (.ref a) env (body a env))
    (hb : ∀ s H C ex a, PTn (blk X N' scope cl s H C ex) (body a (blk X N' scope cl s H C ex).env) (tk a)) (hnew : ∀ {A : Around} {E : Value → Shared → Prop} {s : Shared} {Q : Value → Shared → Prop}, Q (.ref s.heap.objs.size) { s with heap := s.heap.push ob } → wpAny (model X.prog X.w) A newAcc Q E s)
    (hfree : ob.isFreed = false) (hobj : ∀ (H : Hp) (h : Heap) (a : Addr), h.get? a = some ob → sysModules < a → ObjOk X.prog X.w (upd H a (o0 a)) h a (o0 a)) (hs : ∀ x, foldedSetIterable iter X.env x = pure x) (I : Inv X pins σ H s) (h : tCompA nt ci wi g tk o0 σ H Q)
    (fin : ∀ (acc C : Addr) (s' : Shared) (H' : Hp), Inv X pins σ H' s' → Q (.ref acc) H' → (∃ m, s'.heap.Ns C m) → FpOk X pins H' C → (∃ o, s'.heap.get? C = some o ∧ ∀ v, o.data ≠ .cell v) → compPost (model X.prog X.w) X.A X.xe use Qf (.ref acc) C (.ok .next) s') :
    wpAny (model X.prog X.w) X.A (comprehension e scope X.env pos' newAcc false (eval iter X.env) use) Qf X.xe s := by
  refine wpAny_comprehension_free (use := use) hcl hs B.clos B.kind B.names (thn (hi pins s σ H _ I h) fun v s1 h1 => thn h1 fun itv s2 h2 => ?_)
  obtain ⟨it, fp, tn, J, H2, e, I2, T, st2, f2, q2⟩ := h2
  subst e
  have hacc : H2 s2.heap.objs.size = none := I2.hok.fresh (Nat.le_refl _)
  obtain ⟨W, ⟨m0, w0⟩, hW⟩ := q2 s2.heap.objs.size hacc
  refine hnew (wpAny_newFunctionEnv B.cell (by intro y hy; simp at hy) (fun h₁ hns₁ hsb₁ => ?_) B.kind)
  dsimp only at hns₁ hsb₁ ⊢
  have hCs : (s2.heap.push ob).objs.size = s2.heap.objs.size + 1 := Heap.size_push ..
  have k1 : ∀ b u, s2.heap.get? b = some u → h₁.get? b = some u := fun b u e => hsb₁.extBut b u (by rw [hCs]; exact Nat.ne_of_lt (Nat.lt_succ_of_lt (Heap.lt_size e))) (Heap.get?_push_of_some _ (Heap.get?_push_of_some _ e))
  have a1 : h₁.get? s2.heap.objs.size = some ob := hsb₁.extBut _ _ (by rw [hCs]; exact Nat.ne_of_lt (Nat.lt_succ_self _)) (Heap.get?_push_of_some _ (Heap.get?_push_size _ hfree))
  rw [hCs] at hns₁ ⊢
  have hsys : sysModules < s2.heap.objs.size := I2.big
  have I3 := blk_startO (o0 := o0 s2.heap.objs.size) (tk := s2.toks + ([] : List (Str × Value)).length) B I2 f2 (fun b hb => let ⟨o, e, _⟩ := T.obj _ _ st2 b hb; ⟨o, e⟩) rfl rfl k1 (by simpa using hns₁) (hobj _ _ _ a1 hsys)
  have hfpB : ∀ (H' : Hp), (∀ b ∈ fp, H' b = none) → ∀ b ∈ fp, FpOk (blk X N' scope cl s2 H2 (s2.heap.objs.size + 1) fp) [] H' b := fun H' hn b hb => by
    obtain ⟨f0, f1, f3, f4, f5, f6⟩ := f2 b hb
    obtain ⟨o, e, _⟩ := T.obj _ _ st2 b hb
    refine ⟨hn b hb, ?_, fun z => ?_, .inl hb, fun x c e' => f5 x c (B.sub x c e'), fun p hp => absurd (show p ∈ ([] : List (Addr × Obj)) from hp) (by simp)⟩
    · exact Nat.ne_of_lt (Nat.lt_succ_of_lt (Heap.lt_size e))
    · rcases List.mem_cons.mp (I2.stkSub b z) with y | y
      · exact f1 y
      · exact f3 y
  have hfr3 : ∀ b ∈ fp, upd H2 s2.heap.objs.size (o0 s2.heap.objs.size) b = none := fun b hb => by
    obtain ⟨o, e, _⟩ := T.obj _ _ st2 b hb
    rw [upd_ne (Nat.ne_of_lt (Heap.lt_size e))]; exact (f2 b hb).1
  have st3 : tn 0 h₁ := T.keep _ _ _ st2 fun b _ o e => k1 b o e
  have loop : codeAny (model X.prog X.w) X.A (.compLoop e 0 (.ref it) (.ref s2.heap.objs.size) (compEnvC scope cl (s2.heap.objs.size + 1) X.env))
      (compPost (model X.prog X.w) X.A X.xe use Qf (.ref s2.heap.objs.size) (s2.heap.objs.size + 1)) { s2 with heap := h₁, toks := s2.toks + ([] : List (Str × Value)).length } := by
    refine comp_loop (Y := blk X N' scope cl s2 H2 (s2.heap.objs.size + 1) fp) (Q := fun H' => Q (.ref s2.heap.objs.size) H') hc rfl (hden _ _) (htn _ _) (hg _ _ _ _) (hb _ _ _ _ _) T hfpB hW (fun s' H' I' q => ?_) I3 st3 hfr3 w0
    have un := I'.base
    have ns := I'.loc
    have fC : H' (s2.heap.objs.size + 1) = none := I'.free
    have I4 : Inv X pins σ H' s' := I2.call' I'.os un I'.hok I'.bare fun b hb => by
      obtain ⟨f0, f1, f3, f4, f5, f6⟩ := f2 b hb
      exact ⟨f4, f1, f5, f6⟩
    obtain ⟨m, hm, _⟩ := ns
    have hm' : s'.heap.Ns (s2.heap.objs.size + 1) m := hm
    refine fin _ _ s' H' I4 q ⟨m, hm'⟩ (I2.fpOk (Nat.le_succ _) fC) ?_
    obtain ⟨o, es, ep, e, d, _⟩ := hm'
    exact ⟨o, e, fun v z => by rw [d] at z; cases z⟩
  exact codeAny_compStart_gen (hden _ _) (by rw [hcl]; rfl) rfl loop (T.self _ _ _ _ _ st3 loop)
theorem pe_sc {P : Program} {w : World} {elt tg iter : Expr} {ifs : List Expr} {gs : List Comprehension} {pos p0 : Pos} {wi : TI} {g : TG} {tk : Addr → TK} {body : Addr → Env → Sem Unit} (hP : X.prog = P) (hw : X.w = w) (B : X.Ok → BlkOk X scope cl N' nt ci) (hc : X.calm = true) (hi : PI X tg iter wi)
    (hg : ∀ s H C ex, PG (blk X N' scope cl s H C ex) tg g) (htn : ∀ a env, TurnIs (.SetComp elt (⟨tg, iter, ifs, 0⟩ :: gs) scope pos) 0 tg p0 (.ref a) env (body a env))
    (hb : ∀ s H C ex a, PTn (blk X N' scope cl s H C ex) (body a (blk X N' scope cl s H C ex).env) (tk a)) (hs : ∀ x, foldedSetIterable iter X.env x = pure x := by intro _; rfl) :
    PE X (.SetComp elt (⟨tg, iter, ifs, 0⟩ :: gs) scope pos) (tCompA nt ci wi g tk fun a => setO P w a []) := by
  subst hP hw
  intro pins s σ H Q I h
  rw [arm_eval_SetComp]
  refine cg_coreA (B I.ok) hc hi hg rfl (fun _ _ => den_S) htn hb (ob := setObj0 X.w) (fun h => newSetS h) rfl (fun H h a e _ => setO_ok (setAt_new e)) hs I h fun acc C s' H' I' q hm hf ho => ?_
  obtain ⟨m, hm⟩ := hm
  obtain ⟨f0, f1, f2, f3, f4, f5⟩ := hf
  exact ⟨m, hm, fun h' sb => ⟨.ref acc, H', I'.turned (t' := s'.toks) (fun b o hb e => (sb.2 b hb).trans e) f0 f1 f3 f4 f5, rfl, q⟩⟩
end
end L2
set_option Elab.async false
set_option linter.all false
set_option maxRecDepth 100000
set_option maxHeartbeats 2000000
namespace Ken
open PySem L2
def Tm.key (t : Tm) : List Key := t.spell.map Sum.inr
theorem keyS_inr : ∀ l : List Str, keyS (l.map Sum.inr) = l
  | [] => rfl
  | x :: r => by show x :: keyS (r.map Sum.inr) = x :: r; rw [keyS_inr r]
theorem Tm.keyS (t : Tm) : L2.keyS t.key = t.spell := keyS_inr _
theorem key_inj {s t : Tm} (h : s.key = t.key) : s = t := spell_inj (by rw [← s.keyS, ← t.keyS, h])
def DS (K : PySem.W.Frag) (H : Hp) (kvs : List (List Key × V)) (ss : List Tm) : Prop := Paired (fun (kv : List Key × V) (s : Tm) => kv.1 = s.key ∧ IsT K H kv.2 s) kvs ss
section
variable {K : PySem.W.Frag} {H : Hp}
theorem DS.keys {kvs : List (List Key × V)} {ss : List Tm} (h : DS K H kvs ss) : kvs.map (·.1) = ss.map Tm.key := by
  unfold DS at h
  induction h with
  | nil => rfl
  | cons x t ih => rw [List.map_cons, List.map_cons, x.1, ih]
theorem DS.val {kvs : List (List Key × V)} {ss : List Tm} (h : DS K H kvs ss) {s : Tm} (hs : s ∈ ss) : ∃ v, valV kvs s.key = some v ∧ IsT K H v s := by
  unfold DS at h
  induction h with
  | nil => cases hs
  | @cons p q ps qs x t ih =>
    by_cases e : p.1 = s.key
    · refine ⟨p.2, valV_pos e, ?_⟩
      have : q = s := key_inj (by rw [← x.1, e])
      rw [← this]; exact x.2
    · rw [valV_neg e]
      refine ih ?_
      rcases List.mem_cons.mp hs with z | z
      · exact absurd (by rw [x.1, z]) e
      · exact z
theorem DS.none {kvs : List (List Key × V)} {ss : List Tm} (h : DS K H kvs ss) {s : Tm} (hs : s ∉ ss) : valV kvs s.key = none := by
  unfold DS at h
  induction h with
  | nil => rfl
  | @cons p q ps qs x t ih =>
    have e : ¬ p.1 = s.key := fun e => hs (by rw [show s = q from (key_inj (by rw [← x.1, e])).symm]; exact List.mem_cons_self)
    rw [valV_neg e]
    exact ih fun z => hs (List.mem_cons_of_mem _ z)
end
end Ken
set_option Elab.async false
set_option linter.all false
set_option maxRecDepth 100000
set_option maxHeartbeats 2000000
namespace L2
open PySem PySem.Spec PyProof.Rows
def Itv (K : PySem.W.Frag) (a : Addr) (n : Nat) : It :=
  ⟨fun i H => i < n ∧ ∃ xs x, SqL K H a xs ∧ xs[n - 1 - i]? = some x, fun i H x H' => H' = H ∧ ∀ xs, SqL K H a xs → xs[n - 1 - i]? = some x, fun i _ => i = n⟩
theorem turn_rev {P : Program} {w : World} {K : PySem.W.Frag} {tg : Expr} (a it : Addr) (n : Nat) : Turn P w K tg (Itv K a n) [it] it (fun i h => h.IsRevIter it a ((n : Int) - 1 - (i : Int))) where
  mem := by simp
  obj := fun i h st b hb => by
    have e : b = it := by simpa using hb
    subst e
    obtain ⟨o, e, c, d⟩ := st
    exact ⟨o, e, fun v z => by rw [d] at z; cases z⟩
  keep := fun i h h' st k => st.at fun o e => k it (by simp) o e
  item := by
    intro X hP hw hK hc i pins s σ H E I hf st hg
    subst hP hw hK
    obtain ⟨hi, xs, x, hq, hx⟩ := hg
    obtain ⟨its, rv, p, hz⟩ := I.list hq
    obtain ⟨u, hu, ru⟩ := rv.get hx
    obtain ⟨f0, f1, f2, f3, f4, f5⟩ := hf it (by simp)
    have en : (n : Int) - 1 - (i : Int) = ((n - 1 - i : Nat) : Int) := by omega
    rw [en] at st
    refine wpAny_pyNext_rev_item st p.isList (x := u) (by simpa using hu) fun h' st' sb => ?_
    have I1 : Inv X pins σ H { s with heap := h' } := I.turned (t' := s.toks) (fun b o hb e => (sb.2 b hb).trans e) f0 f1 f3 f4 f5
    have en2 : ((n - 1 - i : Nat) : Int) - 1 = (n : Int) - 1 - ((i + 1 : Nat) : Int) := by omega
    rw [en2] at st'
    obtain ⟨o, e, c, d⟩ := id st'
    exact ⟨u, rfl, go_of (s := { s with heap := h' }) e c d (by decide) ⟨x, H, I1, ru, ⟨rfl, fun ys hy => by rw [I.list_inj hy hq]; exact hx⟩, st', fun b hb => (hf b hb).1⟩⟩
  done := by
    intro X hP hw hK hc i pins s σ H E I hf st hg
    subst hP hw hK
    have hg' : i = n := hg
    subst hg'
    obtain ⟨f0, f1, f2, f3, f4, f5⟩ := hf it (by simp)
    have en : (i : Int) - 1 - (i : Int) = -1 := by omega
    rw [en] at st
    exact wpAny_pyNext_rev_end (I.ok.hd hc) st fun h' eb => ⟨rfl, I.turned (t' := s.toks) (fun b o hb e => eb b o hb e) f0 f1 f3 f4 f5⟩
  self := fun _ _ _ _ _ st h => wpAny_pyIter_revIter st h
def iRev (K : PySem.W.Frag) (ta : TA) : TI := fun σ H R => ta σ H fun vs H1 => ∃ a xs, vs = [.ref a] ∧ SqL K H1 a xs ∧ R (Itv K a xs.length) H1
section
variable {X : Cx}
theorem pi_rev {tg e : Expr} {ta : TA} {p pos : Pos} (hg : Gl X "reversed") (hm : X.mg "reversed" = none) (ha : PA X [e] ta) (hs : starEach [e] X.env = [(false, eval e X.env)] := by rfl) :
    PI X tg (.Call (.Name "reversed" p) [e] [] pos) (iRev X.K ta) := by
  intro pins s σ H R I h
  refine Call_ (ld_blt I hg hm (by first | exact PySem.boot_reversed | rfl) (PyProof.Rows.callWith_type1 (thn (ha pos pins s σ H _ I h) fun us s1 ⟨vs, H1, I1, r1, q1⟩ => ?_) (by rw [hs]; rfl) rfl))
  obtain ⟨l, xs, e, q1, q⟩ := q1
  subst e
  obtain ⟨u1, rfl, ru1⟩ := r1.one
  cases ru1
  obtain ⟨its1, rv1, p1, _⟩ := I1.list q1
  have hlen := rv1.length
  refine call_reversed_list p1.isList ?_
  have hit : Heap.IsRevIter (s1.heap.push (revObj l ((its1.toArray.size : Int) - 1))) s1.heap.objs.size l ((its1.toArray.size : Int) - 1) := ⟨_, Heap.get?_push_size _ rfl, rfl, rfl⟩
  refine wpAny_pyIter_revIter hit ?_
  have I2 : Inv X pins σ H1 { s1 with heap := s1.heap.push (revObj l ((its1.toArray.size : Int) - 1)) } := I1.kept (t' := s1.toks) fun b o e => Heap.get?_push_of_some _ e
  have en : ((its1.toArray.size : Nat) : Int) - 1 = (xs.length : Int) - 1 - ((0 : Nat) : Int) := by rw [List.size_toArray]; omega
  rw [en] at hit
  rw [en] at I2
  rw [en]
  refine ⟨_, _, _, _, H1, rfl, I2, turn_rev l _ xs.length, hit, fun b hb => ?_, q⟩
  have e : b = s1.heap.objs.size := by simpa using hb
  subst e
  exact I1.fpOk (Nat.le_refl _) (I1.hok.fresh (Nat.le_refl _))
end
theorem for_rev {K : PySem.W.Frag} {a : Addr} {xs : List V} {g : TG} {tb : TS} {D : Ends} {σ : St} {H : Hp} (Pv : Nat → St → Hp → Prop) (h0 : Pv 0 σ H) (hl : ∀ i σ H, i ≤ xs.length → Pv i σ H → SqL K H a xs)
    (hs : ∀ i x σ H, i < xs.length → xs[xs.length - 1 - i]? = some x → Pv i σ H → g x σ H fun σ2 H2 => tb { D with nx := Pv (i + 1), ct := Pv (i + 1), bk := D.nx } σ2 H2) (hd : ∀ σ H, Pv xs.length σ H → D.nx σ H) :
    ∃ W : Nat → Nat → St → Hp → Prop, (∃ m, W 0 m σ H) ∧ ∀ i m σ H, W i m σ H →
      ((Itv K a xs.length).stop i H ∧ D.nx σ H) ∨ ((Itv K a xs.length).go i H ∧ ∃ N : St → Hp → Prop, (∀ σ' H', N σ' H' → ∃ m', m' < m ∧ W (i + 1) m' σ' H') ∧ ∀ x H', (Itv K a xs.length).yld i H x H' → g x σ H' fun σ2 H2 => tb { D with nx := N, ct := N, bk := D.nx } σ2 H2) := by
  refine ⟨fun i m σ H => m = xs.length - i ∧ i ≤ xs.length ∧ Pv i σ H, ⟨xs.length, by simp, Nat.zero_le _, h0⟩, ?_⟩
  rintro i m σ H ⟨rfl, hi, p⟩
  have q := hl i σ H hi p
  by_cases hlt : i < xs.length
  · refine .inr ⟨⟨hlt, xs, xs[xs.length - 1 - i], q, List.getElem?_eq_getElem (by omega)⟩, Pv (i + 1), fun σ' H' p' => ⟨xs.length - (i + 1), by omega, rfl, hlt, p'⟩, fun x H' y => ?_⟩
    obtain ⟨e, y⟩ := y
    subst e
    exact hs i x σ _ hlt (y xs q) p
  · have e : i = xs.length := by omega
    subst e
    exact .inl ⟨rfl, hd _ _ p⟩
def tCallL (i : Nat) (f : Addr) (t : TE) : TE := fun σ H Q => σ[i]? = some (some (.ref f)) ∧ t σ H Q
section
variable {X : Cx}
theorem pe_callL {k : Nat} {CX : CXT} {E : XK} {f : Addr} {fd : FuncData} {ps : List Str} {sp : Sp} {ds : List Value} {dvs : List V} {x : Str} {p pos : Pos} {e : Expr} {es : List Expr} {t : TA} {i : Nat} (F : FnOk X.prog X.w X.K X.mg X.base CX k f fd ps sp) (hr : Room k X.A) (hN : X.N[i]? = some x) (hv : Vis X.env.scope x) (hk : PySem.W.keepIn X.K (.ref f) = true) (hb : Binds X.K fd ps ds) (hd : Vals dvs ds) (hx : Passes CX X E)
    (ha : PA X (e :: es) t) (hdb : (x == ("__debug__" : Str)) = false := by decide) (hcd : (x == ("__classdict__" : Str)) = false := by decide) (he : starEach (e :: es) X.env = (false, eval e X.env) :: starEach es X.env := by rfl) (hpl : (backTo pos (starEach es X.env)).any (·.1) = false := by rfl) :
    PE X (.Call (.Name x p) (e :: es) [] pos) (tCallL i f (tCall sp dvs E t)) := by
  intro pins s σ H Q I h
  obtain ⟨h1, h2⟩ := h
  refine wpAny_Call_Name_kw ?_
  refine thn (pe_var (X := X) (i := i) hN hv hdb hcd pins s σ H (fun v H1 => v = .ref f ∧ H1 = H) I ⟨_, h1, rfl, rfl⟩) fun v s0 ⟨y, H0, I0, r0, e1, e2⟩ => ?_
  subst e1
  subst e2
  cases (show v = Value.ref f from r0)
  refine PySem.W.callWith_K (h₀ := X.base) I0.ok.mod.kin hk (thn (ha pos pins s0 σ H0 _ I0 h2) fun us s1 ⟨vs, H1, I1, r, q⟩ => ⟨I1.kIn, ?_⟩) he hpl
  exact run_fn F hr hb hd hx I1 r q
end
section
variable {X : Cx}
end
end L2
set_option Elab.async false
set_option linter.all false
set_option maxRecDepth 100000
set_option maxHeartbeats 2000000
namespace L2
open PySem PySem.Spec PyProof.Rows
section
variable {X : Cx}
end
end L2
set_option Elab.async false
set_option linter.all false
set_option maxRecDepth 100000
set_option maxHeartbeats 2000000
namespace L2
open PySem PySem.Spec PyProof.Rows
section
variable {prog : Program} {w : World} {A : Around} {E : Value → Shared → Prop} {s : Shared}
theorem stop_it {α : Type} {Q : α → Shared → Prop} (hh : A.handled = none) (hE : ∀ h' e, (∀ b o, s.heap.get? b = some o → h'.get? b = some o) → (∃ o, h'.get? e = some o ∧ o.cls = .type "StopIteration") → E (.ref e) { s with heap := h' }) :
    wpAny (model prog w) A (Builtin.SmallTypes.stopIteration : Sem α) Q E s := by
  show wpAny _ _ (newExc (Value.type "StopIteration") [] >>= _) _ _ _
  refine wpAny_bind ?_
  unfold newExc
  refine wpAny_bind (wpAny_newObj_type ?_)
  refine wpAny_bind (wpAny_of_eq (Eq.refl (firstArgMember (Value.type "StopIteration") [])) (wpAny_newObj_type ?_))
  unfold raiseNew
  refine wpAny_bind (wpAny_handled ?_)
  rw [hh]
  refine wpAny_throw ?_
  exact hE _ _ (fun b o e => Heap.get?_push_of_some _ (Heap.get?_push_of_some _ e)) ⟨_, Heap.get?_push_size _ rfl, rfl⟩
end
end L2
set_option Elab.async false
set_option linter.all false
set_option maxRecDepth 100000
set_option maxHeartbeats 2000000
namespace L2
open PySem PySem.Spec PyProof.Rows Ken
theorem slot_si_next : Slot "set_iterator" (Str.ofString "__next__") "set_iterator.__next__" :=
  Slot.of (owner := "set_iterator") (n := "__next__") (by rw [typeLookup_type, builtinLookup_eq_fast]; rfl) (by decide +kernel) (by decide +kernel) (by decide +kernel) (Or.inl (by decide +kernel)) (by rw [isSubtype_type]; rfl) (by decide +kernel)
theorem entry_si_next : entryFor table "set_iterator.__next__" = some Builtin.«set_iterator.__next__» := entryFor_of_tree rfl
theorem owner_si : List.lookup (String.ofList ("set_iterator".toList)) Manifest.owners = some Manifest.sig_set_iterator := rfl
theorem args_si_next (a : Value) : argsOk "set_iterator.__next__" { pos := [a] } := by
  show (match Manifest.signature? "set_iterator.__next__" with | some sig => Bind.checkArgs "set_iterator.__next__" sig { pos := [a] } | none => pure ()) = pure ()
  rw [signature?_of (id := "set_iterator.__next__") (n := "__next__".toList.reverse) (o := "set_iterator".toList.reverse) rfl owner_si]
  rfl
theorem entry_set_iter : entryFor table "set.__iter__" = some Builtin.«frozenset.__iter__» :=
  entryFor_alias (id' := "frozenset.__iter__") (by rw [fastTable_eq_tree]; rfl) (by decide +kernel) (by decide +kernel) (by rw [fastTable_eq_tree]; rfl)
theorem slot_si_iter : Slot "set_iterator" (Str.ofString "__iter__") "set_iterator.__iter__" :=
  Slot.of (owner := "set_iterator") (n := "__iter__") (by rw [typeLookup_type, builtinLookup_eq_fast]; rfl) (by decide +kernel) (by decide +kernel) (by decide +kernel) (Or.inl (by decide +kernel)) (by rw [isSubtype_type]; rfl) (by decide +kernel)
theorem entry_si_iter : entryFor table "set_iterator.__iter__" = some Builtin.«dict_keyiterator.__iter__» :=
  entryFor_alias (id' := "dict_keyiterator.__iter__") (by rw [fastTable_eq_tree]; rfl) (by decide +kernel) (by decide +kernel) (by rw [fastTable_eq_tree]; rfl)
theorem args_si_iter (a : Value) : argsOk "set_iterator.__iter__" { pos := [a] } := by
  show (match Manifest.signature? "set_iterator.__iter__" with | some sig => Bind.checkArgs "set_iterator.__iter__" sig { pos := [a] } | none => pure ()) = pure ()
  rw [signature?_of (id := "set_iterator.__iter__") (n := "__iter__".toList.reverse) (o := "set_iterator".toList.reverse) rfl owner_si]
  rfl
abbrev siObj (first : Value) (i : Nat) (a : Addr) (n ep : Nat) : Obj := { cls := .type "set_iterator", data := .fields #[first, .int i 0, .ref a, .int n 0, .int ep 0] }
section
variable {P : Program} {w : World} {A : Around} {E : Value → Shared → Prop} {s : Shared}
theorem chooseS {α : Type} {src : Source} {n : Nat} {k : Nat → Sem α} {Q : α → Shared → Prop} (hn : n ≠ 0) (h : ∀ i d, i < n → wpAny (model P w) A (k i) Q E { s with drawn := d }) : wpAny (model P w) A (Sem.choose src n k) Q E s := by
  intro Γ p hΓ
  rw [Sem.wp_choose]
  exact ⟨hn, h _ _ (Nat.mod_lt _ (Nat.pos_of_ne_zero hn)) Γ p hΓ⟩
theorem si_start {I a : Addr} {first : Value} {i n ep : Nat} {o : Obj} {es : Array (Int × Value)} {t : SetTable} {Q : Option Value → Shared → Prop} (hI : s.heap.get? I = some (siObj first i a es.size ep)) (ha : s.heap.get? a = some o) (hd : o.data = .set es ep t) (hf : t.fits es.size = true)
    (h : wpAny (model P w) A.in1 (match first with
          | Value.int slot tok => do
            let __do_lift ← setNext a slot.toNat i ep
            match __do_lift with
              | some (x, next) => do
                setField (.ref I) 0 (rawInt ↑next)
                setField (.ref I) 1 (rawInt (i + 1))
                ret x
              | none => do
                setField (.ref I) 2 Value.none
                Builtin.SmallTypes.stopIteration
          | x => do
            let __x ← seqItems? first
            match __x with
              | some places =>
                match places[i]? with
                | some (Value.int place tok) => do
                  let x ← setNextDrawn a place.toNat ep
                  setField (.ref I) 1 (rawInt (i + 1))
                  ret x
                | some val => unsupported "internal:set_iterator"
                | none => do
                  setField (.ref I) 0 (rawInt 0)
                  setField (.ref I) 2 Value.none
                  Builtin.SmallTypes.stopIteration
              | x => unsupported "internal:set_iterator")
      (fun fin s' => ∃ v, fin = Fin.done (Flow.ret v) ∧ Q (some v) s') (fun e s' => wpAny (model P w) A (isInstance e (Value.type "StopIteration") >>= fun b => if b = true then pure none else throw e) Q E s') s) : wpAny (model P w) A (pyNext (.ref I)) Q E s := by
  have hTy : s.TypeIs (.ref I) "set_iterator" := ⟨_, hI, rfl⟩
  refine wpAny_bind (wpAny_attempt (wpAny_callSpecial?_slot hTy slot_si_next (wpAny_call_entry slot_si_next hTy entry_si_next ?_ (args_si_next _))))
  show wpAny _ _ (fieldsOf (.ref I) >>= _) _ _ _
  refine wpAny_bind (wpAny_fieldsOf hI rfl ?_)
  refine wpAny_bind (wpAny_setEntries_of ha hd hf ?_)
  dsimp only
  rw [if_neg (by simp)]
  refine wpAny_mono h (fun fin s' ⟨v, e, q⟩ => ⟨v, e, wpAny_pure q⟩) fun e s' q => q
theorem si_next_drawn {I a T : Addr} {i ep : Nat} {o : Obj} {es : Array (Int × Value)} {t : SetTable} {places : List Nat} {pl : Nat} {hx : Int} {x : Value} {Q : Option Value → Shared → Prop} (hI : s.heap.get? I = some (siObj (.ref T) i a es.size ep)) (ha : s.heap.get? a = some o) (hd : o.data = .set es ep t) (hf : t.fits es.size = true)
    (hT : s.heap.get? T = some { cls := .type "tuple", data := .seq (places.map fun (k : Nat) => rawInt (k : Int)).toArray }) (hp : places[i]? = some pl) (he : es[pl]? = some (hx, x))
    (hQ : ∀ h', h'.get? I = some (siObj (.ref T) (i + 1) a es.size ep) → Heap.SameBut I s.heap h' → Q (some x) { s with heap := h' }) : wpAny (model P w) A (pyNext (.ref I)) Q E s := by
  refine si_start (n := es.size) hI ha hd hf ?_
  dsimp only
  refine wpAny_bind (wpAny_seqItems hT rfl ?_)
  dsimp only
  rw [show (places.map fun (k : Nat) => rawInt (k : Int)).toArray[i]? = some (rawInt (pl : Int)) from by simp [hp]]
  unfold rawInt
  dsimp only
  refine wpAny_bind ?_
  unfold setNextDrawn
  refine wpAny_bind (wpAny_setState_of ha hd hf ?_)
  dsimp only
  rw [if_neg (by simp), Int.toNat_natCast, he]
  refine wpAny_pure (wpAny_bind (wpAny_setField_rec hI (by simp) fun h' hI' sb => wpAny_pure ⟨x, rfl, hQ h' ?_ sb⟩))
  exact hI'
theorem si_end_drawn {I a T : Addr} {i ep : Nat} {o : Obj} {es : Array (Int × Value)} {t : SetTable} {places : List Nat} {Q : Option Value → Shared → Prop} (hh : A.handled = none) (hI : s.heap.get? I = some (siObj (.ref T) i a es.size ep)) (ha : s.heap.get? a = some o) (hd : o.data = .set es ep t) (hf : t.fits es.size = true)
    (hT : s.heap.get? T = some { cls := .type "tuple", data := .seq (places.map fun (k : Nat) => rawInt (k : Int)).toArray }) (hp : places[i]? = none)
    (hQ : ∀ h', Heap.ExtBut I s.heap h' → Q none { s with heap := h' }) : wpAny (model P w) A (pyNext (.ref I)) Q E s := by
  refine si_start (n := es.size) hI ha hd hf ?_
  dsimp only
  refine wpAny_bind (wpAny_seqItems hT rfl ?_)
  dsimp only
  rw [show (places.map fun (k : Nat) => rawInt (k : Int)).toArray[i]? = none from by simp [hp]]
  dsimp only
  refine wpAny_bind (wpAny_setField_rec hI (by simp) fun h1 hI1 sb1 => wpAny_bind (wpAny_setField_rec hI1 (by simp) fun h2 hI2 sb2 => ?_))
  refine stop_it (A := A.in1) hh fun h' e k ⟨oe, he, hc⟩ => wpAny_bind (wpAny_isInstance ⟨oe, he, hc⟩ isSubtype_stop ?_)
  rw [if_pos rfl]
  exact wpAny_pure (hQ h' fun b ob hb eb => k b ob ((sb2.2 b hb).trans ((sb1.2 b hb).trans eb)))
theorem si_next_text {I a : Addr} {i ep : Nat} {o : Obj} {es : Array (Int × Value)} {t : SetTable} {e : Int × Value} {Q : Option Value → Shared → Prop} (hb : w.params.followText "set-order" = true) (hI : s.heap.get? I = some (siObj (.int 0 0) i a es.size ep)) (ha : s.heap.get? a = some o) (hd : o.data = .set es ep t) (hf : t.fits es.size = true)
    (he : (pickOrder (w.params.setOrder a ep) es)[i]? = some e)
    (hQ : ∀ h', h'.get? I = some (siObj (.int 0 0) (i + 1) a es.size ep) → Heap.SameBut I s.heap h' → Q (some e.2) { s with heap := h' }) : wpAny (model P w) A (pyNext (.ref I)) Q E s := by
  refine si_start (n := es.size) hI ha hd hf ?_
  dsimp only
  refine wpAny_bind ?_
  unfold setNext
  refine wpAny_bind (wpAny_setState_of ha hd hf ?_)
  dsimp only
  refine wpAny_bind (wpAny_bind (wpAny_askSetting (wpAny_pure ?_)))
  rw [if_pos (show (model P w).w.params.followText "set-order" = true from hb), if_neg (by simp)]
  refine wpAny_bind ?_
  unfold setWalk
  refine wpAny_bind (wpAny_setState_of ha hd hf ?_)
  dsimp only
  refine wpAny_bind (wpAny_bind (wpAny_askSetting (wpAny_pure ?_)))
  rw [if_pos (show (model P w).w.params.followText "set-order" = true from hb)]
  refine wpAny_bind (wpAny_askSetting (wpAny_pure (wpAny_pure ?_)))
  rw [show (pickOrder ((model P w).w.params.setOrder a ep) es)[i]? = some e from he]
  dsimp only [Option.map_some]
  refine wpAny_bind (wpAny_setField_rec hI (by simp) fun h1 hI1 sb1 => wpAny_bind (wpAny_setField_rec hI1 (by simp) fun h2 hI2 sb2 => wpAny_pure ⟨_, rfl, hQ h2 ?_ (sb1.trans sb2)⟩))
  exact hI2
theorem si_end_text {I a : Addr} {i ep : Nat} {o : Obj} {es : Array (Int × Value)} {t : SetTable} {Q : Option Value → Shared → Prop} (hh : A.handled = none) (hb : w.params.followText "set-order" = true) (hI : s.heap.get? I = some (siObj (.int 0 0) i a es.size ep)) (ha : s.heap.get? a = some o) (hd : o.data = .set es ep t) (hf : t.fits es.size = true)
    (he : (pickOrder (w.params.setOrder a ep) es)[i]? = none)
    (hQ : ∀ h', Heap.ExtBut I s.heap h' → Q none { s with heap := h' }) : wpAny (model P w) A (pyNext (.ref I)) Q E s := by
  refine si_start (n := es.size) hI ha hd hf ?_
  dsimp only
  refine wpAny_bind ?_
  unfold setNext
  refine wpAny_bind (wpAny_setState_of ha hd hf ?_)
  dsimp only
  refine wpAny_bind (wpAny_bind (wpAny_askSetting (wpAny_pure ?_)))
  rw [if_pos (show (model P w).w.params.followText "set-order" = true from hb), if_neg (by simp)]
  refine wpAny_bind ?_
  unfold setWalk
  refine wpAny_bind (wpAny_setState_of ha hd hf ?_)
  dsimp only
  refine wpAny_bind (wpAny_bind (wpAny_askSetting (wpAny_pure ?_)))
  rw [if_pos (show (model P w).w.params.followText "set-order" = true from hb)]
  refine wpAny_bind (wpAny_askSetting (wpAny_pure (wpAny_pure ?_)))
  rw [show (pickOrder ((model P w).w.params.setOrder a ep) es)[i]? = none from he]
  dsimp only [Option.map_none]
  refine wpAny_bind (wpAny_setField_rec hI (by simp) fun h1 hI1 sb1 => ?_)
  refine stop_it (A := A.in1) hh fun h' e k ⟨oe, he, hc⟩ => wpAny_bind (wpAny_isInstance ⟨oe, he, hc⟩ isSubtype_stop ?_)
  rw [if_pos rfl]
  exact wpAny_pure (hQ h' fun b ob hb eb => k b ob ((sb1.2 b hb).trans eb))
theorem below_one (j k : Nat) : SetTable.below #[j] k = if j < k then 1 else 0 := by
  unfold SetTable.below
  show SetTable.below.go #[j] k 1 0 1 = _
  rw [SetTable.below.go.eq_def]
  by_cases h : j < k
  · simp [h, SetTable.below.go.eq_def]
  · simp [h, SetTable.below.go.eq_def]
theorem si_slot {I a : Addr} {i ep slot : Nat} {o : Obj} {es : Array (Int × Value)} {t : SetTable} {Q : Option Value → Shared → Prop} (hb : w.params.followText "set-order" = false) (hI : s.heap.get? I = some (siObj (.int slot 0) i a es.size ep)) (ha : s.heap.get? a = some o) (hd : o.data = .set es ep t) (hf : t.fits es.size = true) (hl : t.led = true) (h1 : es.size ≤ 1)
    (h : wpAny (model P w) A.in1 (match (match es[SetTable.below t.place slot]?, t.place[SetTable.below t.place slot]? with
              | some (_, x), some j => some (x, j + 1)
              | _, _ => none) with
              | some (x, next) => do
                setField (.ref I) 0 (rawInt ↑(next : Nat))
                setField (.ref I) 1 (rawInt (i + 1))
                ret x
              | none => do
                setField (.ref I) 2 Value.none
                Builtin.SmallTypes.stopIteration)
      (fun fin s' => ∃ v, fin = Fin.done (Flow.ret v) ∧ Q (some v) s') (fun e s' => wpAny (model P w) A (isInstance e (Value.type "StopIteration") >>= fun b => if b = true then pure none else throw e) Q E s') s) : wpAny (model P w) A (pyNext (.ref I)) Q E s := by
  refine si_start (n := es.size) hI ha hd hf ?_
  dsimp only
  refine wpAny_bind ?_
  unfold setNext
  refine wpAny_bind (wpAny_setState_of ha hd hf ?_)
  dsimp only
  refine wpAny_bind (wpAny_bind (wpAny_askSetting (wpAny_pure ?_)))
  rw [if_neg (show ¬ ((model P w).w.params.followText "set-order" = true) from fun z => by rw [show (model P w).w.params.followText "set-order" = false from hb] at z; cases z)]
  split
  · rename_i hz
    have hz : (!t.plain && decide (es.size > 1)) = true := hz
    rw [Bool.and_eq_true] at hz
    have := of_decide_eq_true hz.2
    omega
  refine wpAny_bind ?_
  show wpAny _ _ (if (!t.led && !es.isEmpty) = true then unsupported "set:maker-not-led" else pure ()) _ _ _
  rw [if_neg (by rw [hl]; simp)]
  refine wpAny_pure (wpAny_pure ?_)
  exact h
theorem perm_erase {α : Type} : ∀ (l : List α) (i : Nat) (h : i < l.length), List.Perm (l[i] :: l.eraseIdx i) l
  | [], i, h => absurd h (by simp)
  | x :: l, 0, h => .refl _
  | x :: l, i + 1, h => by
    have ih := perm_erase l i (by simpa using h)
    rw [List.eraseIdx_cons_succ, List.getElem_cons_succ]
    exact (List.Perm.swap _ _ _).trans (.cons _ ih)
theorem drawOrderS {α : Type} : ∀ (n : Nat) (xs : List α) {s : Shared} {Q : List α → Shared → Prop}, xs.length ≤ n → (∀ ys d, List.Perm ys xs → Q ys { s with drawn := d }) → wpAny (model P w) A (drawOrder n xs) Q E s
  | 0, xs, s, Q, hn, hQ => by
    have : xs = [] := List.length_eq_zero_iff.mp (Nat.le_zero.mp hn)
    subst this
    rw [drawOrder.eq_def]
    exact wpAny_pure (hQ [] s.drawn .nil)
  | n + 1, [], s, Q, hn, hQ => by
    rw [drawOrder.eq_def]
    exact wpAny_pure (hQ [] s.drawn .nil)
  | n + 1, x :: xs, s, Q, hn, hQ => by
    rw [drawOrder.eq_def]
    dsimp only
    refine wpAny_bind (chooseS (by simp) fun i d hi => wpAny_pure ?_)
    rw [List.getElem?_eq_getElem hi]
    dsimp only
    refine wpAny_bind (drawOrderS n ((x :: xs).eraseIdx i) (by rw [List.length_eraseIdx_of_lt hi]; omega) fun ys d' hp => wpAny_pure (hQ _ _ ?_))
    exact (List.Perm.cons _ hp).trans (perm_erase _ _ hi)
theorem pickOrder_perm {α : Type} (next : Nat → Nat) (xs : Array α) : List.Perm (pickOrder next xs).toList xs.toList := by
  have gen : ∀ (f k : Nat) (left : List α) (out : Array α), left.length = f → List.Perm (pickOrder.go next f k left out).toList (out.toList ++ left) := by
    intro f
    induction f with
    | zero =>
      intro k left out h
      rw [List.length_eq_zero_iff.mp h, List.append_nil, pickOrder.go.eq_def]
    | succ f ih =>
      intro k left out h
      rw [pickOrder.go.eq_def]
      dsimp only
      have hi : next k % left.length < left.length := Nat.mod_lt _ (by omega)
      rw [List.getElem?_eq_getElem hi]
      dsimp only
      refine (ih (k + 1) _ _ (by rw [List.length_eraseIdx_of_lt hi]; omega)).trans ?_
      rw [Array.toList_push, List.append_assoc]
      exact List.Perm.append_left _ (perm_erase _ _ hi)
  unfold pickOrder
  have := gen xs.size 0 xs.toList #[] (by simp)
  simpa using this
def SiAt (w : World) (I a : Addr) (es : Array (Int × Value)) (ep : Nat) (t : SetTable) (ord : List Value) (fs : List Addr) (i : Nat) (h : Heap) : Prop :=
  (∃ o, h.get? a = some o ∧ o.data = .set es ep t) ∧
  ((∃ (T : Addr) (places : List Nat), fs = [T] ∧ h.get? I = some (siObj (.ref T) i a es.size ep) ∧ h.get? T = some { cls := .type "tuple", data := .seq (places.map fun (k : Nat) => rawInt (k : Int)).toArray } ∧ ord = places.map (fun k => ((es[k]?).getD (0, .none)).2) ∧ places.length = es.size ∧ ∀ k ∈ places, k < es.size) ∨
   (fs = [] ∧ w.params.followText "set-order" = true ∧ h.get? I = some (siObj (.int 0 0) i a es.size ep) ∧ ord = (pickOrder (w.params.setOrder a ep) es).toList.map (·.2)) ∨
   (fs = [] ∧ w.params.followText "set-order" = false ∧ es.size ≤ 1 ∧ t.led = true ∧ ord = es.toList.map (·.2) ∧ ∃ slot : Nat, h.get? I = some (siObj (.int slot 0) i a es.size ep) ∧ (i = 0 → slot = 0) ∧ (i = 1 → ∃ j, t.place = #[j] ∧ slot = j + 1)))
theorem SiAt.keep {w : World} {I a : Addr} {es : Array (Int × Value)} {ep : Nat} {t : SetTable} {ord : List Value} {fs : List Addr} {i : Nat} {h h' : Heap} (x : SiAt w I a es ep t ord fs i h) (k : ∀ b ∈ I :: a :: fs, ∀ o, h.get? b = some o → h'.get? b = some o) : SiAt w I a es ep t ord fs i h' := by
  obtain ⟨⟨o, h1, h2⟩, x⟩ := x
  refine ⟨⟨o, k a (by simp) o h1, h2⟩, ?_⟩
  rcases x with ⟨T, places, e, x1, x2, r⟩ | ⟨e, b, x1, r⟩ | ⟨e, b, z, l, r, slot, x1, r2⟩
  · exact .inl ⟨T, places, e, k I (by simp) _ x1, k T (by rw [e]; simp) _ x2, r⟩
  · exact .inr (.inl ⟨e, b, k I (by simp) _ x1, r⟩)
  · exact .inr (.inr ⟨e, b, z, l, r, slot, k I (by simp) _ x1, r2⟩)
theorem arr_one {α : Type} : ∀ {x : Array α}, x.size = 1 → ∃ j, x = #[j]
  | ⟨[j]⟩, _ => ⟨j, rfl⟩
theorem walks_set {I a : Addr} {es : Array (Int × Value)} {ep : Nat} {t : SetTable} {ord : List Value} {fs : List Addr} (hh : A.handled = none) (hf : t.fits es.size = true) (haI : a ≠ I) (hfI : ∀ T ∈ fs, T ≠ I) :
    Walks P w A I (I :: a :: fs) [I] es.size (fun i v => ord[i]? = some v) (SiAt w I a es ep t ord fs) := by
  have upd1 : ∀ {h h' : Heap} {b : Addr}, Heap.SameBut I h h' → b ≠ I → ∀ o, h.get? b = some o → h'.get? b = some o := fun sb hb o e => (sb.2 _ hb).trans e
  refine ⟨fun b hb => by rw [List.mem_singleton.mp hb]; simp, fun i h h' x k => x.keep k, fun i s Q E hi x q => ?_, fun s Q E x q => ?_, fun i s Q E x q => ?_⟩
  · obtain ⟨⟨o, h1, h2⟩, x⟩ := x
    rcases x with ⟨T, places, e, x1, x2, r1, r2, r3⟩ | ⟨e, b, x1, r⟩ | ⟨e, b, z, l, r, slot, x1, r2, r3⟩
    · have hp : places[i]? = some (places[i]'(by omega)) := List.getElem?_eq_getElem _
      have hk := r3 _ (List.getElem_mem (by omega : i < places.length))
      refine si_next_drawn x1 h1 h2 hf x2 hp (hx := (es[places[i]'(by omega)]'hk).1) (x := (es[places[i]'(by omega)]'hk).2) (by rw [Array.getElem?_eq_getElem hk]) fun h' hI' sb => ?_
      refine q _ h' s.toks ?_ ⟨⟨o, upd1 sb haI _ h1, h2⟩, .inl ⟨T, places, e, hI', upd1 sb (hfI T (by rw [e]; simp)) _ x2, r1, r2, r3⟩⟩ fun b o hb e => upd1 sb (by simpa using hb) _ e
      rw [r1, List.getElem?_map, hp]
      simp [Array.getElem?_eq_getElem hk]
    · have hsz : (pickOrder (w.params.setOrder a ep) es).size = es.size := by have := (pickOrder_perm (w.params.setOrder a ep) es).length_eq; simpa using this
      have he : (pickOrder (w.params.setOrder a ep) es)[i]? = some ((pickOrder (w.params.setOrder a ep) es)[i]'(by omega)) := Array.getElem?_eq_getElem _
      refine si_next_text b x1 h1 h2 hf he fun h' hI' sb => ?_
      refine q _ h' s.toks ?_ ⟨⟨o, upd1 sb haI _ h1, h2⟩, .inr (.inl ⟨e, b, hI', r⟩)⟩ fun b o hb e => upd1 sb (by simpa using hb) _ e
      rw [r, List.getElem?_map, Array.getElem?_toList, he]
      rfl
    · have i0 : i = 0 := by omega
      subst i0
      have n1 : es.size = 1 := by omega
      have hs := r2 rfl
      subst hs
      have hpl : t.place.size = 1 := by
        unfold SetTable.fits at hf
        rw [Bool.and_eq_true, beq_iff_eq] at hf
        omega
      obtain ⟨j, hj⟩ := arr_one hpl
      obtain ⟨e0, he0⟩ := arr_one n1
      refine si_slot b x1 h1 h2 hf l z ?_
      rw [hj, below_one, if_neg (Nat.not_lt_zero _), he0]
      refine wpAny_bind (wpAny_setField_rec x1 (by simp) fun g1 hI1 sb1 => wpAny_bind (wpAny_setField_rec hI1 (by simp) fun g2 hI2 sb2 => wpAny_pure ⟨_, rfl, ?_⟩))
      have sb := sb1.trans sb2
      refine q _ g2 s.toks ?_ ⟨⟨o, upd1 sb haI _ h1, h2⟩, .inr (.inr ⟨e, b, z, l, r, j + 1, ?_, (fun z => absurd z (Nat.succ_ne_zero 0)), fun _ => ⟨j, hj, rfl⟩⟩)⟩ fun b o hb e => upd1 sb (by simpa using hb) _ e
      · rw [r, he0]; rfl
      · exact hI2
  · obtain ⟨⟨o, h1, h2⟩, x⟩ := x
    rcases x with ⟨T, places, e, x1, x2, r1, r2, r3⟩ | ⟨e, b, x1, r⟩ | ⟨e, b, z, l, r, slot, x1, r2, r3⟩
    · exact si_end_drawn hh x1 h1 h2 hf x2 (List.getElem?_eq_none (by omega)) fun h' eb => q h' s.toks fun b o hb e => eb b o (by simpa using hb) e
    · have hsz : (pickOrder (w.params.setOrder a ep) es).size = es.size := by have := (pickOrder_perm (w.params.setOrder a ep) es).length_eq; simpa using this
      exact si_end_text hh b x1 h1 h2 hf (Array.getElem?_eq_none (by omega)) fun h' eb => q h' s.toks fun b o hb e => eb b o (by simpa using hb) e
    · refine si_slot b x1 h1 h2 hf l z ?_
      have hnone : es[SetTable.below t.place slot]? = none := by
        by_cases n1 : es.size = 1
        · obtain ⟨j, hj, hs⟩ := r3 n1
          rw [hj, below_one, if_pos (by omega)]
          exact Array.getElem?_eq_none (by omega)
        · exact Array.getElem?_eq_none (by omega)
      rw [hnone]
      dsimp only
      refine wpAny_bind (wpAny_setField_rec x1 (by simp) fun g1 hI1 sb1 => ?_)
      refine stop_it (A := A.in1) hh fun h' e k ⟨oe, he, hc⟩ => wpAny_bind (wpAny_isInstance ⟨oe, he, hc⟩ isSubtype_stop ?_)
      rw [if_pos rfl]
      exact wpAny_pure (q h' s.toks fun b ob hb eb => k b ob ((sb1.2 b (by simpa using hb)).trans eb))
  · have hT : s.TypeIs (.ref I) "set_iterator" := by
      obtain ⟨_, x⟩ := x
      rcases x with ⟨T, places, e, x1, _⟩ | ⟨e, b, x1, r⟩ | ⟨e, b, z, l, r, slot, x1, r2, r3⟩
      · exact ⟨_, x1, rfl⟩
      · exact ⟨_, x1, rfl⟩
      · exact ⟨_, x1, rfl⟩
    exact wpAny_pyIter_slot hT slot_si_iter (wpAny_call_entry slot_si_iter hT entry_si_iter (id (wpAny_pure ⟨.ref I, rfl, "set_iterator", .builtin "set_iterator.__next__", hT, slot_si_next.lookup, q⟩)) (args_si_iter (.ref I)))
theorem iter_set {a : Addr} {o : Obj} {es : Array (Int × Value)} {ep : Nat} {t : SetTable} {Q : Value → Shared → Prop} (ha : s.heap.get? a = some o) (hx : o.ExactSet) (hd : o.data = .set es ep t) (hf : t.fits es.size = true) (hl : t.led = !(w.params.followText "set-order")) (hp : t.plain = false ∨ es.size ≤ 1) (hz : es.size ≤ sizeLine)
    (hQ : ∀ (I : Addr) (fs : List Addr) (ord : List Value) (h' : Heap) (d : Drawn), s.heap.objs.size ≤ I → (∀ T ∈ fs, s.heap.objs.size ≤ T ∧ T ≠ I) → (∀ b ∈ I :: fs, b < h'.objs.size) → (∀ b o, s.heap.get? b = some o → h'.get? b = some o) → List.Perm ord (es.toList.map (·.2)) → SiAt w I a es ep t ord fs 0 h' → Q (.ref I) { s with heap := h', drawn := d }) :
    wpAny (model P w) A (pyIter (.ref a)) Q E s := by
  have hT : s.TypeIs (.ref a) "set" := ⟨o, ha, hx.1⟩
  refine wpAny_pyIter_slot hT F.slot_set_iter (wpAny_call_entry F.slot_set_iter hT entry_set_iter ?_ (F.args_set_iter_1 (.ref a)))
  show wpAny _ _ (Builtin.Frozenset.slot0 "__iter__" { pos := [.ref a] } >>= _) _ _ _
  refine wpAny_bind ?_
  show wpAny _ _ (Builtin.Frozenset.addrOf (.ref a)) _ _ _
  refine wpAny_pure ?_
  refine wpAny_bind (wpAny_bind (wpAny_setEntries_of ha hd hf (wpAny_pure ?_)))
  refine wpAny_bind ?_
  unfold setDrawn
  refine wpAny_bind (wpAny_setState_of ha hd hf ?_)
  dsimp only
  refine wpAny_bind (wpAny_bind (wpAny_askSetting (wpAny_pure (wpAny_pure ?_))))
  dsimp only
  split
  · rename_i hc
    have hc : (!(w.params.followText "set-order") && (!t.plain && decide (es.size > 1))) = true := hc
    refine wpAny_bind (drawOrderS es.size (List.range es.size) (by simp) fun ys d hy => ?_)
    have hyl : ys.length = es.size := by have := hy.length_eq; simpa using this
    refine wpAny_bind (wpAny_newTuple (s := { s with drawn := d }) ?_ (by rw [List.length_map, hyl]; exact hz))
    dsimp only
    have ha1 : (s.heap.push { cls := Value.type "tuple", data := Data.seq (List.map (fun (i : Nat) => rawInt ↑i) ys).toArray }).get? a = some o := Heap.get?_push_of_some _ ha
    refine wpAny_bind (wpAny_bind (wpAny_setState_of (s := { s with heap := s.heap.push { cls := Value.type "tuple", data := Data.seq (List.map (fun (i : Nat) => rawInt ↑i) ys).toArray }, drawn := d }) ha1 hd hf (wpAny_pure ?_)))
    dsimp only
    refine wpAny_bind (wpAny_newObj_type ?_ (hd := by show 5 ≤ sizeLine + 2; decide))
    generalize hp1 : s.heap.push { cls := Value.type "tuple", data := Data.seq (List.map (fun (i : Nat) => rawInt ↑i) ys).toArray } = g1 at ha1
    have z1 : g1.objs.size = s.heap.objs.size + 1 := by rw [← hp1]; exact Heap.size_push _ _
    have eT : g1.get? s.heap.objs.size = some { cls := Value.type "tuple", data := Data.seq (List.map (fun (i : Nat) => rawInt ↑i) ys).toArray } := by rw [← hp1]; exact Heap.get?_push_size _ rfl
    have k1 : ∀ b o, s.heap.get? b = some o → g1.get? b = some o := fun b o e => by rw [← hp1]; exact Heap.get?_push_of_some _ e
    have eI : (g1.push (siObj (.ref s.heap.objs.size) 0 a es.size ep)).get? g1.objs.size = some (siObj (.ref s.heap.objs.size) 0 a es.size ep) := Heap.get?_push_size _ rfl
    refine wpAny_pure ⟨_, rfl, "set_iterator", _, ⟨_, eI, rfl⟩, slot_si_next.lookup, ?_⟩
    have szE : (g1.push (siObj (.ref s.heap.objs.size) 0 a es.size ep)).objs.size = s.heap.objs.size + 2 := by rw [Heap.size_push, z1]
    refine hQ g1.objs.size [s.heap.objs.size] (ys.map fun k => ((es[k]?).getD (0, .none)).2) _ d (by rw [z1]; exact Nat.le_succ _) (fun T hT => by rw [List.mem_singleton.mp hT, z1]; exact ⟨Nat.le_refl _, Nat.ne_of_lt (Nat.lt_succ_self _)⟩) (fun b hb => ?_) (fun b o e => Heap.get?_push_of_some _ (k1 b o e)) ?_ ⟨⟨o, Heap.get?_push_of_some _ ha1, hd⟩, .inl ⟨_, ys, rfl, eI, Heap.get?_push_of_some _ eT, rfl, hyl, fun k hk => by have := hy.mem_iff.mp hk; simpa using this⟩⟩
    · rw [Heap.size_push]
      rcases List.mem_cons.mp hb with rfl | hb
      · exact Nat.lt_succ_self _
      · rw [List.mem_singleton.mp hb]
        show s.heap.objs.size < g1.objs.size + 1
        rw [z1]; exact Nat.lt_succ_of_lt (Nat.lt_succ_self _)
    · refine (hy.map _).trans ?_
      have e : List.map (fun k => ((es[k]?).getD (0, Value.none)).2) (List.range es.size) = es.toList.map (·.2) := by
        apply List.ext_getElem
        · simp
        · intro i h1 h2
          simp only [List.length_map, List.length_range] at h1
          simp [Array.getElem?_eq_getElem h1]
      rw [e]
  · rename_i hc
    have hc : ¬ ((!(w.params.followText "set-order") && (!t.plain && decide (es.size > 1))) = true) := hc
    refine wpAny_bind (wpAny_pure ?_)
    refine wpAny_bind (wpAny_bind (wpAny_setState_of ha hd hf (wpAny_pure ?_)))
    dsimp only
    refine wpAny_bind (wpAny_newObj_type ?_ (hd := by show 5 ≤ sizeLine + 2; decide))
    have eI : (s.heap.push (siObj (.int 0 0) 0 a es.size ep)).get? s.heap.objs.size = some (siObj (.int 0 0) 0 a es.size ep) := Heap.get?_push_size _ rfl
    refine wpAny_pure ⟨_, rfl, "set_iterator", _, ⟨_, eI, rfl⟩, slot_si_next.lookup, ?_⟩
    have szE : (s.heap.push (siObj (.int 0 0) 0 a es.size ep)).objs.size = s.heap.objs.size + 1 := Heap.size_push _ _
    by_cases hb : w.params.followText "set-order" = true
    · refine hQ s.heap.objs.size [] ((pickOrder (w.params.setOrder a ep) es).toList.map (·.2)) _ s.drawn (Nat.le_refl _) (fun T hT => absurd hT (by simp)) (fun b hb => by rw [List.mem_singleton.mp hb, Heap.size_push]; exact Nat.lt_succ_self _) (fun b o e => Heap.get?_push_of_some _ e) ((pickOrder_perm _ _).map _) ⟨⟨o, Heap.get?_push_of_some _ ha, hd⟩, .inr (.inl ⟨rfl, hb, eI, rfl⟩)⟩
    · have hb' : w.params.followText "set-order" = false := by simpa using hb
      have hsz : es.size ≤ 1 := by
        rcases hp with hp | hp
        · rw [hb', hp] at hc
          simp at hc
          exact hc
        · exact hp
      refine hQ s.heap.objs.size [] (es.toList.map (·.2)) _ s.drawn (Nat.le_refl _) (fun T hT => absurd hT (by simp)) (fun b hb => by rw [List.mem_singleton.mp hb, Heap.size_push]; exact Nat.lt_succ_self _) (fun b o e => Heap.get?_push_of_some _ e) (.refl _) ⟨⟨o, Heap.get?_push_of_some _ ha, hd⟩, .inr (.inr ⟨rfl, hb', hsz, by rw [hl, hb']; rfl, rfl, 0, eI, fun _ => rfl, fun z => absurd z (by decide)⟩)⟩
end
end L2
set_option Elab.async false
set_option linter.all false
set_option maxRecDepth 100000
set_option maxHeartbeats 2000000
namespace L2
open PySem PySem.Spec PyProof.Rows Ken
section
variable {P : Program} {w : World} {A : Around} {E : Value → Shared → Prop} {s : Shared}
theorem split_set_len : splitId "set.__len__" = some ("set", "__len__") := by decide +kernel
theorem hint_set {a : Addr} {Q : Bool → Shared → Prop} (hT : s.TypeIs (.ref a) "set") (h : Q false s) : wpAny (model P w) A (Builtin.List.listLengthHint (.ref a)) Q E s := by
  unfold Builtin.List.listLengthHint
  refine wpAny_bind (wpAny_specialOf hT F.slot_set_len.lookup ?_)
  dsimp only
  rw [split_set_len]
  dsimp only
  refine wpAny_bind (wpAny_isInstance hT sub_set_self ?_)
  rw [if_neg (by decide)]
  refine wpAny_ite_split (fun _ => wpAny_bind (wpAny_typeOf hT (wpAny_pure h))) fun hz => absurd (by first | rfl | decide +kernel) hz
theorem extend_set {a S : Addr} {o : Obj} {es : Array (Int × Value)} {ep : Nat} {t : SetTable} {R : Result → Shared → Prop} {res : Value} {c₀ : Nat} (hh : A.handled = none) (ha : s.heap.get? a = some o) (hx : o.ExactSet) (hd : o.data = .set es ep t) (hf : t.fits es.size = true) (hl : t.led = !(w.params.followText "set-order")) (hp : t.plain = false ∨ es.size ≤ 1) (hz : es.size ≤ sizeLine)
    (hS : s.heap.get? S = some { cls := .type "list", data := .seq #[] c₀ })
    (hR : ∀ (h' : Heap) (tk : Nat) (d : Drawn) (vs : List Value) (c' : Nat), (∀ b o, b ≠ S → s.heap.get? b = some o → h'.get? b = some o) → h'.get? S = some { cls := .type "list", data := .seq vs.toArray c' } → List.Perm vs (es.toList.map (·.2)) → R (.ok (.ret res)) { s with heap := h', toks := tk, drawn := d }) :
    wpAny (model P w) A.in1 (Builtin.List.listExtendWith (.ref S) (.ref a) res) (fun fin s' => match fin with
      | Fin.done f => R (.ok f) s'
      | Fin.again c' => c'.quiet = true ∧ codeAny (model P w) A c' R s') (fun e s' => R (.error e) s') s := by
  have hT : s.TypeIs (.ref a) "set" := ⟨o, ha, hx.1⟩
  have hSa : S ≠ a := fun z => by
    rw [z, ha] at hS
    cases hS
    cases hd
  unfold Builtin.List.listExtendWith
  refine wpAny_bind (wpAny_typeOf hT ?_)
  rw [if_neg (show ¬ ((Builtin.List.listSameRef (.ref S) (.ref a) || Value.type "set" == Value.type "list" || Value.type "set" == Value.type "tuple") = true) from by
    rw [show Builtin.List.listSameRef (.ref S) (.ref a) = false from by
      show (S == a) = false
      simpa using hSa]
    decide)]
  refine wpAny_bind (iter_set ha hx hd hf hl hp hz fun I fs ord h1 d hI hfs hlt k1 hperm st => ?_)
  have ol : ord.length = es.size := by have := hperm.length_eq; simpa using this
  have haI : a ≠ I := Nat.ne_of_lt (Nat.lt_of_lt_of_le (Heap.lt_size ha) hI)
  have hSI : S ≠ I := Nat.ne_of_lt (Nat.lt_of_lt_of_le (Heap.lt_size hS) hI)
  have hSf : S ∉ I :: a :: fs := fun z => by
    rcases List.mem_cons.mp z with z | z
    · exact hSI z
    rcases List.mem_cons.mp z with z | z
    · exact hSa z
    · exact Nat.ne_of_lt (Nat.lt_of_lt_of_le (Heap.lt_size hS) (hfs S z).1) rfl
  have hS1 := k1 S _ hS
  have hT1 : ({ s with heap := h1, drawn := d } : Shared).TypeIs (.ref a) "set" := ⟨o, k1 a _ ha, hx.1⟩
  have W := walks_set (P := P) (w := w) (A := A.in1) (I := I) (a := a) (es := es) (ep := ep) (t := t) (ord := ord) (fs := fs) hh hf haI fun T hT' => (hfs T hT').2
  have key : ∀ (h : Heap) (c₁ tk : Nat), SiAt w I a es ep t ord fs 0 h → (∀ b o, b ≠ S → s.heap.get? b = some o → h.get? b = some o) → h.get? S = some { cls := .type "list", data := .seq #[] c₁ } →
      codeAny (model P w) A (Code.builtin "list.extend.loop" { pos := [.ref S, .ref I, res] }) R { s with heap := h, toks := tk, drawn := d } := fun h c₁ tk hst hk hS₁ =>
    codeAny_extend_loopS (Walks.toS W) hz S hSf res es.size 0 { s with heap := h, toks := tk, drawn := d } #[] c₁ rfl (Nat.zero_le _) hst hS₁ (ItemsOf.nil _) fun s' acc' c' hm hS' hacc => by
      rw [Moved.eq_with hm]
      refine hR s'.heap s'.toks d acc'.toList c' (fun b o hb e => hm.heap b o (fun hmem => ?_) (hk b o hb e)) (by simpa using hS') ?_
      · rcases List.mem_cons.mp hmem with z | z
        · exact hb z
        · have z' : b = I := List.mem_singleton.mp z
          exact absurd (Heap.lt_size e) (by rw [z']; exact Nat.not_lt.mpr hI)
      · have e : acc'.toList = ord := by
          apply List.ext_getElem?
          intro j
          cases q : acc'.toList[j]? with
          | none =>
            have : acc'.toList.length ≤ j := List.getElem?_eq_none_iff.mp q
            rw [List.getElem?_eq_none (by rw [ol]; have := hacc.1; rw [Array.length_toList] at *; omega)]
          | some v => exact (hacc.2 j v (by simpa using q)).symm
        rw [e]
        exact hperm
  refine wpAny_bind (wpAny_holding (hint_set hT1 ?_))
  refine wpAny_ite_split (fun _ => ?_) fun _ => ?_
  · refine wpAny_bind (wpAny_rule (wpAny_bind ?_))
    have hS2 := Heap.get?_update_self (Obj.mapSeq fun x => x.push Value.none) hS1 rfl
    have hS3 := Heap.get?_update_self (Obj.mapSeq fun x => x.pop) hS2 rfl
    have k3 : ∀ b ob, b ≠ S → h1.get? b = some ob → ((h1.update S (Obj.mapSeq fun x => x.push Value.none)).update S (Obj.mapSeq fun x => x.pop)).get? b = some ob := fun b ob hb e =>
      ((Heap.SameBut.update _ S _).2 b hb).trans (((Heap.SameBut.update _ S _).2 b hb).trans e)
    refine wpAny_bind (wpAny_updateSeq hS1 rfl ?_)
    refine wpAny_updateSeq hS2 rfl ?_
    exact wpAny_pure ⟨plainId_quiet F.plain_extend_loop _, key _ _ s.toks (st.keep fun b hb ob e => k3 b ob (fun z => hSf (z ▸ hb)) e) (fun b ob hb e => k3 b ob hb (k1 b ob e)) hS3⟩
  · exact wpAny_pure ⟨plainId_quiet F.plain_extend_loop _, key h1 c₀ s.toks st (fun b o _ e => k1 b o e) hS1⟩
theorem collect_set {a : Addr} {o : Obj} {es : Array (Int × Value)} {ep : Nat} {t : SetTable} {Q : List Value → Shared → Prop} (hh : A.handled = none) (ha : s.heap.get? a = some o) (hx : o.ExactSet) (hd : o.data = .set es ep t) (hf : t.fits es.size = true) (hl : t.led = !(w.params.followText "set-order")) (hp : t.plain = false ∨ es.size ≤ 1) (hz : es.size ≤ sizeLine)
    (hQ : ∀ (h' : Heap) (tk : Nat) (d : Drawn) (vs : List Value), s.heap.objs.size < h'.objs.size → (∀ b o, s.heap.get? b = some o → h'.get? b = some o) → List.Perm vs (es.toList.map (·.2)) → Q vs { s with heap := h', toks := tk, drawn := d }) :
    wpAny (model P w) A (collect (.ref a)) Q E s := by
  refine wpAny_bind (wpAny_runValue (codeAny_builtin entry_proto_collect' ?_))
  rw [Around.under_plainId F.plain_proto_collect { pos := [Value.ref a] }]
  refine wpAny_bind (wpAny_newObj_type (wpAny_pure ⟨plainId_quiet F.plain_list_iadd _, codeAny_builtin entry_list_iadd' ?_⟩))
  rw [Around.under_plainId F.plain_list_iadd { pos := [Value.ref s.heap.objs.size, Value.ref a] }]
  show wpAny _ _ (Builtin.List.listExtendWith (.ref s.heap.objs.size) (.ref a) (.ref s.heap.objs.size)) _ _ _
  have hS : (s.heap.push { cls := Value.type "list", data := Data.seq ([] : List Value).toArray }).get? s.heap.objs.size = some { cls := Value.type "list", data := Data.seq #[] 0 } := Heap.get?_push_size _ rfl
  refine extend_set (P := P) (w := w) (s := { s with heap := s.heap.push { cls := Value.type "list", data := Data.seq ([] : List Value).toArray } }) (R := fun r s' => match r with
    | .ok (.ret v) => wpAny (model P w) A (match v with
      | .ref a => do
        let o ← load a
        match o.data with
          | .seq xs _ => pure xs.toList
          | _ => unsupported "internal:collect"
      | _ => unsupported "internal:collect") Q E s'
    | .ok _ => False
    | .error e => E e s') hh (Heap.get?_push_of_some _ ha) hx hd hf hl hp hz hS fun h' tk d vs c' k hv hperm => ?_
  refine wpAny_bind (wpAny_load hv (wpAny_pure ?_))
  exact hQ h' tk d vs (Heap.lt_size hv) (fun b ob e => k b ob (Nat.ne_of_lt (Heap.lt_size e)) (Heap.get?_push_of_some _ e)) hperm
theorem strs_paired {es : List (Int × Value)} {ys : List Str} (h : Paired (fun (e : Int × Value) (x : Str) => ∃ tk, e.2 = .str x tk) es ys) : StrsAre (es.map (·.2)) ys := by
  induction h with
  | nil => exact .nil
  | cons hx _ ih =>
    obtain ⟨tk, e⟩ := hx
    rw [List.map_cons, e]
    exact .cons _ tk ih
theorem strs_perm {us vs : List Value} {ys : List Str} (p : List.Perm us vs) (h : StrsAre us ys) : ∃ zs, List.Perm ys zs ∧ StrsAre vs zs := by
  induction p generalizing ys with
  | nil => cases h; exact ⟨[], .nil, .nil⟩
  | cons x _ ih =>
    cases h with
    | cons n tk t =>
      obtain ⟨zs, p', q'⟩ := ih t
      exact ⟨_ :: zs, .cons _ p', .cons _ tk q'⟩
  | swap x y l =>
    cases h with
    | cons n tk t =>
      cases t with
      | cons n2 tk2 t => exact ⟨_, .swap _ _ _, .cons _ tk2 (.cons _ tk t)⟩
  | trans _ _ ih1 ih2 =>
    obtain ⟨m1, p1, q1⟩ := ih1 h
    obtain ⟨m2, p2, q2⟩ := ih2 q1
    exact ⟨m2, p1.trans p2, q2⟩
theorem sorted_set {a : Addr} {xs : List Str} {Q : Value → Shared → Prop} (hh : A.handled = none) (st : SetAt P w s.heap a xs) (h64 : xs.length < 64)
    (hQ : ∀ (D : Addr) (h' : Heap) (tk : Nat) (d : Drawn) (out : List Value) (c : Nat) (ys : List Str), s.heap.objs.size ≤ D → (∀ b o, s.heap.get? b = some o → h'.get? b = some o) → h'.get? D = some { cls := .type "list", data := .seq out.toArray c } → StrsAre out ys → List.Perm ys xs → sortedS ys = true → Q (.ref D) { s with heap := h', toks := tk, drawn := d }) :
    wpAny (model P w) A (call (.builtin "sorted") [.ref a]) Q E s := by
  obtain ⟨o, es, ep, t, ys, h1, h2, h3, h4, h5, h6, h7, h8, h9, h10, h11⟩ := st
  have hlen : es.size = xs.length := by have := Paired.length h5; have := h6.length_eq; rw [← Array.length_toList]; omega
  refine Calls.call_function_entry kind_sorted plain_sorted entry_sorted (args_sorted1 (.ref a)) ?_
  show wpAny _ _ (pure () >>= _) _ _ _
  refine wpAny_bind (wpAny_pure (wpAny_bind (collect_set (A := A.in1) hh h1 h2 h3 h9 h10 (h11.imp id fun z => by rw [hlen, z]; exact Nat.zero_le _) (by rw [hlen]; exact Nat.le_trans (Nat.le_of_lt h64) (by decide)) fun h' tk d vs hlt k hperm => ?_)))
  obtain ⟨zs, pz, sz⟩ := strs_perm hperm.symm (strs_paired h5)
  have hvl : vs.length = xs.length := by have := hperm.length_eq; rw [List.length_map] at this; have e := Array.length_toList (xs := es); omega
  refine wpAny_bind (wpAny_newList ?_ (by rw [hvl]; exact Nat.le_trans (Nat.le_of_lt h64) (by decide)))
  have hoL : (h'.push (seqObj "list" vs.toArray 0)).get? h'.objs.size = some (seqObj "list" vs.toArray 0) := Heap.get?_push_size _ rfl
  refine wpAny_bind (wpAny_holding (wpAny_call_entry slot_list_sort ⟨_, hoL, rfl⟩ entry_list_sort ?_ (args_list_sort (.ref h'.objs.size))))
  refine list_sort_treeK strKind_oneLt hoL (StrsAre.keysOf sz) (fun v₁ v₂ rest e => keyKind_strs (e ▸ sz)) (by rw [hvl]; exact h64) fun st' a1 a2 => ?_
  obtain ⟨ss', b1, b2, b3⟩ := sorted_out_str sz a1 a2
  obtain ⟨c, hc⟩ := sortedHeap_at (out := Array.map (fun x => x.snd) (arrOf st')) hoL
  refine ⟨.none, rfl, wpAny_pure ⟨_, rfl, ?_⟩⟩
  have hsz : s.heap.objs.size ≤ h'.objs.size := Nat.le_of_lt hlt
  exact hQ h'.objs.size _ tk d _ c ss' hsz (fun b ob e => by
    have hb := k b ob e
    rw [sortedHeap_old (Nat.ne_of_lt (Heap.lt_size hb)) (by rw [Heap.size_push]; exact Nat.lt_succ_of_lt (Heap.lt_size hb))]
    exact Heap.get?_push_of_some _ hb) (hc.trans (by rw [Array.toArray_toList])) b1 (b2.trans (pz.symm.trans h6)) b3
end
end L2
set_option Elab.async false
set_option linter.all false
set_option maxRecDepth 100000
set_option maxHeartbeats 2000000
namespace L2
open PySem PySem.Spec PyProof.Rows Ken
theorem cxOf_prog (CX : CXT) (P : Program) (w : World) (K : PySem.W.Frag) (mg : Str → Option Value) (base : Heap) (N : List Str) (qual : Str) (scope : Scope) (f : Addr) (cd : Value) (A : Around) (outer : List Env) (s : Shared) (H : Hp) (E : XK) : (cxOf CX P w K mg base N qual scope f cd A outer s H E).prog = P := rfl
theorem cxOf_w (CX : CXT) (P : Program) (w : World) (K : PySem.W.Frag) (mg : Str → Option Value) (base : Heap) (N : List Str) (qual : Str) (scope : Scope) (f : Addr) (cd : Value) (A : Around) (outer : List Env) (s : Shared) (H : Hp) (E : XK) : (cxOf CX P w K mg base N qual scope f cd A outer s H E).w = w := rfl
theorem blk_prog (X : Cx) (N' : List Str) (scope : Scope) (cl : List (Str × Addr)) (s : Shared) (H : Hp) (C : Addr) (ex : List Addr) : (blk X N' scope cl s H C ex).prog = X.prog := rfl
theorem blk_w (X : Cx) (N' : List Str) (scope : Scope) (cl : List (Str × Addr)) (s : Shared) (H : Hp) (C : Addr) (ex : List Addr) : (blk X N' scope cl s H C ex).w = X.w := rfl
section
variable {X : Cx}
theorem call_sortedS {P : Program} {w : World} (hP : X.prog = P) (hw : X.w = w) (hc : X.calm = true) : CallR X (.builtin "sorted") (fun vs H Q => ∃ (a : Addr) (xs : List Str), vs = [.ref a] ∧ H a = some (setO P w a xs) ∧ xs.length < 64 ∧ ∀ l ys, H l = none → List.Perm ys xs → sortedS ys = true → Q (.ref l) (upd H l (.lst (ys.map V.str)))) := by
  subst hP hw
  intro pins s σ H vs us Q I r h
  obtain ⟨a, xs, rfl, ha, hn, q⟩ := h
  obtain ⟨u, rfl, ru⟩ := vals1 r
  cases ru
  refine sorted_set (I.ok.hd hc) (setO_at I.hok ha) hn fun D h' tk d out c ys hD k hD' hs hp hso => ?_
  have hl : H D = none := I.hok.fresh hD
  have yl : ys.length < 64 := by rw [hp.length_eq]; exact hn
  have ok : ObjOk X.prog X.w (upd H D (.lst (ys.map V.str))) h' D (.lst (ys.map V.str)) := ⟨by rw [List.length_map]; exact Nat.le_trans (Nat.le_of_lt yl) (by decide), out, c, vals_of_strs hs, hD'⟩
  exact ⟨.ref D, _, I.call (g' := s.gens) (t' := tk) (d' := d) (ch := []) (Un.laid k hD hl) (I.hok.laid k hD ok) I.bare (fun b z => absurd z (by simp)), rfl, q D ys hl hp hso⟩
end
end L2
namespace Ken
open PySem L2 PyProof.Rows
def Tm.ltrs : Tm → List Str
  | .low => []
  | .ltr w => [w]
  | .nd _ a b => a.ltrs ++ b.ltrs
def Tm.here : Tm → List Str
  | .ltr w => [w]
  | _ => []
theorem pre_here : ∀ t : Tm, t.pre.flatMap Tm.here = t.ltrs
  | .low => rfl
  | .ltr w => rfl
  | .nd k a b => by
    show [] ++ (a.pre ++ b.pre).flatMap Tm.here = a.ltrs ++ b.ltrs
    rw [List.nil_append, List.flatMap_append, pre_here a, pre_here b]
theorem ltrs_inW {ws : List Str} : ∀ {t : Tm}, t.inW ws → ∀ x ∈ t.ltrs, x ∈ ws
  | .low, _, x, h => absurd h (by simp [Tm.ltrs])
  | .ltr w, h, x, hx => by rw [List.mem_singleton.mp hx]; exact h
  | .nd k a b, h, x, hx => (List.mem_append.mp hx).elim (ltrs_inW h.1 x) (ltrs_inW h.2 x)
def sp_letters (K : PySem.W.Frag) : Sp := fun vs H Q _ => ∃ (v : V) (t : Tm) (ws : List Str), vs = [v] ∧ IsT K H v t ∧ t.parts ≤ 300 ∧ t.inW ws ∧ ws.length ≤ 40 ∧
  ∀ (r : Addr) (H' : Hp) (ys : List Str), Same H H' → H r = none → H' r = some (.lst (ys.map V.str)) → ys.Nodup → sortedS ys = true → (∀ x, x ∈ ys ↔ x ∈ t.ltrs) → Q (.ref r) H'
theorem len_le_sub : ∀ {xs ws : List Str}, xs.Nodup → (∀ x ∈ xs, x ∈ ws) → xs.length ≤ ws.length
  | [], _, _, _ => Nat.zero_le _
  | x :: xs, ws, nd, h => by
    have hx := h x List.mem_cons_self
    have ih := len_le_sub (xs := xs) (ws := ws.erase x) (List.nodup_cons.mp nd).2 fun y hy => (List.mem_erase_of_ne (show y ≠ x from fun z => (List.nodup_cons.mp nd).1 (by rw [← z]; exact hy))).mpr (h y (List.mem_cons_of_mem _ hy))
    have := List.length_erase_of_mem hx
    have : 0 < ws.length := List.length_pos_of_mem hx
    rw [List.length_cons]
    omega
end Ken
set_option Elab.async false
set_option linter.all false
set_option maxRecDepth 100000
set_option maxHeartbeats 2000000
namespace L2
open PySem PySem.Spec PyProof.Rows
theorem lookup_out {α : Type} {x : Str} : ∀ {l : List (Str × α)}, (∀ v, (x, v) ∉ l) → l.lookup x = none
  | [], _ => rfl
  | (y, v) :: l, h => by
    have hy : x ≠ y := fun e => h v (by rw [e]; exact List.mem_cons_self)
    rw [List.lookup_cons, show (x == y) = false from by simpa using hy]
    exact lookup_out fun v hv => h v (List.mem_cons_of_mem _ hv)
theorem lookup_rev_zip : ∀ {ps : List Str} {us : List Value} {i : Nat} {x : Str} {u : Value}, ps.Nodup → ps[i]? = some x → us[i]? = some u → (ps.zip us).reverse.lookup x = some u
  | [], _, _, _, _, _, h, _ => by simp at h
  | _ :: _, [], _, _, _, _, _, h => by simp at h
  | p :: ps, w :: us, 0, x, u, nd, h1, h2 => by
    simp at h1 h2
    subst h1; subst h2
    rw [List.zip_cons_cons, List.reverse_cons, List.lookup_append, lookup_out (fun v hv => (List.nodup_cons.mp nd).1 (List.of_mem_zip (List.mem_reverse.mp hv)).1)]
    simp
  | p :: ps, w :: us, i + 1, x, u, nd, h1, h2 => by
    have ih := lookup_rev_zip (List.nodup_cons.mp nd).2 (show ps[i]? = some x by simpa using h1) (show us[i]? = some u by simpa using h2)
    rw [List.zip_cons_cons, List.reverse_cons, List.lookup_append, ih]
    rfl
structure FnScopeC (N ps fv : List Str) (sc : Scope) : Prop where
  kind : sc.kind = .function
  co : sc.isCoroutine = false
  gen : sc.isGenerator = false
  nd : N.Nodup
  pre : N.take (ps ++ fv).length = ps ++ fv
  par : ∀ x ∈ ps, sc.names.lookup x = some .local
  fr : ∀ x ∈ fv, sc.names.lookup x = some .free
  nocell : ∀ y ∈ sc.names, y.2 ≠ .cell
structure Caught (K : PySem.W.Frag) (sc : Scope) (cl : List (Str × Addr)) (fv : List Str) (frv : List V) : Prop where
  len : frv.length = fv.length
  cell : ∀ (i : Nat) (x : Str) (v : V), fv[i]? = some x → frv[i]? = some v → ∃ c o u, cl.lookup x = some c ∧ K.lookup c = some o ∧ o.data = .cell (some u) ∧ RelV v u
  all : ∀ x c, cl.lookup x = some c → ∃ o v, K.lookup c = some o ∧ o.data = .cell v
  inj : ∀ x y c, cl.lookup x = some c → cl.lookup y = some c → x = y
  has : ∀ x, sc.names.lookup x = some .free → ∃ c, cl.lookup x = some c
def cxC (CX : CXT) (P : Program) (w : World) (K : PySem.W.Frag) (mg : Str → Option Value) (base : Heap) (N : List Str) (qual : Str) (scope : Scope) (f : Addr) (cd : Value) (cl : List (Str × Addr)) (A : Around) (outer : List Env) (s : Shared) (H : Hp) (E : XK) : Cx where
  prog := P
  w := w
  K := K
  mg := mg
  base := base
  A := A.deeper (PySem.W.envX qual scope s.heap.objs.size f cd cl)
  N := N
  s₀ := s
  H₀ := H
  env := PySem.W.envX qual scope s.heap.objs.size f cd cl
  outer := outer
  stack := PySem.W.envX qual scope s.heap.objs.size f cd cl :: outer
  ex := []
  calm := true
  fn := fun _ => false
  pn := []
  xe := fun e s' => wpAny (model P w) (A.deeper (PySem.W.envX qual scope s.heap.objs.size f cd cl)) (leaving (PySem.W.envX qual scope s.heap.objs.size f cd cl) e) (fun _ s'' => CX outer H s E e s'') (fun e' s'' => CX outer H s E e' s'') s'
theorem cxC_K (CX : CXT) (P : Program) (w : World) (K : PySem.W.Frag) (mg : Str → Option Value) (base : Heap) (N : List Str) (qual : Str) (scope : Scope) (f : Addr) (cd : Value) (cl : List (Str × Addr)) (A : Around) (outer : List Env) (s : Shared) (H : Hp) (E : XK) : (cxC CX P w K mg base N qual scope f cd cl A outer s H E).K = K := rfl
theorem inv_startC {CX : CXT} {P : Program} {w : World} {K : PySem.W.Frag} {mg : Str → Option Value} {base : Heap} {N ps fv : List Str} {qual : Str} {scope : Scope} {f : Addr} {cd : Value} {cl : List (Str × Addr)} {A : Around} {outer : List Env} {s : Shared} {H : Hp} {E : XK} {us : List Value} {vs frv : List V} {h1 : Heap} {tk : Nat}
    (S : FnScopeC N ps fv scope) (C : Caught K scope cl fv frv) (hd : A.handled = none) (e0 : Env0 P w K mg base A outer s H) (hl : vs.length = ps.length) (r : Vals vs us)
    (ns : h1.Ns s.heap.objs.size fun x => (ps.zip us).reverse.lookup x) (hk : ∀ b o, s.heap.get? b = some o → h1.get? b = some o) :
    Inv (cxC CX P w K mg base N qual scope f cd cl A outer s H E) [] (start N (vs ++ frv)) H { s with heap := h1, toks := tk } := by
  have hpl : (ps ++ fv).length ≤ N.length := by have := congrArg List.length S.pre; rw [List.length_take] at this; omega
  have noA : ∀ b : Addr, b ∉ (cxC CX P w K mg base N qual scope f cd cl A outer s H E).ex := fun b z => absurd (show b ∈ ([] : List Addr) from z) (by simp)
  have hlen : (vs ++ frv).length = (ps ++ fv).length := by rw [List.length_append, List.length_append, hl, C.len]
  have kin : ∀ c o, K.lookup c = some o → s.heap.get? c = some o ∧ H c = none := fun c o e => e0.bs c o (e0.mod.kin c o e)
  refine ⟨⟨e0.mod, S.kind, rfl, rfl, Nat.le_refl _, C.inj, fun y hy => ?_, fun y c z _ => (nomatch (show false = true from z)), fun _ => hd, Around.frames_deeper e0.frames, .inr ⟨rfl, rfl⟩, fun b z => absurd z (noA b), e0.bs, e0.bsz, fun b _ _ => noA b, fun b z => absurd z (noA b), e0.funs, e0.frf⟩,
    rfl, e0.bare, Un.kept hk, ⟨_, ns, fun i y v h1 h2 h3 => ?_⟩, fun y c h => ?_, e0.hok.fresh (Nat.le_refl _), fun y c h => ?_, fun p hp => absurd (show p ∈ ([] : List (Addr × Obj)) from hp) (by simp), e0.hok.kept hk, ?_⟩
  · have hy : scope.names.lookup y = some .cell ∨ scope.names.lookup y = some .free := hy
    rcases hy with hy | hy
    · exact absurd rfl (S.nocell _ (PySem.mem_of_lookup hy))
    · exact C.has y hy
  · have hi : i < (vs ++ frv).length := by
      unfold start at h2
      by_cases hi : i < (vs ++ frv).length
      · exact hi
      · rw [List.getElem?_append_right (by simpa using hi)] at h2
        rw [List.getElem?_replicate] at h2
        split at h2 <;> cases h2
    have ha : (vs ++ frv)[i]? = some v := by
      unfold start at h2
      rw [List.getElem?_append_left (by simpa using hi), List.getElem?_map] at h2
      cases e : (vs ++ frv)[i]? with
      | none => rw [e] at h2; cases h2
      | some a => rw [e] at h2; cases h2; rfl
    have hp : (ps ++ fv)[i]? = some y := by
      rw [← S.pre, List.getElem?_take_of_lt (by omega)]; exact h1
    have ndP : (ps ++ fv).Nodup := by rw [← S.pre]; exact S.nd.sublist (List.take_sublist _ _)
    by_cases hv : i < vs.length
    · rw [List.getElem?_append_left hv] at ha
      rw [List.getElem?_append_left (by omega)] at hp
      obtain ⟨u, hu, rv⟩ := r.get ha
      exact ⟨u, rv, .inl ⟨S.par y (List.mem_of_getElem? hp), lookup_rev_zip (ndP.sublist (List.sublist_append_left _ _)) hp hu⟩⟩
    · rw [List.getElem?_append_right (by omega)] at ha
      rw [List.getElem?_append_right (by omega), ← hl] at hp
      obtain ⟨c, o, u, e1, e2, e3, rv⟩ := C.cell _ y v hp ha
      refine ⟨u, rv, .inr ⟨.inr (S.fr y (List.mem_of_getElem? hp)), c, e1, o, hk c o (kin c o e2).1, e3⟩⟩
  · obtain ⟨o, v, e1, e2⟩ := C.all y c h
    exact ⟨v, o, hk c o (kin c o e1).1, e2⟩
  · obtain ⟨o, v, e1, e2⟩ := C.all y c h
    exact (kin c o e1).2
  · unfold start
    show _ = N.length
    rw [List.length_append, List.length_map, List.length_replicate]
    omega
theorem fn_ofC {CX : CXT} {P : Program} {w : World} {K : PySem.W.Frag} {mg : Str → Option Value} {base : Heap} {k : Nat} {f : Addr} {name qual : Str} {params : Arguments} {body : List Stmt} {scope : Scope} {cl : List (Str × Addr)} {doc pm cdv ct oc : Value} {od : Option Addr}
    {osl : Array (Option Value)} {N ps fv : List Str} {frv : List V} {sp : Sp} (lk : K.lookup f = some ⟨oc, od, .func (PySem.W.fnX name qual params body scope cl .none .none doc pm none cdv ct), osl⟩) (hcd : PySem.W.codeIn K cdv qual = true) (S : FnScopeC N ps fv scope) (C : Caught K scope cl fv frv)
    (len : ∀ vs H Q E, sp vs H Q E → vs.length = ps.length)
    (hbody : ∀ (A : Around) (outer : List Env) (s : Shared) (H : Hp) (vs : List V) (Q : VK) (E : XK), Room k (A.deeper (PySem.W.envX qual scope s.heap.objs.size f cdv cl)) → sp vs H Q E →
      ∃ t, PSs (cxC CX P w K mg base N qual scope f cdv cl A outer s H E) body t ∧ t { nx := fun _ H' => Q .non H', rt := Q } (start N (vs ++ frv)) H) :
    FnOk P w K mg base CX (k + 1) f (PySem.W.fnX name qual params body scope cl .none .none doc pm none cdv ct) ps sp := by
  refine ⟨len, fun A outer s H args us vs Q E hr e0 hb r hsp => ?_⟩
  have hl := len _ _ _ _ hsp
  have KX : K.In s.heap := e0.mod.kin.keeps fun b o e => (e0.bs b o e).1
  have lim : s.heap.NoLimit := e0.mod.nolimit.keeps fun b o e => (e0.bs b o e).1
  refine codeAny_call_function hr.depth (KX _ _ lk) rfl S.co S.gen rfl (PySem.W.codeRec_of KX hcd) (hb _ _ _ _ ?_)
  refine wpAny_newFunctionEnv S.nocell (fun ⟨n, v⟩ hy => S.par n (List.of_mem_zip hy).1) (fun h1 ns sb => ?_) S.kind
  have hk : ∀ b o, s.heap.get? b = some o → h1.get? b = some o := fun b o e => by
    rw [sb.2 b (Nat.ne_of_lt (Heap.lt_size e))]
    exact Heap.get?_push_of_some _ e
  refine ⟨lim.keeps hk, codeAny_func ?_⟩
  obtain ⟨t, ht, hq⟩ := hbody A outer s H vs Q E (hr.deeper _) hsp
  have I : Inv (cxC CX P w K mg base N qual scope f cdv cl A outer s H E) [] (start N (vs ++ frv)) H { s with heap := h1, toks := s.toks + (ps.zip us).length } := inv_startC S C hr.hd e0 hl r ns hk
  refine wpAny_mono (ht [] _ (start N (vs ++ frv)) H _ I hq) (fun fl s' hs => ?_) fun e s' hs => hs
  have fin : ∀ {σ' : St} {H' : Hp} {v : V} {u : Value}, Inv (cxC CX P w K mg base N qual scope f cdv cl A outer s H E) [] σ' H' s' → RelV v u → Q v H' → CE outer P w H s Q u s' :=
    fun {σ' H' v u} J rv q => ⟨v, H', J.os, J.bare, J.base, J.hok, rv, q⟩
  cases fl with
  | ret u =>
    obtain ⟨v, σ', H', J, rv, q⟩ := hs
    exact fin J rv q
  | next =>
    obtain ⟨σ', H', J, q⟩ := hs
    exact fin (v := V.non) (u := Value.none) J rfl q
  | brk =>
    obtain ⟨_, _, _, q⟩ := hs
    exact False.elim q
  | cont =>
    obtain ⟨_, _, _, q⟩ := hs
    exact False.elim q
end L2
set_option Elab.async false
set_option linter.all false
set_option maxRecDepth 100000
set_option maxHeartbeats 2000000
namespace L2
open PySem PySem.Spec PyProof.Rows
abbrev FZ (o : Obj) : HO := .frz o (.ext fun _ => True)
def SameT (H H' : Hp) : Prop := ∀ b o, (∀ ps, o ≠ .tbl ps) → H b = some o → H' b = some o
theorem SameT.refl (H : Hp) : SameT H H := fun _ _ _ h => h
theorem SameT.trans {H H1 H2 : Hp} (a : SameT H H1) (b : SameT H1 H2) : SameT H H2 := fun c o n h => b c o n (a c o n h)
theorem Same.toT {H H' : Hp} (a : Same H H') : SameT H H' := fun c o _ h => a c o h
structure SameU (P : Addr) (H H' : Hp) : Prop where
  toT : SameT H H'
  off : ∀ b o, b ≠ P → H b = some o → H' b = some o
  tab : ∀ o, H P = some o → ∃ o', H' P = some o'
theorem SameU.trans {P : Addr} {H H1 H2 : Hp} (a : SameU P H H1) (b : SameU P H1 H2) : SameU P H H2 :=
  ⟨a.toT.trans b.toT, fun c o n h => b.off c o n (a.off c o n h), fun o h => by obtain ⟨o', h'⟩ := a.tab o h; exact b.tab o' h'⟩
theorem Same.toU {P : Addr} {H H' : Hp} (a : Same H H') : SameU P H H' := ⟨a.toT, fun c o _ h => a c o h, fun o h => ⟨o, a _ _ h⟩⟩
theorem SameU.free {P : Addr} {H H' : Hp} (a : SameU P H H') {l : Addr} (h : H' l = Option.none) : H l = Option.none := by
  cases e : H l with
  | none => rfl
  | some o =>
    by_cases z : l = P
    · subst z
      obtain ⟨o', e'⟩ := a.tab o e
      rw [h] at e'; cases e'
    · have := a.off l o z e
      rw [h] at this; cases this
theorem SameU.write {P : Addr} {H0 H : Hp} {l : Addr} {o : HO} (e : SameU P H0 H) (h : H0 l = Option.none) : SameU P H0 (upd H l o) := by
  have ne : ∀ {b u}, H0 b = some u → b ≠ l := fun {b u} q z => by rw [z, h] at q; cases q
  refine ⟨fun b u n q => ?_, fun b u n q => ?_, fun u q => ?_⟩
  · rw [upd_ne (ne q)]; exact e.toT b u n q
  · rw [upd_ne (ne q)]; exact e.off b u n q
  · obtain ⟨u', h'⟩ := e.tab u q
    exact ⟨u', by rw [upd_ne (ne q)]; exact h'⟩
def CodeFz (H : Hp) (cv : Value) (q : Str) : Prop := ∃ c o vs t, cv = .ref c ∧ H c = some (FZ o) ∧ o.data = .fields vs ∧ vs[1]? = some (.str q t)
theorem CodeFz.keep {H H' : Hp} {cv : Value} {q : Str} (h : CodeFz H cv q) (k : SameT H H') : CodeFz H' cv q := by
  obtain ⟨c, o, vs, t, h1, h2, h3, h4⟩ := h
  exact ⟨c, o, vs, t, h1, k c _ (fun _ z => nomatch z) h2, h3, h4⟩
def TabOk (H : Hp) (P : Addr) (ds : List (Pos × Str)) : Prop :=
  ∃ ps, H P = some (.tbl ps) ∧ TriplesOk ps.toList ∧ ∀ d ∈ ds, ∀ cv, codeAmong d.1 ps.toList = some cv → CodeFz H cv d.2
theorem TabOk.keep {H H' : Hp} {P : Addr} {ds : List (Pos × Str)} (h : TabOk H P ds) (k : Same H H') : TabOk H' P ds := by
  obtain ⟨ps, h1, h2, h3⟩ := h
  exact ⟨ps, k _ _ h1, h2, fun d hd cv e => (h3 d hd cv e).keep k.toT⟩
theorem TabOk.new {H : Hp} {P : Addr} {ds : List (Pos × Str)} (h : H P = some (.tbl #[])) : TabOk H P ds :=
  ⟨#[], h, trivial, fun d _ cv e => by
    have e' : (none : Option Value) = some cv := e
    cases e'⟩
def FnFz (H : Hp) (f : Addr) (name qual : Str) (params : Arguments) (body : List Stmt) (scope : Scope) (cl : List (Str × Addr)) : Prop :=
  ∃ doc pm ct cv, H f = some (FZ { cls := .type "function", data := .func (PySem.W.fnX name qual params body scope cl .none .none doc pm none cv ct) }) ∧ CodeFz H cv qual
theorem FnFz.keep {H H' : Hp} {f : Addr} {name qual : Str} {params : Arguments} {body : List Stmt} {scope : Scope} {cl : List (Str × Addr)} (h : FnFz H f name qual params body scope cl) (k : SameT H H') : FnFz H' f name qual params body scope cl := by
  obtain ⟨doc, pm, ct, cv, h1, h2⟩ := h
  exact ⟨doc, pm, ct, cv, k _ _ (fun _ z => nomatch z) h1, h2.keep k⟩
theorem triples_app : ∀ {l m : List Value}, TriplesOk l → TriplesOk m → TriplesOk (l ++ m)
  | [], m, _, h => h
  | .int i a :: .int j b :: c :: r, m, h, h' => by
    show TriplesOk (.int i a :: .int j b :: c :: (r ++ m))
    exact triples_app (l := r) h h'
theorem codeAmong_app {pos : Pos} : ∀ {l m : List Value}, TriplesOk l → codeAmong pos (l ++ m) = (codeAmong pos l).or (codeAmong pos m)
  | [], m, _ => by simp [codeAmong]
  | .int i a :: .int j b :: c :: r, m, h => by
    show codeAmong pos (.int i a :: .int j b :: c :: (r ++ m)) = _
    rw [codeAmong, codeAmong]
    split
    · rfl
    · exact codeAmong_app (l := r) h
theorem fz_ok {P : Program} {w : World} {H : Hp} {h : Heap} {a : Addr} {o : Obj} (e : h.get? a = some o) : ObjOk P w H h a (FZ o) := ⟨e, trivial, ⟨o, e⟩, fun _ _ _ _ => trivial⟩
def tDef (i : Nat) (name qual : Str) (params : Arguments) (body : List Stmt) (scope : Scope) (cl : List (Str × Addr)) (P : Addr) (ds : List (Pos × Str)) : TS := fun D σ H =>
  TabOk H P ds ∧ ∀ f H', H f = none → SameU P H H' → TabOk H' P ds → FnFz H' f name qual params body scope cl → D.nx (σ.set i (some (.ref f))) H'
theorem ps_def {X : Cx} {i : Nat} {name qual : Str} {params : Arguments} {body : List Stmt} {scope : Scope} {pos : Pos} {cl : List (Str × Addr)} {c P : Addr} {ds : List (Pos × Str)}
    (hN : X.N.Nodup) (hi : X.N[i]? = some name) (hx : Loc X.env.scope name) (hcl : closureFor scope X.env = pure cl) (hc : X.env.code = .ref c) (hC : ∀ h, X.K.In h → PySem.W.CodeHd h c P) (hB : ∀ h, X.K.In h → h.BuiltinsAt X.mg P) (hP : mainGlobals ≠ P)
    (hq : qualnameIn X.env name name = qual) (hd : (pos, qual) ∈ ds) (hds : ∀ d ∈ ds, d.1.line = pos.line → d.1.col = pos.col → d.2 = qual)
    (h1 : params.defaults = []) (h2 : params.kw_defaults = []) (h3 : annTrees params none X.env = [])
    (hf : X.fn name = true ∨ X.env.scope.names.lookup name = some .local := by first | exact .inl rfl | exact .inr rfl | assumption) :
    PS X (.FunctionDef name params body [] none [] scope none name pos) (tDef i name qual params body scope cl P ds) := by
  intro pins s σ H D I h
  obtain ⟨⟨ps, hp, ht, hcs⟩, q⟩ := h
  refine PySem.W.nestDef_K h1 h2 h3 ?_
  rw [hq]
  have kX := I.kIn
  have hPs : s.heap.get? P = some (PySem.W.tabObj ps) := I.hok P _ hp
  have mgs : s.heap.Ns mainGlobals X.mg := by
    obtain ⟨o, es, ep, e, d, r⟩ := I.ok.mod.glob
    exact ⟨o, es, ep, I.bk _ _ e, d, r⟩
  have fin : ∀ {H' : Hp} {s' : Shared} {f : Addr}, Inv X pins σ H' s' → H f = none → SameU P H H' → TabOk H' P ds → FnFz H' f name qual params body scope cl →
      wpAny (model X.prog X.w) X.A (storeName X.env name (.ref f)) (fun _ s'' => SP X pins D .next s'') X.xe s' := fun {H' s' f} J g1 g2 g3 g4 =>
    store_ok (v := .ref f) J hN hi hx rfl (fun s'' J' => ⟨_, _, J', q f H' g1 g2 g3 g4⟩) hf
  cases hm : codeAmong pos ps.toList with
  | some cv =>
    refine PySem.W.makeFunction_hit hcl I.ok.glob mgs hc (hC _ kX) hPs ht hm (hB _ kX) fun ctv doc h' tk hk hsz => ?_
    have kk : ∀ b o, s.heap.get? b = some o → (h'.push { cls := Value.type "function", data := Data.func (PySem.W.fnX name qual params body scope cl Value.none Value.none doc ((X.mg (Str.ofString "__name__")).getD Value.none) none cv ctv) }).get? b = some o :=
      fun b o e => Heap.get?_push_of_some _ (hk b o e)
    have hn : H h'.objs.size = none := I.hok.fresh hsz
    have J := I.laid (a := h'.objs.size) (o := FZ _) (t' := tk) kk hsz (fz_ok (Heap.get?_push_size _ rfl))
    have e1 : Same H (upd H h'.objs.size (FZ { cls := Value.type "function", data := Data.func (PySem.W.fnX name qual params body scope cl Value.none Value.none doc ((X.mg (Str.ofString "__name__")).getD Value.none) none cv ctv) })) := fun b u z => by rw [upd_ne (ne_of_none z hn)]; exact z
    exact fin J hn e1.toU (TabOk.keep ⟨ps, hp, ht, hcs⟩ e1) ⟨_, _, _, _, upd_same, (hcs _ hd cv hm).keep e1.toT⟩
  | none =>
    refine PySem.W.makeFunction_K hcl I.ok.glob mgs hc (hC _ kX) hPs ht hm hP (hB _ kX) fun c' ctv doc h' tk ext hc1 hc2 hcr htab => ?_
    obtain ⟨c2, co, vs, t, e1, e2, e3, e4⟩ := hcr
    cases e1
    have hPl : P < s.heap.objs.size := Heap.lt_size hPs
    have hsz : s.heap.objs.size ≤ h'.objs.size := by omega
    have nf : H h'.objs.size = none := I.hok.fresh hsz
    have nc : H c' = none := I.hok.fresh hc1
    have ncf : c' ≠ h'.objs.size := by omega
    have nPc : P ≠ c' := Nat.ne_of_lt (Nat.lt_of_lt_of_le hPl hc1)
    have nPf : P ≠ h'.objs.size := Nat.ne_of_lt (Nat.lt_of_lt_of_le hPl hsz)
    generalize hfo : ({ cls := Value.type "function", data := Data.func (PySem.W.fnX name qual params body scope cl Value.none Value.none doc ((X.mg (Str.ofString "__name__")).getD Value.none) none (Value.ref c') ctv) } : Obj) = fo
    generalize htr : ps ++ #[rawInt (pos.line : Int), rawInt (pos.col : Int), Value.ref c'] = ps'
    rw [htr] at htab
    have hps' : ps'.toList = ps.toList ++ [rawInt (pos.line : Int), rawInt (pos.col : Int), Value.ref c'] := by rw [← htr]; simp
    have gk : ∀ b o, b ≠ P → s.heap.get? b = some o → (h'.push fo).get? b = some o := fun b o hb e => Heap.get?_push_of_some _ (ext b o hb e)
    have oP : ∀ b, b ≠ P → b ≠ c' → b ≠ h'.objs.size → (upd (upd (upd H P (.tbl ps')) c' (FZ co)) h'.objs.size (FZ fo)) b = H b := fun b n1 n2 n3 => by rw [upd_ne n3, upd_ne n2, upd_ne n1]
    have oPP : (upd (upd (upd H P (.tbl ps')) c' (FZ co)) h'.objs.size (FZ fo)) P = some (.tbl ps') := by rw [upd_ne nPf, upd_ne nPc, upd_same]
    have oc : (upd (upd (upd H P (.tbl ps')) c' (FZ co)) h'.objs.size (FZ fo)) c' = some (FZ co) := by rw [upd_ne ncf, upd_same]
    have of' : (upd (upd (upd H P (.tbl ps')) c' (FZ co)) h'.objs.size (FZ fo)) h'.objs.size = some (FZ fo) := upd_same
    generalize (upd (upd (upd H P (.tbl ps')) c' (FZ co)) h'.objs.size (FZ fo)) = H' at oP oPP oc of'
    have tr : ∀ b u, (∀ ps, u ≠ HO.tbl ps) → H b = some u → H' b = some u := fun b u nu z => by
      rw [oP b (fun w => nu ps (by rw [w, hp] at z; exact (Option.some.inj z).symm)) (ne_of_none z nc) (ne_of_none z nf)]; exact z
    have hok : HOk X.prog X.w H' (h'.push fo) := fun b u z => by
      by_cases b1 : b = h'.objs.size
      · subst b1; rw [of'] at z; cases z; exact fz_ok (Heap.get?_push_size _ (by rw [← hfo]; rfl))
      by_cases b2 : b = c'
      · subst b2; rw [oc] at z; cases z; exact fz_ok (Heap.get?_push_of_some _ e2)
      by_cases b3 : b = P
      · subst b3; rw [oPP] at z; cases z; exact Heap.get?_push_of_some _ htab
      rw [oP b b3 b2 b1] at z
      refine (I.hok b u z).stay (fun d v hd e => gk d v (fun w => ?_) e) (fun d z => tr d _ (fun _ q => nomatch q) z) fun d xs z => tr d _ (fun _ q => nomatch q) z
      rcases hd with hd | hd
      · exact b3 (hd.symm.trans w)
      · rw [w, hp] at hd; cases hd
    have un : Un X.fs [] H H' s.heap (h'.push fo) := by
      refine ⟨fun b o e n _ _ => gk b o (fun w => by rw [w, hp] at n; cases n) e, fun b o e n _ _ => ⟨o.slots, gk b o (fun w => by rw [w, hp] at n; cases n) e⟩, fun b o e n _ => ?_, fun b o e _ => ?_, fun b xs z => tr b _ (fun _ q => nomatch q) z, fun b o u z => tr b _ (fun _ q => nomatch q) z, fun b ps2 z => ?_⟩
      · rw [oP b (fun w => by rw [w, hp] at n; cases n) (Nat.ne_of_lt (Nat.lt_of_lt_of_le (Heap.lt_size e) hc1)) (Nat.ne_of_lt (Nat.lt_of_lt_of_le (Heap.lt_size e) hsz))]; exact n
      · by_cases b3 : b = P
        · subst b3; exact ⟨_, Heap.get?_push_of_some _ htab⟩
        · exact ⟨o, gk b o b3 e⟩
      · by_cases b3 : b = P
        · subst b3
          rw [hp] at z
          cases z
          exact ⟨_, by rw [oPP, ← htr]⟩
        · refine ⟨#[], ?_⟩
          rw [oP b b3 (ne_of_none z nc) (ne_of_none z nf), z]; simp
    have J : Inv X pins σ H' { s with heap := h'.push fo, toks := tk } := I.un un hok
    have sT : SameT H H' := tr
    have sU : SameU P H H' := ⟨tr, fun b u hb z => by rw [oP b hb (ne_of_none z nc) (ne_of_none z nf)]; exact z, fun _ _ => ⟨_, oPP⟩⟩
    have cf : CodeFz H' (.ref c') qual := ⟨c', co, vs, t, rfl, oc, e3, e4⟩
    have tri : TriplesOk [rawInt (pos.line : Int), rawInt (pos.col : Int), Value.ref c'] := by
      unfold rawInt
      exact trivial
    have tab : TabOk H' P ds := by
      refine ⟨ps', oPP, by rw [hps']; exact triples_app ht tri, fun d hd' cv e => ?_⟩
      rw [hps', codeAmong_app ht] at e
      cases hm' : codeAmong d.1 ps.toList with
      | some cv2 =>
        rw [hm'] at e
        cases e
        exact (hcs d hd' cv hm').keep sT
      | none =>
        rw [hm', Option.none_or] at e
        unfold rawInt at e
        rw [codeAmong] at e
        split at e
        · rename_i hh
          cases e
          have hh' : d.1.line = pos.line ∧ d.1.col = pos.col := by
            have := hh
            simp only [Bool.and_eq_true, beq_iff_eq] at this
            omega
          rw [hds d hd' hh'.1 hh'.2]
          exact cf
        · simp [codeAmong] at e
    rw [show PySem.W.fnMade name qual params body scope cl doc ((X.mg (Str.ofString "__name__")).getD Value.none) c' ctv = fo from hfo]
    exact fin J nf sU tab ⟨doc, _, ctv, .ref c', by rw [of', ← hfo], cf⟩
end L2
set_option Elab.async false
set_option linter.all false
set_option maxRecDepth 100000
set_option maxHeartbeats 2000000
namespace L2
open PySem PySem.Spec PyProof.Rows
def KLe (K K' : PySem.W.Frag) : Prop := ∀ a o, K.lookup a = some o → K'.lookup a = some o
def remX (xs : List (Addr × Obj)) (H : Hp) : Hp := fun b => if b ∈ xs.map (·.1) then none else H b
def backX (xs : List (Addr × Obj)) (H H2 : Hp) : Hp := fun b => if b ∈ xs.map (·.1) then H b else H2 b
theorem remX_in {xs : List (Addr × Obj)} {H : Hp} {b : Addr} (h : b ∈ xs.map (·.1)) : remX xs H b = none := by unfold remX; rw [if_pos h]
theorem remX_out {xs : List (Addr × Obj)} {H : Hp} {b : Addr} (h : b ∉ xs.map (·.1)) : remX xs H b = H b := by unfold remX; rw [if_neg h]
theorem backX_in {xs : List (Addr × Obj)} {H H2 : Hp} {b : Addr} (h : b ∈ xs.map (·.1)) : backX xs H H2 b = H b := by unfold backX; rw [if_pos h]
theorem backX_out {xs : List (Addr × Obj)} {H H2 : Hp} {b : Addr} (h : b ∉ xs.map (·.1)) : backX xs H H2 b = H2 b := by unfold backX; rw [if_neg h]
theorem lookup_same : ∀ {l : List (Addr × Obj)} {p : Addr × Obj}, (∀ q ∈ l, q.1 = p.1 → q.2 = p.2) → p ∈ l → l.lookup p.1 = some p.2
  | [], _, _, h => absurd h (by simp)
  | q :: l, p, hc, h => by
    rw [show q :: l = (q.1, q.2) :: l from rfl, List.lookup_cons]
    by_cases e : q.1 = p.1
    · rw [show (p.1 == q.1) = true from by simp [e]]
      rw [hc q List.mem_cons_self e]
    · rw [show (p.1 == q.1) = false from by simpa using fun z => e z.symm]
      exact lookup_same (fun r hr => hc r (List.mem_cons_of_mem _ hr)) (by
        rcases List.mem_cons.mp h with z | z
        · exact absurd (by rw [z]) e
        · exact z)
theorem mem_of_lookupA : ∀ {l : List (Addr × Obj)} {a : Addr} {o : Obj}, l.lookup a = some o → (a, o) ∈ l
  | [], _, _, h => by cases h
  | (b, u) :: l, a, o, h => by
    rw [List.lookup_cons] at h
    split at h
    · rename_i e
      cases h
      rw [show a = b from by simpa using e]
      exact List.mem_cons_self
    · exact List.mem_cons_of_mem _ (mem_of_lookupA h)
theorem funFrames_base {h base base' : Heap} : ∀ {l : List Env}, h.FunFrames base l → (∀ b ∈ frs l, base'.get? b = none) → h.FunFrames base' l
  | [], _, _ => trivial
  | env :: r, ⟨hk, ⟨L, o, hf, hn, ho, hd⟩, hr⟩, g => by
    have e : frs (env :: r) = L :: frs r := by unfold frs; rw [List.filterMap_cons, hf]
    rw [e] at g
    exact ⟨hk, ⟨L, o, hf, g L List.mem_cons_self, ho, hd⟩, funFrames_base hr fun b hb => g b (List.mem_cons_of_mem _ hb)⟩
section
variable {X : Cx} {k : Nat} {f : Addr} {fd : FuncData} {ps : List Str} {sp : Sp}
theorem run_fnG {pins : List (Addr × Obj)} {σ : St} {H : Hp} {s : Shared} {Q : VK} {us : List Value} {vs : List V} (xs cs : List (Addr × Obj)) (I : Inv X pins σ H s) (hxs : ∀ p ∈ xs, H p.1 = some (FZ p.2))
    (hcs : ∀ p ∈ cs, s.heap.get? p.1 = some p.2 ∧ H p.1 = none ∧ p.1 ∉ frs X.stack) (F : ∀ base, FnOk X.prog X.w (X.K ++ (xs ++ cs)) X.mg base CX0 k f fd ps sp) (hr : Room k X.A) (hb : Binds X.K fd ps [])
    (r : Vals vs us) (h : sp vs (remX xs H) (fun v H2 => (∀ p ∈ xs, H2 p.1 = none) → Q v (backX xs H H2)) E0) : wpAny (model X.prog X.w) X.A (call (.ref f) us) (EP X pins σ Q) X.xe s := by
  have hx1 : ∀ p ∈ xs, s.heap.get? p.1 = some p.2 := fun p hp => (I.hok _ _ (hxs p hp)).1
  have good2 : ∀ p ∈ xs ++ cs, s.heap.get? p.1 = some p.2 := fun p hp => (List.mem_append.mp hp).elim (hx1 p) fun z => (hcs p z).1
  let good : Addr → Prop := fun b => (X.base.get? b).isSome = true ∨ b ∈ (xs ++ cs).map (·.1)
  have hdec : ∀ b, Decidable (good b) := fun b => by dsimp only [good]; infer_instance
  let hid : List Addr := (List.range s.heap.objs.size).filter fun b => !(decide ((X.base.get? b).isSome = true) || decide (b ∈ (xs ++ cs).map (·.1)))
  have notin : ∀ b, good b → b ∉ hid := fun b g hm => by
    have q := (List.mem_filter.mp hm).2
    rcases g with g | g
    · simp [g] at q
    · rw [decide_eq_true g] at q; simp at q
  have isin : ∀ b, ¬ good b → b < s.heap.objs.size → b ∈ hid := fun b g hl => by
    refine List.mem_filter.mpr ⟨List.mem_range.mpr hl, ?_⟩
    rw [decide_eq_false (fun z => g (.inl z)), decide_eq_false (fun z => g (.inr z))]; rfl
  let base' : Heap := PySem.W.hideAll s.heap hid
  have gget : ∀ b o, s.heap.get? b = some o → good b → base'.get? b = some o := fun b o e g => PySem.W.hideAll_get _ e (notin b g)
  have gof : ∀ b o, base'.get? b = some o → s.heap.get? b = some o ∧ good b := fun b o e => by
    have e' : s.heap.get? b = some o := PySem.W.of_hideAll hid e
    refine ⟨e', ?_⟩
    by_cases g : good b
    · exact g
    · have z : base'.get? b = none := PySem.W.hideAll_none hid (isin b g (Heap.lt_size e'))
      rw [z] at e; cases e
  have gb : ∀ b o, X.base.get? b = some o → base'.get? b = some o := fun b o e => gget b o (I.bk b o e) (.inl (by rw [e]; rfl))
  have goodH : ∀ b, good b → remX xs H b = none := fun b g => by
    rcases g with g | g
    · obtain ⟨o, e⟩ := Option.isSome_iff_exists.mp g
      by_cases z : b ∈ xs.map (·.1)
      · exact remX_in z
      · rw [remX_out z]; exact (I.bs b o e).2
    · rw [List.map_append] at g
      rcases List.mem_append.mp g with g | g
      · exact remX_in g
      · by_cases z : b ∈ xs.map (·.1)
        · exact remX_in z
        · rw [remX_out z]
          obtain ⟨p, hp, rfl⟩ := List.mem_map.mp g
          exact (hcs p hp).2.1
  have kin' : PySem.W.Frag.In (X.K ++ (xs ++ cs)) base' := fun a o e => by
    have e : List.lookup a (X.K ++ (xs ++ cs)) = some o := e
    rw [List.lookup_append] at e
    cases z : List.lookup a X.K with
    | some o' =>
      rw [z] at e
      cases e
      exact gb a o (I.ok.mod.kin a o z)
    | none =>
      rw [z, Option.none_or] at e
      have hm : (a, o) ∈ xs ++ cs := mem_of_lookupA e
      exact gget a o (good2 _ hm) (.inr (List.mem_map.mpr ⟨_, hm, rfl⟩))
  have nsB : ∀ {b : Addr} {m : Str → Option Value}, X.base.Ns b m → base'.Ns b m := fun {b m} ⟨o, es, ep, e, d, r⟩ => ⟨o, es, ep, gb b o e, d, r⟩
  have xfree : ∀ b, b ∈ xs.map (·.1) → ∃ o, H b = some (FZ o) ∧ s.heap.get? b = some o := fun b z => by
    obtain ⟨p, hp, rfl⟩ := List.mem_map.mp z
    exact ⟨p.2, hxs p hp, hx1 p hp⟩
  have frames : ∀ b ∈ frs X.stack, base'.get? b = none := fun b hb => by
    cases z : base'.get? b with
    | none => rfl
    | some o =>
      obtain ⟨e, g⟩ := gof b o z
      rcases g with g | g
      · have := (I.stack.mem hb).1
        rw [this] at g; simp at g
      · rw [List.map_append] at g
        rcases List.mem_append.mp g with g | g
        · obtain ⟨o', e', _⟩ := xfree b g
          rw [I.stkFree b hb] at e'; cases e'
        · obtain ⟨p, hp, rfl⟩ := List.mem_map.mp g
          exact absurd hb (hcs p hp).2.2
  have e0 : Env0 X.prog X.w (X.K ++ (xs ++ cs)) X.mg base' X.A X.stack s (remX xs H) := by
    refine ⟨I.ok.frames, ⟨kin', nsB I.ok.mod.glob, ?_, ?_⟩, fun b o e => ⟨(gof b o e).1, goodH b (gof b o e).2⟩, Nat.le_of_eq (PySem.W.hideAll_size _ _), funFrames_base I.stack frames, fun b hb => ?_, fun a o z => ?_, I.bare⟩
    · obtain ⟨mb, h1, h2⟩ := I.ok.mod.blt
      exact ⟨mb, nsB h1, h2⟩
    · obtain ⟨mc, h1, h2⟩ := I.ok.mod.nolimit
      exact ⟨mc, nsB h1, h2⟩
    · by_cases z : b ∈ xs.map (·.1)
      · exact remX_in z
      · rw [remX_out z]; exact I.stkFree b hb
    · by_cases y : a ∈ xs.map (·.1)
      · rw [remX_in y] at z; cases z
      · rw [remX_out y] at z
        refine (I.hok a o z).stay (fun b u _ e => e) (fun b q => ?_) fun b ys q => ?_
        · rw [remX_out fun y => by obtain ⟨o', e', _⟩ := xfree b y; rw [q] at e'; cases e']; exact q
        · rw [remX_out fun y => by obtain ⟨o', e', _⟩ := xfree b y; rw [q] at e'; cases e']; exact q
  have hl : us.length = ps.length := by rw [← r.length]; exact (F base').len _ _ _ _ h
  have hbd : BindsTo s fd ⟨us, []⟩ (ps.zip us) := by
    have := hb s us I.kIn (by rw [List.append_nil]; exact hl)
    rw [List.append_nil] at this
    exact this
  refine wpAny_call (codeAny_mono ((F base').run X.A X.stack s (remX xs H) ⟨us, []⟩ us vs _ E0 hr e0 hbd r h) fun rr s' hq => ?_)
  cases rr with
  | error e => exact False.elim hq
  | ok fl =>
    cases fl with
    | next => exact False.elim hq
    | brk => exact False.elim hq
    | cont => exact False.elim hq
    | ret u =>
      obtain ⟨v, H2, os, bare, un, hok2, rv, q⟩ := hq
      have none2 : ∀ b, b ∈ xs.map (·.1) → H2 b = none := fun b z => by
        obtain ⟨o, _, e⟩ := xfree b z
        exact un.free b o e (remX_in z) (by simp)
      have outX : ∀ {b : Addr} {u : HO}, H b = some u → (∀ o, u ≠ FZ o) → b ∉ xs.map (·.1) := fun {b u} e n z => by
        obtain ⟨o, e', _⟩ := xfree b z
        rw [e] at e'
        cases e'
        exact n o rfl
      refine ⟨v, backX xs H H2, I.call' (ch := []) os ⟨fun b o e n hb hx => un.keep b o e ?_ hb hx, fun b o e n hb hx => un.slot b o e ?_ hb hx, fun b o e n hx => ?_, un.there, fun b ys e => ?_, fun b o u e => ?_, fun b ys e => ?_⟩ (fun a o z => ?_) bare (fun b z => absurd z (by simp)), rv, q fun p hp => none2 p.1 (List.mem_map.mpr ⟨p, hp, rfl⟩)⟩
      · by_cases z : b ∈ xs.map (·.1)
        · exact remX_in z
        · rw [remX_out z]; exact n
      · by_cases z : b ∈ xs.map (·.1)
        · exact remX_in z
        · rw [remX_out z]; exact n
      · by_cases z : b ∈ xs.map (·.1)
        · rw [backX_in z]; exact n
        · rw [backX_out z]; exact un.free b o e (by rw [remX_out z]; exact n) hx
      · have z := outX e (fun _ q => nomatch q)
        rw [backX_out z]; exact un.tups b ys (by rw [remX_out z]; exact e)
      · by_cases z : b ∈ xs.map (·.1)
        · rw [backX_in z]; exact e
        · rw [backX_out z]; exact un.frzs b o u (by rw [remX_out z]; exact e)
      · have z := outX e (fun _ q => nomatch q)
        rw [backX_out z]; exact un.tbls b ys (by rw [remX_out z]; exact e)
      · by_cases y : a ∈ xs.map (·.1)
        · rw [backX_in y] at z
          obtain ⟨o', e', g⟩ := xfree a y
          rw [z] at e'
          cases e'
          exact fz_ok (un.keep a o' g (remX_in y) (fun hb => by rw [I.stkFree a hb] at z; cases z) (by simp))
        · rw [backX_out y] at z
          refine (hok2 a o z).stay (fun b u _ e => e) (fun b q => ?_) fun b ys q => ?_
          · rw [backX_out fun y => by rw [none2 b y] at q; cases q]; exact q
          · rw [backX_out fun y => by rw [none2 b y] at q; cases q]; exact q
theorem same_back {xs : List (Addr × Obj)} {H H2 : Hp} (h : Same (remX xs H) H2) : Same H (backX xs H H2) := fun b o e => by
  by_cases z : b ∈ xs.map (·.1)
  · rw [backX_in z]; exact e
  · rw [backX_out z]; exact h b o (by rw [remX_out z]; exact e)
def CellsAt (X : Cx) (σ : St) (ix : List Nat) (cs : List (Addr × Obj)) : Prop :=
  Paired (fun (i : Nat) (p : Addr × Obj) => ∃ x v u, X.N[i]? = some x ∧ σ[i]? = some (some v) ∧ X.env.cells.lookup x = some p.1 ∧ p.2.data = .cell (some u) ∧ RelV v u) ix cs
def tCallG (X : Cx) (k : Nat) (f : Addr) (fd : FuncData) (ps : List Str) (ix : List Nat) (t : TA) : TE := fun σ H Q => t σ H fun vs H1 => (∀ i ∈ ix, ∃ v, σ[i]? = some (some v)) ∧ ∃ xs : List (Addr × Obj), (∀ p ∈ xs, H1 p.1 = some (FZ p.2)) ∧
  ∀ (K' : PySem.W.Frag) (cs : List (Addr × Obj)), X.Ok → KLe X.K K' → (∀ a o, K'.lookup a = some o → X.K.lookup a = some o ∨ (a, o) ∈ xs ++ cs) → (∀ p ∈ xs ++ cs, K'.lookup p.1 = some p.2) → CellsAt X σ ix cs →
    ∃ sp : Sp, (∀ base, FnOk X.prog X.w K' X.mg base CX0 k f fd ps sp) ∧ sp vs (remX xs H1) (fun v H2 => (∀ p ∈ xs, H2 p.1 = none) → Q v (backX xs H1 H2)) E0
theorem Inv.cellsAt {pins : List (Addr × Obj)} {σ : St} {H : Hp} {s : Shared} (I : Inv X pins σ H s) : ∀ (ix : List Nat), (∀ i ∈ ix, ∃ x, X.N[i]? = some x ∧ X.env.scope.names.lookup x = some .cell ∧ X.fn x = true) → (∀ i ∈ ix, ∃ v, σ[i]? = some (some v)) →
    ∃ cs, CellsAt X σ ix cs ∧ ∀ p ∈ cs, s.heap.get? p.1 = some p.2 ∧ H p.1 = none ∧ p.1 ∉ frs X.stack ∧ X.K.lookup p.1 = none
  | [], _, _ => ⟨[], .nil, fun _ h => absurd h (by simp)⟩
  | i :: ix, h1, h2 => by
    obtain ⟨cs, g1, g2⟩ := I.cellsAt ix (fun j hj => h1 j (List.mem_cons_of_mem _ hj)) fun j hj => h2 j (List.mem_cons_of_mem _ hj)
    obtain ⟨x, e1, e2, e3⟩ := h1 i List.mem_cons_self
    obtain ⟨v, e4⟩ := h2 i List.mem_cons_self
    obtain ⟨m, _, hm⟩ := I.loc
    obtain ⟨u, rv, lk⟩ := hm i x v e1 e4 (.inr (.inl e2))
    rcases lk with ⟨lk, _⟩ | ⟨_, c, lk, o, ho, hd⟩
    · have lk' : X.env.scope.names.lookup x = some .local := lk
      rw [e2] at lk'; cases lk'
    · have hc := I.ok.cab x c e3 lk
      refine ⟨(c, o) :: cs, .cons ⟨x, v, u, e1, e4, lk, hd, rv⟩ g1, fun p hp => ?_⟩
      rcases List.mem_cons.mp hp with rfl | hp
      · refine ⟨ho, I.freeC x c lk, fun hb => ?_, ?_⟩
        · rcases List.mem_cons.mp (I.stkSub _ hb) with z | z
          · exact I.cne x c lk z
          · obtain ⟨_, o', ho', _⟩ := I.ok.funs.mem z
            exact absurd (Heap.lt_size ho') (Nat.not_lt.mpr hc)
        · cases z : X.K.lookup c with
          | none => rfl
          | some o' => exact absurd (Heap.lt_size (I.ok.bs c o' (I.ok.mod.kin c o' z)).1) (Nat.not_lt.mpr hc)
      · exact g2 p hp
theorem pe_callG {x : Str} {p pos : Pos} {e : Expr} {es : List Expr} {t : TA} {ix : List Nat} (hr : Room k X.A) (hg : Gl X x) (hm : X.mg x = some (.ref f)) (hk : PySem.W.keepIn X.K (.ref f) = true) (hb : Binds X.K fd ps [])
    (hix : ∀ i ∈ ix, ∃ x, X.N[i]? = some x ∧ X.env.scope.names.lookup x = some .cell ∧ X.fn x = true)
    (ha : PA X (e :: es) t) (hdb : (x == ("__debug__" : Str)) = false := by decide) (he : starEach (e :: es) X.env = (false, eval e X.env) :: starEach es X.env := by rfl) (hpl : (backTo pos (starEach es X.env)).any (·.1) = false := by rfl) :
    PE X (.Call (.Name x p) (e :: es) [] pos) (tCallG X k f fd ps ix t) := by
  intro pins s σ H Q I h
  refine wpAny_Call_Name_kw (ld_glob I hg hm ?_ hdb)
  refine PySem.W.callWith_K (h₀ := X.base) I.ok.mod.kin hk (thn (ha pos pins s σ H _ I h) fun us s1 ⟨vs, H1, I1, r, hσ, xs, hxs, q⟩ => ⟨I1.kIn, ?_⟩) he hpl
  obtain ⟨cs, g1, g2⟩ := I1.cellsAt ix hix hσ
  have hx1 : ∀ p ∈ xs, s1.heap.get? p.1 = some p.2 := fun p hp => (I1.hok _ _ (hxs p hp)).1
  have good2 : ∀ p ∈ xs ++ cs, s1.heap.get? p.1 = some p.2 := fun p hp => (List.mem_append.mp hp).elim (hx1 p) fun z => (g2 p z).1
  obtain ⟨sp, F, hs⟩ := q (X.K ++ (xs ++ cs)) cs I1.ok (fun a o z => by
      show List.lookup a (X.K ++ (xs ++ cs)) = some o
      rw [List.lookup_append, show List.lookup a X.K = some o from z]; rfl) (fun a o z => by
      have z : List.lookup a (X.K ++ (xs ++ cs)) = some o := z
      rw [List.lookup_append] at z
      cases y : List.lookup a X.K with
      | some o' =>
        rw [y] at z
        cases z
        exact .inl rfl
      | none =>
        rw [y, Option.none_or] at z
        exact .inr (mem_of_lookupA z)) (fun p hp => by
      have kn : X.K.lookup p.1 = none := by
        rcases List.mem_append.mp hp with z | z
        · cases y : X.K.lookup p.1 with
          | none => rfl
          | some o =>
            have := (I1.bs p.1 o (I1.ok.mod.kin _ _ y)).2
            rw [hxs p z] at this; cases this
        · exact (g2 p z).2.2.2
      show List.lookup p.1 (X.K ++ (xs ++ cs)) = some p.2
      rw [List.lookup_append, show List.lookup p.1 X.K = none from kn, Option.none_or]
      exact lookup_same (fun q hq e => by
        have h1 := good2 q hq
        rw [e, good2 p hp] at h1
        exact (Option.some.inj h1).symm) hp) g1
  exact run_fnG xs cs I1 hxs (fun p hp => ⟨(g2 p hp).1, (g2 p hp).2.1, (g2 p hp).2.2.1⟩) F hr hb r hs
end
end L2
set_option Elab.async false
set_option linter.all false
set_option maxRecDepth 100000
set_option maxHeartbeats 2000000
namespace L2
open PySem PySem.Spec PyProof.Rows
theorem lookup_outA : ∀ {l : List (Addr × Obj)} {a : Addr}, a ∉ l.map (·.1) → l.lookup a = none
  | [], _, _ => rfl
  | (b, u) :: l, a, h => by
    have hb : a ≠ b := fun z => h (by rw [z]; exact List.mem_cons_self)
    rw [List.lookup_cons, show (a == b) = false from by simpa using hb]
    exact lookup_outA fun z => h (List.mem_cons_of_mem _ z)
theorem law_callT {P : Program} {w : World} {K : PySem.W.Frag} {mg mb : Str → Option Value} {CX : CXT} {k : Nat} {fa a : Addr} {fd : FuncData} {x : Str} {sp : Sp} {s₁ : Shared} {vs : List Value} {ns : List Int} {ts : List Addr}
    (KX : K.In s₁.heap) (hns : s₁.heap.Ns mainGlobals mg) (hb : s₁.heap.Ns builtinsNs mb) (hbb : ∀ x : Str, x ≠ "__name__" → mb x = bootBuiltins x) (hlim : s₁.heap.NoLimit) (hg : s₁.gens = #[])
    (ha : s₁.heap.get? a = some { cls := .type "list", data := .seq vs.toArray }) (hi : IntsAre vs ns) (hl : ns.length ≤ sizeLine) (hr : Room k callerA)
    (hT : ∀ p ∈ ts, s₁.heap.get? p = some (PySem.W.tabObj #[])) (hTK : ∀ p ∈ ts, K.lookup p = none) (hTc : ∀ p ∈ ts, isCodeTable s₁.heap p)
    (F : ∀ base : Heap, K.In base → base.Ns mainGlobals mg → FnOk P w K mg base CX k fa fd [x] sp) (hbind : ∀ (s : Shared) (u : Value), BindsTo s fd ⟨[u], []⟩ [(x, u)])
    (hsp : ∀ H : Hp, (∀ p ∈ ts, H p = some (.tbl #[])) → SqL K H a (ns.map V.int) → sp [.ref a] H (fun v _ => v = .bl true) fun _ _ _ => False)
    (hCX : ∀ H e s', CX [] H s₁ (fun _ _ _ => False) e s' → False) :
    codeAny (model P w) callerA (.call (.ref fa) ⟨[.ref a], []⟩) (fun r s' => r = .ok (.ret (.bool true)) ∧ OldK s₁.heap s'.heap ∧ s'.os = s₁.os ∧ AllBare s'.gens) s₁ := by
  have rv := vals_ints hi
  have lenV := hi.length
  have core : ∀ H : Hp, (∀ b u, H b = some u → (b = a ∧ K.lookup a = none ∧ ∃ xs, u = .frz { cls := .type "list", data := .seq vs.toArray } (.lst xs)) ∨ (b ∈ ts ∧ u = .tbl #[])) → (∀ p ∈ ts, H p = some (.tbl #[])) → SqL K H a (ns.map V.int) → HOk P w H s₁.heap →
      codeAny (model P w) callerA (.call (.ref fa) ⟨[.ref a], []⟩) (fun r s' => r = .ok (.ret (.bool true)) ∧ OldK s₁.heap s'.heap ∧ s'.os = s₁.os ∧ AllBare s'.gens) s₁ := by
    intro H hA hTb hS hok
    have base_of : ∀ {b : Addr} {o : Obj}, s₁.heap.get? b = some o → H b = none → (hidT s₁.heap H).get? b = some o := fun e n => hidT_get e n
    have noA : ∀ {b : Addr} {o : Obj} {es : Array DictEntry} {ep : Nat}, s₁.heap.get? b = some o → o.data = .dict es ep → H b = none := fun {b o es ep} e d => by
      cases q : H b with
      | none => rfl
      | some u =>
        rcases hA b u q with ⟨rfl, _⟩ | ⟨hb, _⟩
        · rw [ha] at e; cases e
          have d' : Data.seq vs.toArray _ = Data.dict es ep := d
          cases d'
        · rw [hT b hb] at e; cases e
          have d' : Data.fields #[] = Data.dict es ep := d
          cases d'
    have nsK : ∀ {b : Addr} {m : Str → Option Value}, s₁.heap.Ns b m → (hidT s₁.heap H).Ns b m := fun {b m} ⟨o, es, ep, e, d, r⟩ => ⟨o, es, ep, base_of e (noA e d), d, r⟩
    have hKb : K.In (hidT s₁.heap H) := fun b o e => base_of (KX b o e) (by
      cases q : H b with
      | none => rfl
      | some u =>
        rcases hA b u q with ⟨rfl, hk, _⟩ | ⟨hb, _⟩
        · rw [hk] at e; cases e
        · rw [hTK b hb] at e; cases e)
    have hM : Mod K mg (hidT s₁.heap H) := ⟨hKb, nsK hns, ⟨mb, nsK hb, hbb⟩, let ⟨mc, h1, h2⟩ := hlim; ⟨mc, nsK h1, h2⟩⟩
    have e0 : Env0 P w K mg (hidT s₁.heap H) callerA [] s₁ H := ⟨rfl, hM, fun b o e => of_hidT e, Nat.le_of_eq (hidT_size _ _), trivial, fun b hb => absurd (show b ∈ ([] : List Addr) from hb) (by simp), hok, .of_eq hg⟩
    refine codeAny_mono ((F _ hKb (nsK hns)).run callerA [] s₁ H ⟨[.ref a], []⟩ [.ref a] [.ref a] _ _ hr e0 (hbind s₁ (.ref a)) (.cons rfl .nil) (hsp H hTb hS)) fun r s' h => ?_
    cases r with
    | error e => exact (hCX H e s' h).elim
    | ok fl =>
      cases fl with
      | next => exact False.elim h
      | brk => exact False.elim h
      | cont => exact False.elim h
      | ret u =>
        obtain ⟨v, H', os, bare, un, hok', r', q⟩ := h
        have q' : v = .bl true := q
        subst q'
        obtain rfl : u = Value.bool true := r'
        refine ⟨rfl, ⟨fun b o e => ?_, fun b o e => un.there b o e (by simp)⟩, os, bare⟩
        cases q : H b with
        | none => exact .inl (un.keep b o e q (by intro z; exact absurd (show b ∈ ([] : List Addr) from z) (by simp)) (by simp))
        | some u =>
          rcases hA b u q with ⟨rfl, _, xs, rfl⟩ | ⟨hb, rfl⟩
          · have z2 := un.frzs b _ _ q
            obtain ⟨e1, _⟩ := hok b _ q
            obtain ⟨e2, _⟩ := hok' b _ z2
            rw [e] at e1; cases e1
            exact .inl e2
          · obtain ⟨more, z2⟩ := un.tbls b _ q
            have e2 := hok' b _ z2
            rw [hT b hb] at e
            cases e
            exact .inr (.inl ⟨hTc b hb, rfl, #[], more, rfl, e2⟩)
  have naT : a ∉ ts := fun z => by
    have := hT a z
    rw [ha] at this
    have h2 := congrArg Obj.cls (Option.some.inj this)
    cases h2
  cases hk : K.lookup a with
  | some o =>
    have e := KX a o hk
    rw [ha] at e
    cases e
    refine core (fun b => if b ∈ ts then some (.tbl #[]) else none) (fun b u z => ?_) (fun p hp => if_pos hp) (.inr ⟨_, vs.toArray, _, hk, rfl, rfl, rfl, by rw [List.size_toArray, lenV]; exact hl, by simpa using rv⟩) (fun b u z => ?_)
    · by_cases hb : b ∈ ts
      · have z' := (if_pos hb).symm.trans z
        cases z'
        exact .inr ⟨hb, rfl⟩
      · have z' := (if_neg hb).symm.trans z
        cases z'
    · by_cases hb : b ∈ ts
      · have z' := (if_pos hb).symm.trans z
        cases z'
        exact hT b hb
      · have z' := (if_neg hb).symm.trans z
        cases z'
  | none =>
    refine core (fun b => if b ∈ ts then some (.tbl #[]) else if b = a then some (.frz { cls := .type "list", data := .seq vs.toArray } (.lst (ns.map V.int))) else none) (fun b u z => ?_) (fun p hp => if_pos hp) (.inl (.inr ⟨{ cls := .type "list", data := .seq vs.toArray }, (if_neg naT).trans (if_pos rfl)⟩)) (fun b u z => ?_)
    · by_cases hb : b ∈ ts
      · have z' := (if_pos hb).symm.trans z
        cases z'
        exact .inr ⟨hb, rfl⟩
      · have z' := (if_neg hb).symm.trans z
        by_cases hba : b = a
        · rw [if_pos hba] at z'
          cases z'
          exact .inl ⟨hba, hk, _, rfl⟩
        · rw [if_neg hba] at z'
          cases z'
    · by_cases hb : b ∈ ts
      · have z' := (if_pos hb).symm.trans z
        cases z'
        exact hT b hb
      · have z' := (if_neg hb).symm.trans z
        by_cases hba : b = a
        · rw [if_pos hba] at z'
          cases z'
          subst hba
          exact ⟨ha, by rw [List.length_map]; exact hl, vs, _, rv, ha⟩
        · rw [if_neg hba] at z'
          cases z'
structure BltK (K : PySem.W.Frag) (mg : Str → Option Value) (bm : Addr) : Prop where
  m : mg (Str.ofString "__builtins__") = some (.ref bm)
  l : ∃ ob, K.lookup bm = some ob ∧ ob.cls = .type "module" ∧ ob.dict = some builtinsNs ∧ ob.data = .plain
  n1 : bm ≠ builtinsNs
  n2 : bm ≠ mainGlobals
theorem BltK.at {K : PySem.W.Frag} {mg : Str → Option Value} {bm : Addr} (b : BltK K mg bm) {T : Addr} (n : bm ≠ T) (h : Heap) (k : K.In h) : h.BuiltinsAt mg T := by
  obtain ⟨ob, l, c, d, e⟩ := b.l
  exact ⟨bm, ob, b.m, b.n1, b.n2, n, k _ _ l, c, d, e⟩
theorem walk_ofT {l : PySem.W.OpenLaw} {n k : Nat} {q : Program} {loose : List Str} {XP : (Str → Option Value) → Heap → Prop} {d : DefRec} {K : Params → PySem.W.Frag} {as ts : List Addr} {ee : ∀ (P : Params), as = List.map (fun x => x.fst) (K P)} {CX : CXT} {sp : PySem.W.Frag → Sp} {x : Str}
    (hn : l.most = some n) (hn2 : n ≤ sizeLine) (hdf : d.params.defaults = []) (hr : Room k callerA) (hts : ∀ p ∈ ts, p ∉ as)
    (hct : ∀ (w : World) (h : Heap), (K w.params).In h → ∀ p ∈ ts, isCodeTable h p)
    (F : ∀ (w : World) (mg : Str → Option Value) (fa : Addr) (h : Heap) (K' : PySem.W.Frag) (bm : Addr), (K w.params).In h → h.Ns mainGlobals mg → mg d.name = some (.ref fa) → (∀ a o, (K w.params).lookup a = some o → K'.lookup a = some o) → BltK K' mg bm → (∀ p ∈ ts, bm ≠ p) →
      ∃ fd : FuncData, (∀ (s : Shared) (u : Value), BindsTo s fd ⟨[u], []⟩ [(x, u)]) ∧
        ∀ base : Heap, K'.In base → base.Ns mainGlobals mg → FnOk l.prog w K' mg base CX k fa fd [x] (sp K'))
    (hsp : ∀ (K : PySem.W.Frag) (H : Hp) (a : Addr) (ns : List Int), ns.length ≤ n → (∀ p ∈ ts, H p = some (.tbl #[])) → SqL K H a (ns.map V.int) → sp K [.ref a] H (fun v _ => v = .bl true) fun _ _ _ => False)
    (hCX : ∀ (H : Hp) (s : Shared) (e : Value) (s' : Shared), CX [] H s (fun _ _ _ => False) e s' → False) :
    PySem.W.WalkO q loose XP (PySem.W.kmHook K as ee ts).says l.row.toRowW d [] (fun f vs => PySem.call f vs) := by
  refine Att.attach_call hn hdf fun w s₀ s₁ mg mb fa o pm cd doc a vs ns G Y ho hd hcd hmg hobj hints hlen hg => ?_
  have KX : (K w.params).In s₁.heap := PySem.W.km_in_of Y
  have TX := PySem.W.km_tabs_of Y
  obtain ⟨bm, ob, b1, b2, b3, b4, b5, b6⟩ := G.T.bmain
  have KX' : PySem.W.Frag.In (K w.params ++ [(bm, ob)]) s₁.heap := fun b u e => by
    have e : List.lookup b (K w.params ++ [(bm, ob)]) = some u := e
    rw [List.lookup_append] at e
    cases z : List.lookup b (K w.params) with
    | some u' =>
      rw [z] at e
      cases e
      exact KX b u z
    | none =>
      rw [z, Option.none_or] at e
      have hm := mem_of_lookupA e
      rcases List.mem_singleton.mp hm with h
      cases h
      exact b3
  have lb : List.lookup bm (K w.params ++ [(bm, ob)]) = some ob := by
    rw [List.lookup_append]
    cases z : List.lookup bm (K w.params) with
    | some u' =>
      have := KX bm u' z
      rw [b3] at this
      cases this
      rfl
    | none => simp
  have nT : ∀ p ∈ ts, bm ≠ p := fun p hp z => by
    have := TX p hp
    rw [← z, b3] at this
    cases this
    cases b4
  have nM : bm ≠ mainGlobals := fun z => by
    obtain ⟨o', es, ep, e, d', _⟩ := G.T.g
    rw [← z, b3] at e
    cases e
    rw [b6] at d'
    cases d'
  obtain ⟨fd, hb, hF⟩ := F w mg fa _ (K w.params ++ [(bm, ob)]) bm KX G.T.g hmg (fun b u e => by
    show List.lookup b (K w.params ++ [(bm, ob)]) = some u
    rw [List.lookup_append, show List.lookup b (K w.params) = some u from e]; rfl) ⟨b1, ⟨ob, lb, b4, b5, b6⟩, b2, nM⟩ nT
  exact law_callT KX' G.T.g G.T.b G.T.builtins G.T.nolimit hg hobj hints (Nat.le_trans hlen hn2) hr TX (fun p hp => by
    show List.lookup p (K w.params ++ [(bm, ob)]) = none
    rw [List.lookup_append, show List.lookup p (K w.params) = none from lookup_outA (by rw [← ee w.params]; exact hts p hp), Option.none_or]
    exact lookup_outA (by
      intro z
      have : p = bm := by simpa using z
      exact nT p hp this.symm)) (hct w _ KX) hF hb (fun H hO hS => hsp _ H a ns hlen hO hS) fun H e s' => hCX H s₁ e s'
end L2
set_option Elab.async false
set_option linter.all false
set_option maxRecDepth 100000
set_option maxHeartbeats 2000000
namespace Ken
open PySem L2
theorem pre_drop : ∀ (t : Tm) (j : Nat), j < t.pre.length → ∃ s rest, t.pre[j]? = some s ∧ t.pre.drop j = s.pre ++ rest ∧ s.parts ≤ t.parts
  | .low, j, h => by
    have : j = 0 := by have h' : j < 1 := h; omega
    subst this
    exact ⟨.low, [], rfl, rfl, Nat.le_refl _⟩
  | .ltr w, j, h => by
    have : j = 0 := by have h' : j < 1 := h; omega
    subst this
    exact ⟨.ltr w, [], rfl, rfl, Nat.le_refl _⟩
  | .nd k a b, 0, h => ⟨.nd k a b, [], rfl, by rw [List.append_nil]; rfl, Nat.le_refl _⟩
  | .nd k a b, j + 1, h => by
    have e1 : (Tm.nd k a b).pre = .nd k a b :: (a.pre ++ b.pre) := rfl
    have e2 : (Tm.nd k a b).parts = 1 + a.parts + b.parts := rfl
    rw [e1] at h ⊢
    rw [List.length_cons, List.length_append] at h
    rw [List.getElem?_cons_succ, List.drop_succ_cons, e2]
    by_cases hj : j < a.pre.length
    · obtain ⟨s, rest, h1, h2, h3⟩ := pre_drop a j hj
      refine ⟨s, rest ++ b.pre, by rw [List.getElem?_append_left hj]; exact h1, ?_, by omega⟩
      rw [List.drop_append_of_le_length (Nat.le_of_lt hj), h2, List.append_assoc]
    · obtain ⟨s, rest, h1, h2, h3⟩ := pre_drop b (j - a.pre.length) (by omega)
      refine ⟨s, rest, by rw [List.getElem?_append_right (by omega)]; exact h1, ?_, by omega⟩
      rw [List.drop_append, List.drop_of_length_le (by omega), List.nil_append]; exact h2
theorem pre_head (t : Tm) : ∃ l, t.pre = t :: l := ⟨_, t.pre_eq⟩
theorem forest_head {fs : List Tm} {a : Tm} {rest : List Tm} (h : fs.flatMap Tm.pre = a.pre ++ rest) : ∃ fs', fs = a :: fs' ∧ fs'.flatMap Tm.pre = rest := by
  cases fs with
  | nil =>
    obtain ⟨l, e⟩ := pre_head a
    rw [e] at h; cases h
  | cons f fs =>
    obtain ⟨l, e⟩ := pre_head f
    obtain ⟨m, e'⟩ := pre_head a
    have h' := h
    rw [List.flatMap_cons, e, e'] at h'
    have ef : f = a := (List.cons.inj h').1
    subst ef
    rw [List.flatMap_cons] at h
    exact ⟨fs, rfl, List.append_cancel_left h⟩
theorem forest_nil {fs : List Tm} (h : fs.flatMap Tm.pre = []) : fs = [] := by
  cases fs with
  | nil => rfl
  | cons f fs =>
    obtain ⟨l, e⟩ := pre_head f
    rw [List.flatMap_cons, e] at h; cases h
end Ken
set_option Elab.async false
set_option linter.all false
set_option maxRecDepth 100000
set_option maxHeartbeats 2000000
namespace L2
open PySem PySem.Spec PyProof.Rows
def posOf (s : Stmt) : Pos := match s with
  | .FunctionDef _ _ _ _ _ _ _ _ _ p => p
  | _ => ⟨0, 0, 0, 0⟩
def inDef (s : Stmt) (j : Nat) : Stmt := (defBody s).getD j (.Pass ⟨0, 0, 0, 0⟩)
theorem ps_defS {X : Cx} {i : Nat} {name qual : Str} {st : Stmt} {cl : List (Str × Addr)} {c P : Addr} {ds : List (Pos × Str)}
    (hst : st = .FunctionDef name (defArgs st) (defBody st) [] none [] (defScope st) none name (posOf st))
    (hN : X.N.Nodup) (hi : X.N[i]? = some name) (hx : Loc X.env.scope name) (hcl : closureFor (defScope st) X.env = pure cl) (hc : X.env.code = .ref c) (hC : ∀ h, X.K.In h → PySem.W.CodeHd h c P) (hB : ∀ h, X.K.In h → h.BuiltinsAt X.mg P) (hP : mainGlobals ≠ P)
    (hq : qualnameIn X.env name name = qual) (hd : (posOf st, qual) ∈ ds) (hds : ∀ d ∈ ds, d.1.line = (posOf st).line → d.1.col = (posOf st).col → d.2 = qual)
    (h1 : (defArgs st).defaults = []) (h2 : (defArgs st).kw_defaults = []) (h3 : annTrees (defArgs st) none X.env = [])
    (hf : X.fn name = true ∨ X.env.scope.names.lookup name = some .local := by first | exact .inl rfl | exact .inr rfl | assumption) :
    PS X st (tDef i name qual (defArgs st) (defBody st) (defScope st) cl P ds) := by
  have h := ps_def (X := X) (pos := posOf st) (body := defBody st) hN hi hx hcl hc hC hB hP hq hd hds h1 h2 h3 hf
  rw [← hst] at h
  exact h
theorem codeIn_of {K : PySem.W.Frag} {c : Addr} {o : Obj} {vs : Array Value} {q : Str} {t : Tok} (h : K.lookup c = some o) (hd : o.data = .fields vs) (hv : vs[1]? = some (.str q t)) : PySem.W.codeIn K (.ref c) q = true := by
  obtain ⟨cls, dict, data, slots⟩ := o
  have hd : data = .fields vs := hd
  subst hd
  unfold PySem.W.codeIn
  dsimp only
  rw [show List.lookup c K = _ from h]
  obtain ⟨l⟩ := vs
  have hv : l[1]? = some (.str q t) := by simpa using hv
  match l, hv with
  | a :: b :: r, hv =>
    have hb : b = .str q t := by simpa using hv
    subst hb
    show (q == q) = true
    simp
theorem keepIn_fn {K : PySem.W.Frag} {f : Addr} {oc : Value} {od : Option Addr} {fd : FuncData} {sl : Array (Option Value)} (h : K.lookup f = some ⟨oc, od, .func fd, sl⟩) : PySem.W.keepIn K (.ref f) = true := by
  unfold PySem.W.keepIn
  dsimp only
  rw [show List.lookup f K = _ from h]
theorem codeIn_le {K K' : PySem.W.Frag} (k : KLe K K') {cd : Value} {q : Str} (h : PySem.W.codeIn K cd q = true) : PySem.W.codeIn K' cd q = true := by
  cases cd with
  | ref c =>
    unfold PySem.W.codeIn at h ⊢
    dsimp only at h ⊢
    cases z : List.lookup c K with
    | none => rw [z] at h; cases h
    | some o =>
      rw [z] at h
      rw [show List.lookup c K' = some o from k c o z]
      exact h
  | _ => exact absurd h (by simp [PySem.W.codeIn])
theorem Fun.le {K K' : PySem.W.Frag} (k : KLe K K') {x qual : Str} {st : Stmt} {f : Addr} {fd : FuncData} (F : Fun K x qual st f fd) : Fun K' x qual st f fd := by
  obtain ⟨⟨oc, od, kV, doc, pm, an, cdv, ct, osl, e, lk, hcd⟩, kp⟩ := F
  exact ⟨⟨oc, od, kV, doc, pm, an, cdv, ct, osl, e, k _ _ lk, codeIn_le k hcd⟩, keepIn_fn (k _ _ lk)⟩
theorem Binds.le {K K' : PySem.W.Frag} (k : KLe K K') {fd : FuncData} {ps : List Str} {ds : List Value} (b : Binds K fd ps ds) : Binds K' fd ps ds := fun s us h hl => b s us (fun a o e => h a o (k a o e)) hl
theorem SqT.le {K K' : PySem.W.Frag} (k : KLe K K') {H : Hp} {a : Addr} {xs : List V} (h : SqT K H a xs) : SqT K' H a xs := by
  rcases h with h | ⟨o, its, n, e, r⟩
  · exact .inl h
  · exact .inr ⟨o, its, n, k a o e, r⟩
structure FunT (K : PySem.W.Frag) (x qual : Str) (st : Stmt) (f : Addr) (fd : FuncData) (P : Addr) : Prop where
  ex : ∃ (oc : Value) (od : Option Addr) (kV doc pm : Value) (an : Option Addr) (c : Addr) (ct : Value) (osl : Array (Option Value)),
    fd = PySem.W.fnOf x qual (defArgs st) (defBody st) (defScope st) .none kV doc pm an (.ref c) ct ∧ K.lookup f = some ⟨oc, od, .func fd, osl⟩ ∧ PySem.W.codeIn K (.ref c) qual = true ∧ ∀ h, K.In h → PySem.W.CodeHd h c P
  kp : PySem.W.keepIn K (.ref f) = true
theorem FunT.ok {P : Program} {w : World} {K : PySem.W.Frag} {mg : Str → Option Value} {base : Heap} {x qual : Str} {st : Stmt} {f : Addr} {fd : FuncData} {T : Addr} {N ps : List Str} {k : Nat} {sp : Sp} (F : FunT K x qual st f fd T) (S : FnScope N ps (defScope st)) (len : ∀ vs H Q E, sp vs H Q E → vs.length = ps.length)
    (hbody : ∀ (c : Addr) (A : Around) (outer : List Env) (s : Shared) (H : Hp) (vs : List V) (Q : VK) (E : XK), (∀ h, K.In h → PySem.W.CodeHd h c T) → Room k (A.deeper (envOfC qual (defScope st) s.heap.objs.size f (.ref c))) → sp vs H Q E →
      ∃ t, PSs (cxOf CX0 P w K mg base N qual (defScope st) f (.ref c) A outer s H E).nox (defBody st) t ∧ t { nx := fun _ H' => Q .non H', rt := Q } (start N vs) H) : FnOk P w K mg base CX0 (k + 1) f fd ps sp := by
  obtain ⟨oc, od, kV, doc, pm, an, c, ct, osl, rfl, lk, hcd, hC⟩ := F.ex
  refine fn_of lk hcd S len fun A outer s H vs Q E hr hsp => ?_
  obtain ⟨t, h, q⟩ := hbody c A outer s H vs Q E hC hr hsp
  exact ⟨t, h.nox, q⟩
structure FunC (K : PySem.W.Frag) (x qual : Str) (st : Stmt) (cl : List (Str × Addr)) (f : Addr) (fd : FuncData) : Prop where
  ex : ∃ (oc : Value) (od : Option Addr) (doc pm cdv ct : Value) (osl : Array (Option Value)),
    fd = PySem.W.fnX x qual (defArgs st) (defBody st) (defScope st) cl .none .none doc pm none cdv ct ∧ K.lookup f = some ⟨oc, od, .func fd, osl⟩ ∧ PySem.W.codeIn K cdv qual = true
  kp : PySem.W.keepIn K (.ref f) = true
theorem FunC.ok {P : Program} {w : World} {K : PySem.W.Frag} {mg : Str → Option Value} {base : Heap} {x qual : Str} {st : Stmt} {cl : List (Str × Addr)} {f : Addr} {fd : FuncData} {N ps fv : List Str} {frv : List V} {k : Nat} {sp : Sp} (F : FunC K x qual st cl f fd) (S : FnScopeC N ps fv (defScope st)) (C : Caught K (defScope st) cl fv frv) (len : ∀ vs H Q E, sp vs H Q E → vs.length = ps.length)
    (hbody : ∀ (cdv : Value) (A : Around) (outer : List Env) (s : Shared) (H : Hp) (vs : List V) (Q : VK) (E : XK), Room k (A.deeper (PySem.W.envX qual (defScope st) s.heap.objs.size f cdv cl)) → sp vs H Q E →
      ∃ t, PSs (cxC CX0 P w K mg base N qual (defScope st) f cdv cl A outer s H E).nox (defBody st) t ∧ t { nx := fun _ H' => Q .non H', rt := Q } (start N (vs ++ frv)) H) : FnOk P w K mg base CX0 (k + 1) f fd ps sp := by
  obtain ⟨oc, od, doc, pm, cdv, ct, osl, rfl, lk, hcd⟩ := F.ex
  refine fn_ofC lk hcd S C len fun A outer s H vs Q E hr hsp => ?_
  obtain ⟨t, h, q⟩ := hbody cdv A outer s H vs Q E hr hsp
  exact ⟨t, h.nox, q⟩
theorem FunC.binds {K : PySem.W.Frag} {x qual : Str} {st : Stmt} {cl : List (Str × Addr)} {f : Addr} {fd : FuncData} {ps : List Str} (F : FunC K x qual st cl f fd)
    (h : ∀ (doc pm cdv ct : Value) (us : List Value), us.length = ps.length → bindArgs (PySem.W.fnX x qual (defArgs st) (defBody st) (defScope st) cl .none .none doc pm none cdv ct) ⟨us, []⟩ = pure (ps.zip us)) : Binds K fd ps [] := by
  obtain ⟨oc, od, doc, pm, cdv, ct, osl, rfl, lk, hcd⟩ := F.ex
  exact .all (h doc pm cdv ct)
theorem FnFz.objs {H : Hp} {f : Addr} {name qual : Str} {st : Stmt} {cl : List (Str × Addr)} (h : FnFz H f name qual (defArgs st) (defBody st) (defScope st) cl) :
    ∃ (o1 : Obj) (c : Addr) (o2 : Obj), H f = some (FZ o1) ∧ H c = some (FZ o2) ∧ (∀ its n, o1.data ≠ .seq its n) ∧ (∀ its n, o2.data ≠ .seq its n) ∧
      ∀ K : PySem.W.Frag, K.lookup f = some o1 → K.lookup c = some o2 → ∃ fd, FunC K name qual st cl f fd := by
  obtain ⟨doc, pm, ct, cv, h1, c, o, vs, t, rfl, h3, h4, h5⟩ := h
  refine ⟨_, c, o, h1, h3, ?_, ?_, fun K e1 e2 => ⟨_, ⟨_, _, doc, pm, _, ct, _, rfl, e1, codeIn_of e2 h4 h5⟩, keepIn_fn e1⟩⟩
  · intro its n z
    cases z
  · intro its n z
    rw [h4] at z; cases z
def CellIn (X : Cx) (K : PySem.W.Frag) (x : Str) (v : V) : Prop := ∃ c o u, X.env.cells.lookup x = some c ∧ K.lookup c = some o ∧ o.data = .cell (some u) ∧ RelV v u
theorem caught_of {X : Cx} {K : PySem.W.Frag} {sc : Scope} {fv : List Str} {frv : List V} (ok : X.Ok) (hlen : frv.length = fv.length) (h1 : ∀ y ∈ sc.names, y.2 = .free → y.1 ∈ fv) (h2 : ∀ x ∈ fv, (x, NameKind.free) ∈ sc.names)
    (hc : ∀ (i : Nat) (x : Str) (v : V), fv[i]? = some x → frv[i]? = some v → CellIn X K x v) : Caught K sc (closL X.env.cells sc.names []) fv frv := by
  have at' : ∀ x c, (closL X.env.cells sc.names []).lookup x = some c → x ∈ fv ∧ c = (X.env.cells.lookup x).getD 0 := fun x c e => by
    rcases closL_mem (PySem.mem_of_lookup e) with z | ⟨z1, z2⟩
    · exact absurd z (by simp)
    · exact ⟨h1 _ z1 rfl, z2⟩
  have val : ∀ x ∈ fv, ∃ i v, fv[i]? = some x ∧ frv[i]? = some v := fun x hx => by
    obtain ⟨i, hi, e⟩ := List.getElem_of_mem hx
    exact ⟨i, frv[i]'(by omega), by rw [List.getElem?_eq_getElem hi, e], List.getElem?_eq_getElem _⟩
  have lk : ∀ x, x ∈ fv → ∃ c, (closL X.env.cells sc.names []).lookup x = some c := fun x hx => by
    obtain ⟨c, hm⟩ := closL_has (cells := X.env.cells) (acc := []) (.inl (h2 x hx))
    exact lookup_of_mem hm
  refine ⟨hlen, fun i x v e1 e2 => ?_, fun x c e => ?_, fun x y c e1 e2 => ?_, fun x e => ?_⟩
  · obtain ⟨c, o, u, g1, g2, g3, g4⟩ := hc i x v e1 e2
    obtain ⟨c', e⟩ := lk x (List.mem_of_getElem? e1)
    have := (at' x c' e).2
    rw [g1] at this
    cases this
    exact ⟨c, o, u, e, g2, g3, g4⟩
  · obtain ⟨hx, hcv⟩ := at' x c e
    obtain ⟨i, v, e1, e2⟩ := val x hx
    obtain ⟨c', o, u, g1, g2, g3, g4⟩ := hc i x v e1 e2
    rw [g1] at hcv
    cases hcv
    exact ⟨o, _, g2, g3⟩
  · obtain ⟨hx, hcx⟩ := at' x c e1
    obtain ⟨hy, hcy⟩ := at' y c e2
    obtain ⟨i, v, i1, i2⟩ := val x hx
    obtain ⟨j, u, j1, j2⟩ := val y hy
    obtain ⟨c1, _, _, g1, _⟩ := hc i x v i1 i2
    obtain ⟨c2, _, _, g2, _⟩ := hc j y u j1 j2
    rw [g1] at hcx
    rw [g2] at hcy
    cases hcx
    cases hcy
    exact ok.inj x y _ g1 g2
  · exact lk x (h1 _ (PySem.mem_of_lookup e) rfl)
mutual
theorem Dn.moveT {K K' : PySem.W.Frag} {H H' : Hp} (k : ∀ a xs, SqT K H a xs → SqT K' H' a xs) : ∀ {d : PyData} {v : V}, noList d = true → Dn K H v d → Dn K' H' v d
  | .none, v, _, h => by rw [Dn] at h ⊢; exact h
  | .bool _, v, _, h => by rw [Dn] at h ⊢; exact h
  | .int _, v, _, h => by rw [Dn] at h ⊢; exact h
  | .str _, v, _, h => by rw [Dn] at h ⊢; exact h
  | .list _, v, n, h => by rw [noList] at n; cases n
  | .dict _, v, n, h => by rw [noList] at n; cases n
  | .tuple ds, v, n, h => by
    rw [Dn] at h ⊢
    rw [noList] at n
    obtain ⟨a, xs, e, hs, hd⟩ := h
    exact ⟨a, xs, e, k a xs hs, DnAll.moveT k n hd⟩
theorem DnAll.moveT {K K' : PySem.W.Frag} {H H' : Hp} (k : ∀ a xs, SqT K H a xs → SqT K' H' a xs) : ∀ {ds : List PyData} {xs : List V}, noLists ds = true → DnAll K H xs ds → DnAll K' H' xs ds
  | [], xs, _, h => by rw [DnAll] at h ⊢; exact h
  | d :: ds, xs, n, h => by
    rw [DnAll] at h ⊢
    rw [noLists, Bool.and_eq_true] at n
    obtain ⟨x, r, e, h1, h2⟩ := h
    exact ⟨x, r, e, Dn.moveT k n.1 h1, DnAll.moveT k n.2 h2⟩
end
theorem sqT_in {K K' : PySem.W.Frag} {H : Hp} {xs : List (Addr × Obj)} (hx : ∀ p ∈ xs, H p.1 = some (FZ p.2)) (k : KLe K K') (a : Addr) (ys : List V) (h : SqT K H a ys) : SqT K' (remX xs H) a ys := by
  have out : ∀ {b : Addr} {u : HO}, H b = some u → (∀ o, u ≠ FZ o) → b ∉ xs.map (·.1) := fun {b u} e n z => by
    obtain ⟨p, hp, rfl⟩ := List.mem_map.mp z
    rw [hx p hp] at e
    cases e
    exact n p.2 rfl
  rcases h with (h | ⟨o, h⟩) | ⟨o, its, n, e, r⟩
  · exact .inl (.inl (by rw [remX_out (out h fun _ z => nomatch z)]; exact h))
  · exact .inl (.inr ⟨o, by rw [remX_out (out h fun _ z => by cases z)]; exact h⟩)
  · exact .inr ⟨o, its, n, k a o e, r⟩
end L2
set_option Elab.async false
set_option linter.all false
set_option maxRecDepth 100000
set_option maxHeartbeats 2000000
namespace Ken
open PySem L2
def Tm.sub (t : Tm) (x : Str) (o : Tm) : Tm :=
  match t with
  | .low => .low
  | .ltr w => if w = x then o else .ltr w
  | .nd k a b => .nd k (a.sub x o) (b.sub x o)
theorem Tm.sub_self (x : Str) : ∀ t : Tm, t.sub x (.ltr x) = t
  | .low => rfl
  | .ltr w => by
    show (if w = x then Tm.ltr x else .ltr w) = _
    by_cases h : w = x
    · rw [if_pos h, h]
    · rw [if_neg h]
  | .nd k a b => by
    show Tm.nd k (a.sub x (.ltr x)) (b.sub x (.ltr x)) = _
    rw [a.sub_self, b.sub_self]
theorem SameT.keepT {K : PySem.W.Frag} {H H' : Hp} (e : SameT H H') : KeepT K H H' := fun a xs h => by
  rcases h with (h | ⟨o, h⟩) | h
  · exact .inl (.inl (e _ _ (fun _ z => nomatch z) h))
  · exact .inl (.inr ⟨o, e _ _ (fun _ z => nomatch z) h⟩)
  · exact .inr h
theorem SameT.seq {K : PySem.W.Frag} {H H' : Hp} {a : Addr} {xs : List V} (e : SameT H H') (h : SqL K H a xs) : SqL K H' a xs := by
  rcases h with (h | ⟨o, h⟩) | h
  · exact .inl (.inl (e _ _ (fun _ z => nomatch z) h))
  · exact .inl (.inr ⟨o, e _ _ (fun _ z => nomatch z) h⟩)
  · exact .inr h
end Ken
set_option Elab.async false
set_option linter.all false
set_option maxRecDepth 100000
set_option maxHeartbeats 2000000
namespace Ken
open PySem L2
section
variable {X : Cx} {pins : List (Addr × Obj)} {σ : St} {H : Hp} {s : Shared}
end
theorem tms_dn {K : PySem.W.Frag} {H : Hp} : ∀ {us : List V} {ts : List Tm}, Paired (IsT K H) us ts → DnAll K H us (ts.map Tm.data)
  | _, _, .nil => by rw [List.map_nil, DnAll]
  | _, _, .cons h t => by
    rw [List.map_cons, DnAll]
    exact ⟨_, _, rfl, h, tms_dn t⟩
theorem tms_lay : ∀ {ts : List Tm}, (∀ t ∈ ts, t.ok) → (PyData.list (ts.map Tm.data)).canLay0 = true
  | [], _ => rfl
  | t :: ts, h => by
    have := tms_lay (ts := ts) fun s hs => h s (List.mem_cons_of_mem _ hs)
    show (t.data.canLay0 && (PyData.list (ts.map Tm.data)).canLay0) = true
    rw [t.lay (h t List.mem_cons_self), this]; rfl
end Ken
namespace L2
open PySem PySem.Spec PyProof.Rows
section
variable {X : Cx}
def rInT (K : PySem.W.Frag) (neg : Bool) : R2 := fun x y H Q => ∃ (t : Ken.Tm) (p : Addr) (xs : List V) (ts : List Ken.Tm), Ken.IsT K H x t ∧ y = .ref p ∧ SqL K H p xs ∧ Paired (Ken.IsT K H) xs ts ∧ t.ok ∧ (∀ s ∈ ts, s.ok) ∧ t.deep ≤ 140 ∧ Q (.bl (if neg then !decide (t ∈ ts) else decide (t ∈ ts))) H
end
end L2
set_option Elab.async false
set_option linter.all false
set_option maxRecDepth 100000
set_option maxHeartbeats 2000000
namespace L2
open PySem PySem.Spec PyProof.Rows
def Itd (lo : Int) (n : Nat) : It := ⟨fun i _ => i < n, fun i H x H' => H' = H ∧ x = .int (lo - i), fun i _ => n ≤ i⟩
section
variable {X : Cx} {tg : Expr}
def iRngD (ta : TA) : TI := fun σ H R => ta σ H fun vs H1 => ∃ i j : Int, vs = [.int i, .int j, .int (-1)] ∧ (-10000 ≤ i ∧ i < 10000 ∧ -10000 ≤ j ∧ j < 10000) ∧ R (Itd i (i - j).toNat) H1
end
section
variable {X : Cx}
def rIndexT (K : PySem.W.Frag) : V → List V → Hp → VK → Prop := fun x vs H Q => ∃ (y : V) (t : Ken.Tm) (p : Addr) (xs : List V) (ts : List Ken.Tm), x = .ref p ∧ vs = [y] ∧ Ken.IsT K H y t ∧ SqL K H p xs ∧ Paired (Ken.IsT K H) xs ts ∧ t.ok ∧ (∀ s ∈ ts, s.ok) ∧ t.deep ≤ 140 ∧ t ∈ ts ∧
  ∀ j : Nat, ts[j]? = some t → Q (.int (j : Nat)) H
end
end L2
set_option Elab.async false
set_option linter.all false
set_option maxRecDepth 100000
set_option maxHeartbeats 2000000
namespace L2
open PySem PySem.Spec PyProof.Rows
section
variable {X : Cx} {scope : Scope} {cl : List (Str × Addr)} {N' : List Str} {nt : Nat} {ci : List Nat} {pins : List (Addr × Obj)} {σ : St} {H : Hp} {s : Shared}
theorem dK_obj {P : Program} {w : World} (H : Hp) (h : Heap) (a : Addr) (e : h.get? a = some { cls := .type "dict", dict := none, data := .dict #[] }) (hb : sysModules < a) : ObjOk P w (upd H a (.dK [])) h a (.dK []) :=
  ⟨Nat.zero_le _, beq_eq_false_iff_ne.mpr (Ne.symm (Nat.ne_of_lt hb)), [], .nil, _, #[], 0, e, ⟨rfl, rfl, rfl⟩, rfl, fun _ he => by simp at he, Pairs.nil, List.nodup_nil⟩
theorem pe_dcK {ek ev tg iter : Expr} {ifs : List Expr} {gs : List Comprehension} {pos p0 : Pos} {wi : TI} {g : TG} {tk : Addr → TK} {body : Addr → Env → Sem Unit} (B : X.Ok → BlkOk X scope cl N' nt ci) (hc : X.calm = true) (hi : PI X tg iter wi)
    (hg : ∀ s H C ex, PG (blk X N' scope cl s H C ex) tg g) (htn : ∀ a env, TurnIs (.DictComp ek ev (⟨tg, iter, ifs, 0⟩ :: gs) scope pos) 0 tg p0 (.ref a) env (body a env))
    (hb : ∀ s H C ex a, PTn (blk X N' scope cl s H C ex) (body a (blk X N' scope cl s H C ex).env) (tk a)) (hs : ∀ x, foldedSetIterable iter X.env x = pure x := by intro _; rfl) :
    PE X (.DictComp ek ev (⟨tg, iter, ifs, 0⟩ :: gs) scope pos) (tComp nt ci wi g tk (.dK [])) := by
  intro pins s σ H Q I h
  rw [arm_eval_DictComp]
  refine cg_core (B I.ok) hc hi hg rfl (fun _ _ => den_D) htn hb (fun h => wpAny_newObj_type h) rfl dK_obj hs I h fun acc C s' H' I' q hm hf ho => ?_
  obtain ⟨m, hm⟩ := hm
  obtain ⟨f0, f1, f2, f3, f4, f5⟩ := hf
  exact ⟨m, hm, fun h' sb => ⟨.ref acc, H', I'.turned (t' := s'.toks) (fun b o hb e => (sb.2 b hb).trans e) f0 f1 f3 f4 f5, rfl, q⟩⟩
end
end L2
set_option Elab.async false
set_option linter.all false
set_option maxRecDepth 100000
set_option maxHeartbeats 2000000
namespace Ken
open PySem L2
def tg (l : List Bool) (n : Nat) : Bool := l[n]?.getD true
def wStep (ws : List Wd) (l : List Bool) (n : Nat) : List Bool := if tg l n then l else match bef ws n with
  | some j => l.set j false
  | none => l
def wLoop (ws : List Wd) (l : List Bool) : Nat → List Bool
  | 0 => l
  | i + 1 => wStep ws (wLoop ws l i) (ws.length - 1 - i)
def wThen (ws : List Wd) (l : List Bool) : List Bool := wLoop ws l (ws.length - 1)
def ifs (a b : List Bool) : List Bool := List.zipWith (fun x y => !x || y) a b
def tr (ws : List Wd) : Tm → List Bool
  | .low => ws.map fun _ => false
  | .ltr x => ws.map fun w => decide (x ∈ w.2)
  | .nd .both a b => List.zipWith and (tr ws a) (tr ws b)
  | .nd .one a b => List.zipWith or (tr ws a) (tr ws b)
  | .nd .thn a b => wThen ws (ifs (tr ws a) (tr ws b))
end Ken
set_option Elab.async false
set_option linter.all false
set_option maxRecDepth 100000
set_option maxHeartbeats 2000000
namespace L2
open PySem PySem.Spec PyProof.Rows
theorem for_listT {K : PySem.W.Frag} {a : Addr} {xs : List V} {tl : TE} {g : TG} {tb : TS} {D : Ends} {σ : St} {H : Hp} (ht : ∀ Q : VK, Q (.ref a) H → tl σ H Q) (Pv : Nat → St → Hp → Prop) (h0 : Pv 0 σ H) (hl : ∀ i σ H, i ≤ xs.length → Pv i σ H → SqL K H a xs)
    (hs : ∀ i x σ H, xs[i]? = some x → Pv i σ H → g x σ H fun σ2 H2 => tb { D with nx := Pv (i + 1), ct := Pv (i + 1), bk := D.nx } σ2 H2) (hd : ∀ σ H, Pv xs.length σ H → D.nx σ H) : tFor (iList K tl) g tb D σ H :=
  ht _ ⟨a, rfl, ⟨xs, hl 0 σ H (Nat.zero_le _) h0⟩, for_list Pv h0 hl hs hd⟩
end L2
namespace Ken
open PySem L2
abbrev bls (l : List Bool) : List V := l.map V.bl
theorem take_snoc {α : Type} {l : List α} {i : Nat} {x : α} (h : l[i]? = some x) : l.take (i + 1) = l.take i ++ [x] := by
  rw [List.take_add_one, h]; rfl
end Ken
set_option Elab.async false
set_option linter.all false
set_option maxRecDepth 100000
set_option maxHeartbeats 2000000
namespace Ken
open PySem L2
theorem Tm.self_pre (t : Tm) : t ∈ t.pre := by rw [t.pre_eq]; exact List.mem_cons_self
theorem pre_kids : ∀ {t s c : Tm}, s ∈ t.pre → c ∈ s.kids → c ∈ t.pre
  | .low, s, c, hs, hc => by
    have : s = .low := by simpa [Tm.pre] using hs
    subst this
    cases hc
  | .ltr w, s, c, hs, hc => by
    have : s = .ltr w := by simpa [Tm.pre] using hs
    subst this
    cases hc
  | .nd k a b, s, c, hs, hc => by
    rw [Tm.pre_eq] at hs ⊢
    show c ∈ _ :: ([a, b].flatMap Tm.pre)
    have hs' : s ∈ Tm.nd k a b :: [a, b].flatMap Tm.pre := hs
    simp only [List.mem_cons, List.flatMap_cons, List.flatMap_nil, List.append_nil, List.mem_append] at hs' ⊢
    rcases hs' with rfl | h | h
    · have hc' : c = a ∨ c = b := by simpa [Tm.kids] using hc
      rcases hc' with rfl | rfl
      · exact .inr (.inl c.self_pre)
      · exact .inr (.inr c.self_pre)
    · exact .inr (.inl (pre_kids h hc))
    · exact .inr (.inr (pre_kids h hc))
structure AllIn (t : Tm) (ts : List Tm) : Prop where
  head : ts[0]? = some t
  kids : ∀ s ∈ ts, ∀ c ∈ s.kids, c ∈ ts
  pre : ∀ s ∈ ts, s ∈ t.pre
  len : ts.length = t.parts
def sp_withinL (K : PySem.W.Frag) : Sp := fun vs H Q _ => ∃ (v : V) (t : Tm), vs = [v] ∧ IsT K H v t ∧ t.parts ≤ 400 ∧
  ∀ (r : Addr) (H' : Hp) (us : List V) (ts : List Tm), Same H H' → H r = none → H' r = some (.lst us) → Paired (IsT K H') us ts → AllIn t ts → Q (.ref r) H'
end Ken
namespace Ken
open PySem L2
theorem TabOk.write {H : Hp} {P : Addr} {ds : List (Pos × Str)} {l : Addr} {xs : List V} {o : HO} (h : TabOk H P ds) (hl : H l = some (.lst xs)) : TabOk (upd H l o) P ds := by
  obtain ⟨ps, h1, h2, h3⟩ := h
  refine ⟨ps, by rw [upd_ne (ne_of h1 hl (fun z => nomatch z))]; exact h1, h2, fun d hd cv e => ?_⟩
  obtain ⟨c, ob, vs, t, g1, g2, g3, g4⟩ := h3 d hd cv e
  exact ⟨c, ob, vs, t, g1, by rw [upd_ne (ne_of g2 hl (fun z => nomatch z))]; exact g2, g3, g4⟩
def Told (ws : List Wd) (B H : Hp) (lt : Addr) (r : V) (s : Tm) : Prop := ∃ a, r = .ref a ∧ a ≠ lt ∧ B a = none ∧ H a = some (.lst (bls (tr ws s)))
theorem Told.write {ws : List Wd} {B H : Hp} {lt : Addr} {r : V} {s : Tm} {o : HO} (h : Told ws B H lt r s) : Told ws B (upd H lt o) lt r s := by
  obtain ⟨a, h1, h2, h3, h4⟩ := h
  exact ⟨a, h1, h2, h3, by rw [upd_ne h2]; exact h4⟩
end Ken
set_option Elab.async false
set_option linter.all false
set_option maxRecDepth 100000
set_option maxHeartbeats 4000000
namespace L2
open PySem PySem.Spec PyProof.Rows Ken
def metS (xs : List Str) : Nat → List Str
  | 0 => []
  | i + 1 => match xs[i]? with
    | some x => if x ∈ metS xs i then metS xs i else metS xs i ++ [x]
    | none => metS xs i
theorem metS_succ {xs : List Str} {i : Nat} {x : Str} (h : xs[i]? = some x) : metS xs (i + 1) = if x ∈ metS xs i then metS xs i else metS xs i ++ [x] := by
  show (match xs[i]? with | some x => if x ∈ metS xs i then metS xs i else metS xs i ++ [x] | none => metS xs i) = _
  rw [h]
theorem metS_len {xs : List Str} : ∀ i, (metS xs i).length ≤ i
  | 0 => Nat.le_refl _
  | i + 1 => by
    have := metS_len (xs := xs) i
    cases h : xs[i]? with
    | none =>
      show (match xs[i]? with | some x => if x ∈ metS xs i then metS xs i else metS xs i ++ [x] | none => metS xs i).length ≤ _
      rw [h]
      show (metS xs i).length ≤ i + 1
      omega
    | some x =>
      rw [metS_succ h]
      split
      · omega
      · rw [List.length_append, List.length_singleton]; omega
theorem metS_mem {xs : List Str} (x : Str) : ∀ i, i ≤ xs.length → (x ∈ metS xs i ↔ x ∈ xs.take i)
  | 0, _ => by simp [metS]
  | i + 1, hi => by
    have ih := metS_mem (xs := xs) x i (by omega)
    have hx : xs[i]? = some (xs[i]'(by omega)) := List.getElem?_eq_getElem _
    rw [metS_succ hx, List.take_add_one, hx]
    show _ ↔ x ∈ xs.take i ++ [xs[i]'(by omega)]
    rw [List.mem_append, List.mem_singleton, ← ih]
    split
    · rename_i hm
      exact ⟨.inl, fun z => z.elim id fun e => e ▸ hm⟩
    · rw [List.mem_append, List.mem_singleton]
theorem metS_nodup {xs : List Str} : ∀ i, (metS xs i).Nodup
  | 0 => List.nodup_nil
  | i + 1 => by
    have ih := metS_nodup (xs := xs) i
    cases h : xs[i]? with
    | none =>
      show (match xs[i]? with | some x => if x ∈ metS xs i then metS xs i else metS xs i ++ [x] | none => metS xs i).Nodup
      rw [h]; exact ih
    | some x =>
      rw [metS_succ h]
      split
      · exact ih
      · rename_i hm
        rw [List.nodup_append]
        exact ⟨ih, List.pairwise_singleton _ _, fun a ha b hb e => hm (by rw [List.mem_singleton] at hb; rw [← hb, ← e]; exact ha)⟩
section
variable {P : Program} {w : World} {A : Around} {RR : Result → Shared → Prop} {J : Addr} {fps ws : List Addr} {GG : Array GenState → Array GenState → Prop} {n : Nat} {PP : Nat → Value → Prop} {SS : Nat → Shared → Prop}
theorem loop_texts (W : WalksS P w A.in1 J fps ws GG n PP SS) (a : Addr) (haf : a ∉ fps) (xs : List Str) (hval : ∀ i v, PP i v → ∃ x t, xs[i]? = some x ∧ v = .str x t) (hb : n + 1 < scanBound) :
    ∀ (k i : Nat) (s : Shared), n - i = k → i ≤ n → SS i s → SetAt P w s.heap a (metS xs i) → (∀ s', Moved (a :: ws) GG s s' → SetAt P w s'.heap a (metS xs n) → RR (.ok (.ret .none)) s') →
      codeAny (model P w) A (.builtin "set.update.loop" ⟨[.ref a, .ref J], []⟩) RR s := by
  have haw : a ∉ ws := fun z => haf (W.sub _ z)
  have sub : ∀ b ∈ ws, b ∈ a :: ws := fun b z => List.mem_cons_of_mem _ z
  intro k
  induction k with
  | zero =>
    intro i s e1 e2 st hs hR
    obtain rfl : i = n := by omega
    refine codeAny_builtin F.entry_set_update_loop ?_
    rw [Around.under_plainId F.plain_set_update_loop _]
    show wpAny _ A.in1 (pyNext (.ref J) >>= _) _ _ s
    refine wpAny_bind (W.done s _ _ st fun s' mv => ?_)
    exact wpAny_pure (hR s' (mv.mono sub) (hs.at fun o e => mv.heap a _ haw e))
  | succ k ih =>
    intro i s e1 e2 st hs hR
    have hlt : i < n := by omega
    refine codeAny_builtin F.entry_set_update_loop ?_
    rw [Around.under_plainId F.plain_set_update_loop _]
    show wpAny _ A.in1 (pyNext (.ref J) >>= _) _ _ s
    refine wpAny_bind (W.item i s _ _ hlt st fun v s' hp st' mv => ?_)
    obtain ⟨x, t, hx, rfl⟩ := hval i v hp
    have hs' : SetAt P w s'.heap a (metS xs i) := hs.at fun o e => mv.heap a _ haw e
    have his : (PySem.strKind P w).is x (.str x t) = true := by
      show Value.isStrOf x (.str x t) = true
      simp [Value.isStrOf]
    show wpAny _ A.in1 (holding [Value.str x t] (setAdd a (.str x t)) >>= _) _ _ s'
    refine wpAny_bind (wpAny_holding (wpAny_holding (wpAny_bind ((PySem.strKind P w).pyHash his ?_))))
    have hl := metS_len (xs := xs) i
    refine setAdd_str (s := { s' with toks := s'.toks + 1 }) hs' (by omega) fun h' sb sa b => ?_
    rw [← metS_succ hx] at sa
    refine wpAny_pure ⟨plainId_quiet F.plain_set_update_loop _, ih (i + 1) _ (by omega) hlt (W.frame _ s' _ _ st' (Nat.le_succ _) fun c hc o e => ?_) sa fun s2 mv2 hs2 => ?_⟩
    · rw [sb.2 c (fun z : c = a => haf (by rw [← z]; exact hc))]; exact e
    · refine hR s2 (Moved.trans W.gtrans ((mv.mono sub).then_heap (Nat.le_succ _) fun c o hc e => ?_) mv2) hs2
      rw [sb.2 c (fun z : c = a => hc (by rw [z]; exact List.mem_cons_self))]; exact e
end
section
variable {P : Program} {w : World} {A : Around} {E : Value → Shared → Prop} {s : Shared}
theorem new_texts (v : Value) {Q1 : Value → Shared → Prop} (hq : Q1 (.ref s.heap.objs.size) { s with heap := s.heap.push (setObj0 w) }) : codeAny (model P w) A (.call (.builtin "set.__new__") ⟨[.type "set", v], []⟩) (wants Q1 E) s := by
  refine codeAny_of_tree ?_
  show wpAny _ A.in1 (checkBuiltinCall "set.__new__" ⟨[.type "set", v], []⟩ >>= fun _ => again (.builtin "set.__new__" ⟨[.type "set", v], []⟩)) _ _ s
  refine wpAny_bind (wpAny_of_eq (F.newCall_set_1 v) (wpAny_pure ⟨plainId_quiet F.plain_set_new _, codeAny_builtin F.entry_set_new ?_⟩))
  rw [Around.under_plainId F.plain_set_new _]
  unfold Builtin.«set.__new__» Builtin.Frozenset.newClass
  have sb := sub_set_self
  obtain ⟨hp, g, d, tk, os⟩ := s
  dsimp only
  wp_walk
  refine wpAny_askSetting (wpAny_pure ?_)
  dsimp only [newObj]
  exact wpAny_bind (wpAny_alloc (wpAny_pure (wpAny_pure hq)))
theorem call_texts {l : Addr} {its : Array Value} {xs : List Str} {Q : Value → Shared → Prop} (hh : A.handled = none) (hl : s.heap.IsList l its) (hi : ∀ (i : Nat) (v : Value), its[i]? = some v → ∃ x t, xs[i]? = some x ∧ v = .str x t) (hb : its.size + 1 < scanBound)
    (hq : ∀ (h' : Heap) (tk : Nat), SetAt P w h' s.heap.objs.size (metS xs its.size) → (∀ b o, b < s.heap.objs.size → s.heap.get? b = some o → h'.get? b = some o) → Q (.ref s.heap.objs.size) { s with heap := h', toks := tk }) :
    wpAny (model P w) A (call (.type "set") [.ref l]) Q E s := by
  obtain ⟨c, tl, hmro⟩ := F.called_set.mro
  have u1 := F.called_set.made
  have u2 := F.called_set.sub
  refine wpAny_call (codeAny_of_tree ?_)
  show wpAny _ _ (callAny (.type "set") _) _ _ _
  refine wpAny_pure ⟨Code.quiet_builtin _ (by decide +kernel), codeAny_builtin F.entry_type_call ?_⟩
  rw [Around.under_plain (weight_type_call_type "set" [.ref l] []) rfl]
  have u3 := F.called_set.notType
  have u4 := F.called_set.canCreate
  have u5 := F.typeCall_set_1 (.ref l)
  repeat any_goals first | wp_step | assumption
  refine codeAny_mono (new_texts (.ref l) (E := E) (Q1 := fun ob s1 => ob = .ref s.heap.objs.size ∧ s1 = { s with heap := s.heap.push (setObj0 w) }) ⟨rfl, rfl⟩) fun r s1 hr => ?_
  cases r with
  | error e => exact hr
  | ok fl =>
    cases fl with
    | ret ob =>
      obtain ⟨rfl, rfl⟩ := hr
      have g0 : (s.heap.push (setObj0 w)).get? s.heap.objs.size = some (setObj0 w) := Heap.get?_push_size _ rfl
      have hT : Shared.TypeIs { s with heap := s.heap.push (setObj0 w) } (.ref s.heap.objs.size) "set" := ⟨_, g0, rfl⟩
      have u6 := F.called_set.init.lookup
      have u7 := F.called_set.init.bind (.ref s.heap.objs.size)
      repeat any_goals first | wp_step | assumption
      refine codeAny_mono (codeAny_call_builtin (R := wants (fun r s2 => r = .none ∧ ∃ h' tk, s2 = { s with heap := h', toks := tk } ∧ SetAt P w h' s.heap.objs.size (metS xs its.size) ∧ (∀ b o, b < s.heap.objs.size → s.heap.get? b = some o → h'.get? b = some o)) E) F.called_set.init.plain F.entry_set_init (check_set_init_1 hT ?_)) fun r2 s2 hr2 => ?_
      · obtain ⟨ol, hol, hcl, nl, hdl⟩ := hl
        obtain ⟨k1, k2, k3, k4⟩ := ol
        simp only at hcl hdl
        subst hcl hdl
        have hol1 : (s.heap.push (setObj0 w)).get? l = some ⟨.type "list", k2, .seq its nl, k4⟩ := Heap.get?_push_of_some _ hol
        have v1 := F.sub_list_set
        have v2 := F.sub_list_frozenset
        have v3 : (Value.type "list" == Value.type "dict") = false := by decide
        have hl1 : (s.heap.push (setObj0 w)).IsList l its := ⟨_, hol1, rfl, nl, rfl⟩
        unfold Builtin.«set.__init__» noKeywords Builtin.Frozenset.updateFrom
        generalize hPI : pyIter = PI
        wp_walk
        subst hPI
        refine wpAny_pyIter_list hl1 (wpAny_bind (wpAny_runValue ?_))
        have hls : l < s.heap.objs.size := Heap.lt_size hol
        have h3 : A.in1.in1.in1.handled = none := by simp [hh]
        have sz : (s.heap.push (setObj0 w)).objs.size = s.heap.objs.size + 1 := Heap.size_push ..
        refine loop_texts ((Walks.list h3 _ l (by rw [sz]; exact Nat.ne_of_lt (Nat.lt_succ_of_lt hls)) its).toS) s.heap.objs.size (by
          rw [sz]
          intro z
          rcases List.mem_cons.mp z with z | z
          · exact absurd z (Nat.ne_of_lt (Nat.lt_succ_self _))
          · exact absurd (List.mem_singleton.mp z) (Nat.ne_of_gt hls)) xs hi hb (its.size - 0) 0 _ (by omega) (Nat.zero_le _) ⟨⟨_, Heap.get?_push_size _ rfl, rfl, rfl⟩, hl1.push _⟩ ?_ ?_
        · exact setAt_new (Heap.get?_push_of_some _ g0)
        · intro s' mv st
          obtain ⟨h', g', d', tk', os'⟩ := s'
          have e1 : g' = s.gens := mv.gens
          have e2 : d' = s.drawn := mv.drawn
          have e3 : os' = s.os := mv.os
          subst e1 e2 e3
          refine wpAny_pure (wpAny_pure ⟨rfl, h', tk', rfl, st, fun b o hb e => ?_⟩)
          refine mv.heap b o ?_ (Heap.get?_push_of_some _ (Heap.get?_push_of_some _ e))
          rw [sz]
          intro z
          rcases List.mem_cons.mp z with z | z
          · exact absurd z (Nat.ne_of_lt hb)
          · exact absurd (List.mem_singleton.mp z) (Nat.ne_of_lt (Nat.lt_succ_of_lt hb))
      · cases r2 with
        | error e => exact hr2
        | ok fl2 =>
          cases fl2 with
          | ret r =>
            obtain ⟨rfl, h', tk, rfl, st, kk⟩ := hr2
            repeat any_goals first | wp_step | assumption
            exact hq _ _ st kk
          | _ => exact hr2.elim
    | _ => exact hr.elim
end
section
variable {X : Cx}
def rSetOf (K : PySem.W.Frag) (P : Program) (w : World) : List V → Hp → VK → Prop := fun vs H Q => ∃ (l : Addr) (xs : List Str), vs = [.ref l] ∧ SqL K H l (xs.map V.str) ∧ xs.length < 4000 ∧ ∀ a, H a = none → Q (.ref a) (upd H a (setO P w a (metS xs xs.length)))
theorem call_setL {P : Program} {w : World} (hP : X.prog = P) (hw : X.w = w) (hc : X.calm = true) : CallR X (.type "set") (rSetOf X.K P w) := by
  subst hP hw
  intro pins s σ H vs us Q I r h
  obtain ⟨l, xs, rfl, hq, hn, q⟩ := h
  obtain ⟨u, rfl, ru⟩ := vals1 r
  cases ru
  obtain ⟨its, rv, pl, hz⟩ := I.list hq
  have hlen := rv.length
  rw [List.length_map] at hlen
  refine call_texts (xs := xs) (I.ok.hd hc) pl.isList (fun i v hv => ?_) (by rw [List.size_toArray, ← hlen]; exact Nat.lt_of_le_of_lt hn (by decide)) fun h' tk st kk => ?_
  · have hv' : its[i]? = some v := by simpa using hv
    have hi : i < xs.length := by rw [hlen]; exact (List.getElem?_eq_some_iff.mp hv').1
    obtain ⟨u, hu, ru⟩ := rv.get (i := i) (x := V.str xs[i]) (by rw [List.getElem?_map, List.getElem?_eq_getElem hi]; rfl)
    rw [hv'] at hu
    cases hu
    obtain ⟨t, rfl⟩ := ru
    exact ⟨_, t, List.getElem?_eq_getElem hi, rfl⟩
  · rw [show its.toArray.size = xs.length by rw [List.size_toArray, hlen]] at st
    have hn0 : H s.heap.objs.size = none := I.hok.fresh (Nat.le_refl _)
    exact ⟨.ref s.heap.objs.size, _, I.laid (t' := tk) (fun b o e => kk b o (Heap.lt_size e) e) (Nat.le_refl _) (setO_ok st), rfl, q _ hn0⟩
end
end L2
set_option Elab.async false
set_option linter.all false
set_option maxRecDepth 100000
set_option maxHeartbeats 2000000
namespace L2
open PySem PySem.Spec PyProof.Rows
section
variable {X : Cx}
def rInsert : V → List V → Hp → VK → Prop := fun x vs H Q => ∃ (l : Addr) (xs : List V) (k : Nat) (y : V), x = .ref l ∧ vs = [.int (k : Nat), y] ∧ H l = some (.lst xs) ∧ k ≤ xs.length ∧ xs.length < 1000000 ∧ Q .non (upd H l (.lst (xs.take k ++ y :: xs.drop k)))
end
end L2
namespace Ken
open PySem L2
def pl (ts : List Str) : Tm → Bool
  | .low => false
  | .ltr x => decide (x ∈ ts)
  | .nd .both a b => pl ts a && pl ts b
  | .nd .one a b => pl ts a || pl ts b
  | .nd .thn a b => !pl ts a || pl ts b
end Ken
namespace Ken
open PySem L2
theorem strs_lay {xs : List Str} (h : ∀ y ∈ xs, Word y) : (PyData.list (xs.map PyData.str)).canLay0 = true := canLay_list fun d hd => by
  obtain ⟨y, hy, rfl⟩ := List.mem_map.mp hd
  exact Word.strOk (h y hy)
theorem strs_depth (xs : List Str) : (PyData.list (xs.map PyData.str)).depth ≤ 1 := depth_list (n := 0) fun d hd => by
  obtain ⟨y, hy, rfl⟩ := List.mem_map.mp hd
  exact Nat.le_refl _
theorem strs_self (xs : List Str) : PyData.eqv (.list (xs.map PyData.str)) (.list (xs.map PyData.str)) = true := eqvAll_self fun d hd => by
  obtain ⟨y, _, rfl⟩ := List.mem_map.mp hd
  exact str_self y
end Ken
namespace Ken
open PySem L2
end Ken
set_option Elab.async false
set_option linter.all false
set_option maxRecDepth 100000
set_option maxHeartbeats 2000000
namespace L2
open PySem PySem.Spec PyProof.Rows
def ItdK (a : Addr) (o : Obj) (kvs : List (Key × V)) : It :=
  ⟨fun i H => i < kvs.length ∧ H a = some (.frz o (.dK kvs)), fun i H x H' => H' = H ∧ ∃ kv, kvs[i]? = some kv ∧ x = kV kv.1, fun i H => kvs.length ≤ i ∧ H a = some (.frz o (.dK kvs))⟩
section
variable {X : Cx} {tg : Expr}
theorem pairs_rel {P : Program} {w : World} : ∀ {es : List DictEntry} {vs : List (Key × Value)} {kvs : List (Key × V)}, Pairs (mixKind P w) es vs → KV kvs vs → es.length = kvs.length ∧ ∀ (i : Nat) (u : DictEntry) (kv : Key × V), es[i]? = some u → kvs[i]? = some kv → RelV (kV kv.1) u.key
  | _, _, _, .nil, .nil => ⟨rfl, fun i u kv h => by simp at h⟩
  | _, _, _, .cons h1 _ t, .cons (a := p) h2 r => by
    obtain ⟨a, b⟩ := pairs_rel t r
    refine ⟨by rw [List.length_cons, List.length_cons, a], fun i u kv e1 e2 => ?_⟩
    cases i with
    | zero =>
      cases e1; cases e2
      rw [h2.1]
      rcases keyIs_shape h1 with ⟨j, t, e1, e2⟩ | ⟨x, t, e1, e2⟩
      · rw [e1, e2]; exact ⟨t, rfl⟩
      · rw [e1, e2]; exact ⟨t, rfl⟩
    | succ i => exact b i u kv e1 e2
theorem ents_of {P : Program} {w : World} {H : Hp} {h : Heap} {a : Addr} {o : Obj} {kvs : List (Key × V)} {es : Array DictEntry} {ep : Nat} (ok : HOk P w H h) (e : H a = some (.frz o (.dK kvs))) (hd : o.data = .dict es ep) :
    h.get? a = some o ∧ es.size = kvs.length ∧ ∀ (i : Nat) (u : DictEntry) (kv : Key × V), es[i]? = some u → kvs[i]? = some kv → RelV (kV kv.1) u.key := by
  obtain ⟨h1, hz, hS, vs, rel, o', es', ep', g1, g2, g3, g4, g5, g6⟩ := (show ObjOk P w H h a (.frz o (.dK kvs)) from ok a _ e)
  rw [h1] at g1; cases g1
  rw [hd] at g3; cases g3
  obtain ⟨a1, a2⟩ := pairs_rel g5 rel
  exact ⟨h1, by rw [← Array.length_toList, a1], fun i u kv e1 e2 => a2 i u kv (by rw [Array.getElem?_toList]; exact e1) e2⟩
theorem turn_dict {P : Program} {w : World} {K : PySem.W.Frag} {a : Addr} {o : Obj} {kvs : List (Key × V)} {es : Array DictEntry} {ep : Nat} (hd : o.data = .dict es ep) (it : Addr) : Turn P w K tg (ItdK a o kvs) [it] it (fun i h => h.IsKeyIter it a i es.size ep) where
  mem := by simp
  obj := fun i h st b hb => by
    have e : b = it := by simpa using hb
    subst e
    obtain ⟨o, h1, h2, h3⟩ := st
    exact ⟨o, h1, fun v z => by rw [h3] at z; cases z⟩
  keep := fun i h h' st k => by
    obtain ⟨o, h1, h2, h3⟩ := st
    exact ⟨o, k it (by simp) _ h1, h2, h3⟩
  item := by
    intro X hP hw hK hc i pins s σ H E I hf st hg
    subst hP hw hK
    obtain ⟨hi, ha⟩ := hg
    obtain ⟨f0, f1, f2, f3, f4, f5⟩ := hf it (by simp)
    obtain ⟨h1, h2, h3⟩ := ents_of I.hok ha hd
    have he : es[i]? = some es[i] := by simp [h2, hi]
    have hk : kvs[i]? = some kvs[i] := by simp [hi]
    refine next_key st h1 hd he fun h' st' sb => ?_
    have I1 : Inv X pins σ H { s with heap := h' } := I.turned (t' := s.toks) (fun b o hb e => (sb.2 b hb).trans e) f0 f1 f3 f4 f5
    obtain ⟨o2, e, c, d⟩ := id st'
    exact ⟨_, rfl, go_of (s := { s with heap := h' }) e c d (by decide) ⟨_, H, I1, h3 i _ _ he hk, ⟨rfl, _, hk, rfl⟩, st', fun b hb => (hf b hb).1⟩⟩
  done := by
    intro X hP hw hK hc i pins s σ H E I hf st hg
    subst hP hw hK
    obtain ⟨hi, ha⟩ := hg
    obtain ⟨f0, f1, f2, f3, f4, f5⟩ := hf it (by simp)
    obtain ⟨h1, h2, h3⟩ := ents_of I.hok ha hd
    exact next_key_end (I.ok.hd hc) st h1 hd (by simp [h2, hi]) fun h' eb => ⟨rfl, I.turned (t' := s.toks) (fun b o hb e => eb b o hb e) f0 f1 f3 f4 f5⟩
  self := fun _ _ _ _ _ st h => wpAny_pyIter_keyiter st h
def iDict (tl : TE) : TI := fun σ H R => tl σ H fun x H1 => ∃ (a : Addr) (kvs : List (Key × V)), x = .ref a ∧ H1 a = some (.dK kvs) ∧ ∀ o : Obj, R (ItdK a o kvs) (upd H1 a (.frz o (.dK kvs)))
theorem pi_dict {l : Expr} {tl : TE} (hl : PE X l tl) : PI X tg l (iDict tl) := by
  intro pins s σ H R I h
  refine thn (hl pins s σ H _ I h) fun v s1 ⟨x, H1, I1, r1, q1⟩ => ?_
  obtain ⟨a, kvs, e, ha, q⟩ := q1
  subst e
  cases r1
  obtain ⟨hz, hS, vs, rel, o, es, ep, g1, g2, g3, g4⟩ := dk_of I1.hok ha
  have I2 : Inv X pins σ (upd H1 a (.frz o (.dK kvs))) { s1 with heap := s1.heap, toks := s1.toks } :=
    I1.write (x := a) (e := a) (by rw [ha]; exact trivial) (.inl rfl) (fun b u _ hu => hu) ⟨_, g1⟩ ⟨g1, hz, hS, vs, rel, o, es, ep, g1, g2, g3, g4⟩
  refine iter_dict hS g1 g2 g3 ?_
  refine ⟨s1.heap.objs.size, [s1.heap.objs.size], _, _, _, rfl, I2.kept (t' := s1.toks) fun b o e => Heap.get?_push_of_some _ e, turn_dict g3 _, ⟨_, Heap.get?_push_size _ rfl, rfl, rfl⟩, fun b hb => ?_, q o⟩
  have e : b = s1.heap.objs.size := by simpa using hb
  subst e
  exact I2.fpOk (Nat.le_refl _) (I2.hok.fresh (Nat.le_refl _))
theorem comp_dict {a : Addr} {o : Obj} {kvs : List (Key × V)} {σ0 : St} {g : TG} {tk : TK} {Q : Hp → Prop} {H : Hp} (Pv : Nat → Hp → Prop) (h0 : Pv 0 H) (hl : ∀ i H, i ≤ kvs.length → Pv i H → H a = some (.frz o (.dK kvs)))
    (hs : ∀ i kv H (N : Hp → Prop), kvs[i]? = some kv → Pv i H → (∀ H', Pv (i + 1) H' → N H') → g (kV kv.1) σ0 H fun σ4 H4 => Wk σ0 σ4 ∧ tk σ4 H4 N) (hd : ∀ H, Pv kvs.length H → Q H) :
    ∃ W : Nat → Nat → Hp → Prop, (∃ m, W 0 m H) ∧ compW σ0 (ItdK a o kvs) g tk Q W := by
  refine ⟨fun i m H => m = kvs.length - i ∧ i ≤ kvs.length ∧ Pv i H, ⟨kvs.length, by simp, Nat.zero_le _, h0⟩, ?_⟩
  rintro i m H ⟨rfl, hi, p⟩
  have q := hl i H hi p
  by_cases hlt : i < kvs.length
  · refine .inr ⟨⟨hlt, q⟩, fun x H' y => ?_⟩
    obtain ⟨e, kv, y1, y2⟩ := y
    subst e y2
    exact hs i kv H' _ y1 p fun H5 p5 => ⟨kvs.length - (i + 1), by omega, rfl, hlt, p5⟩
  · have e : i = kvs.length := by omega
    subst e
    exact .inl ⟨⟨Nat.le_refl _, q⟩, hd _ p⟩
end
end L2
set_option Elab.async false
set_option linter.all false
set_option maxRecDepth 100000
set_option maxHeartbeats 2000000
namespace L2
open PySem PySem.Spec PyProof.Rows
section
variable {X : Cx}
def rBitLen : V → List V → Hp → VK → Prop := fun x vs H Q => ∃ i : Int, x = .int i ∧ vs = [] ∧ Q (.int ((Builtin.Int.intBits i : Nat) : Int)) H
theorem mt_bit_length : MtR X "int.bit_length" rBitLen := by
  intro pins s σ H x vs v us Q I rx rv h
  obtain ⟨i, rfl, rfl, q⟩ := h
  obtain ⟨t, rfl⟩ := rx
  have hus := rv.zero
  subst hus
  exact call_int_bit_length ⟨.int _, H, I.tok _, ⟨_, rfl⟩, q⟩
end
end L2
namespace Ken
open PySem L2
theorem and_nat (a b : Nat) : Builtin.bitAnd (a : Int) (b : Int) = ((a &&& b : Nat) : Int) := by
  unfold Builtin.bitAnd
  rw [decide_eq_true (show (0 : Int) ≤ (a : Int) by omega), decide_eq_true (show (0 : Int) ≤ (b : Int) by omega)]
  show (((a : Int).toNat &&& (b : Int).toNat : Nat) : Int) = _
  rw [Int.toNat_natCast, Int.toNat_natCast]
theorem or_nat (a b : Nat) : Builtin.bitOr (a : Int) (b : Int) = ((a ||| b : Nat) : Int) := by
  unfold Builtin.bitOr
  rw [PyProof.Rows.bitAnd_nn (by unfold Builtin.bitNot; omega) (by unfold Builtin.bitNot; omega)]
  have h : ∀ x : Int, Builtin.bitNot (Builtin.bitNot x) = x := fun x => by unfold Builtin.bitNot; omega
  rw [h, h, h, Int.toNat_natCast, Int.toNat_natCast]
theorem xor_ones {m a : Nat} (h : a < 2 ^ m) : Builtin.bitXor ((2 ^ m - 1 : Nat) : Int) (a : Int) = ((2 ^ m - (a + 1) : Nat) : Int) := by
  rw [PyProof.Rows.bitXor_and, and_nat]
  have e : (2 ^ m - 1) &&& a = a := by rw [Nat.and_comm, Nat.and_two_pow_sub_one_of_lt_two_pow h]
  rw [e]
  omega
def colN (m : Nat) (cw : Str → Nat) : Tm → Nat
  | .low => 0
  | .ltr x => cw x
  | .nd .both a b => colN m cw a &&& colN m cw b
  | .nd .one a b => colN m cw a ||| colN m cw b
  | .nd .thn a b => (2 ^ m - (colN m cw a + 1)) ||| colN m cw b
structure IsCol (m : Nat) (c : Nat) (p : Nat → Bool) : Prop where
  lt : c < 2 ^ m
  bit : ∀ r, r < m → c.testBit r = p r
theorem IsCol.compl {m c : Nat} {p : Nat → Bool} (h : IsCol m c p) : IsCol m (2 ^ m - (c + 1)) (fun r => !p r) where
  lt := by have := h.lt; omega
  bit := fun r hr => by rw [Nat.testBit_two_pow_sub_succ h.lt, h.bit r hr, decide_eq_true hr]; rfl
theorem IsCol.both {m a b : Nat} {p q : Nat → Bool} (h : IsCol m a p) (h' : IsCol m b q) : IsCol m (a &&& b) (fun r => p r && q r) where
  lt := Nat.and_lt_two_pow _ h'.lt
  bit := fun r hr => by rw [Nat.testBit_and, h.bit r hr, h'.bit r hr]
theorem IsCol.or {m a b : Nat} {p q : Nat → Bool} (h : IsCol m a p) (h' : IsCol m b q) : IsCol m (a ||| b) (fun r => p r || q r) where
  lt := Nat.or_lt_two_pow h.lt h'.lt
  bit := fun r hr => by rw [Nat.testBit_or, h.bit r hr, h'.bit r hr]
theorem IsCol.zero {m : Nat} : IsCol m 0 (fun _ => false) := ⟨Nat.two_pow_pos m, fun r _ => Nat.zero_testBit r⟩
theorem IsCol.congr {m c : Nat} {p q : Nat → Bool} (h : IsCol m c p) (e : ∀ r, r < m → p r = q r) : IsCol m c q := ⟨h.lt, fun r hr => (h.bit r hr).trans (e r hr)⟩
def rowW (us : List Str) (r : Nat) : List Str := (List.range us.length).filterMap fun j => if r.testBit j then us[j]? else none
theorem mem_row {us : List Str} {r : Nat} {x : Str} : x ∈ rowW us r ↔ ∃ j, us[j]? = some x ∧ r.testBit j = true := by
  unfold rowW
  rw [List.mem_filterMap]
  constructor
  · rintro ⟨j, hj, e⟩
    by_cases h : r.testBit j = true
    · rw [if_pos h] at e; exact ⟨j, e, h⟩
    · rw [if_neg h] at e; cases e
  · rintro ⟨j, e, h⟩
    exact ⟨j, List.mem_range.mpr (List.getElem?_eq_some_iff.mp e).1, by rw [if_pos h]; exact e⟩
theorem col_of {us : List Str} {m : Nat} {cw : Str → Nat} (hc : ∀ x ∈ us, IsCol m (cw x) (fun r => decide (x ∈ rowW us r))) : ∀ t : Tm, (∀ x ∈ t.ltrs, x ∈ us) → IsCol m (colN m cw t) (fun r => pl (rowW us r) t)
  | .low, _ => IsCol.zero
  | .ltr x, h => hc x (h x (by simp [Tm.ltrs]))
  | .nd .both a b, h => (col_of hc a fun x hx => h x (by simp [Tm.ltrs, hx])).both (col_of hc b fun x hx => h x (by simp [Tm.ltrs, hx]))
  | .nd .one a b, h => (col_of hc a fun x hx => h x (by simp [Tm.ltrs, hx])).or (col_of hc b fun x hx => h x (by simp [Tm.ltrs, hx]))
  | .nd .thn a b, h => (col_of hc a fun x hx => h x (by simp [Tm.ltrs, hx])).compl.or (col_of hc b fun x hx => h x (by simp [Tm.ltrs, hx]))
structure Cols (i : Nat) (cs : List Nat) : Prop where
  len : cs.length = i
  col : ∀ (j c : Nat), cs[j]? = some c → IsCol (2 ^ i) c (fun r => r.testBit j)
theorem dbl {m c : Nat} (h : c < 2 ^ m) : c ||| c * 2 ^ m = 2 ^ m * c + c := by
  rw [Nat.or_comm, Nat.mul_comm c, Nat.two_pow_add_eq_or_of_lt h]
theorem two_succ (i : Nat) : 2 ^ (i + 1) = 2 ^ i + 2 ^ i := by rw [Nat.pow_succ]; omega
theorem lt_dbl {m c d : Nat} (h : c < 2 ^ m) (h' : d < 2 ^ m) : 2 ^ m * c + d < 2 ^ (m + m) := by
  rw [Nat.pow_add]
  have h1 : 2 ^ m * c + d < 2 ^ m * (c + 1) := by rw [Nat.mul_add, Nat.mul_one]; omega
  exact Nat.lt_of_lt_of_le h1 (Nat.mul_le_mul_left _ h)
theorem bit_less {i j r : Nat} (h : j < i) (hr : 2 ^ i ≤ r) : (r - 2 ^ i).testBit j = r.testBit j := by
  have e : r = 2 ^ i + (r - 2 ^ i) := by omega
  conv => rhs; rw [e, Nat.testBit_two_pow_add_gt h]
theorem bit_top {i r : Nat} (hr : r < 2 ^ (i + 1)) : r.testBit i = decide (2 ^ i ≤ r) := by
  rw [two_succ] at hr
  by_cases h : 2 ^ i ≤ r
  · have e : r = 2 ^ i + (r - 2 ^ i) := by omega
    rw [e, Nat.testBit_two_pow_add_eq, Nat.testBit_lt_two_pow (by omega), decide_eq_true (by omega)]; rfl
  · rw [Nat.testBit_lt_two_pow (by omega), decide_eq_false h]
theorem Cols.next {i : Nat} {cs : List Nat} (h : Cols i cs) : Cols (i + 1) (cs.map (fun c => c ||| c * 2 ^ (2 ^ i)) ++ [(2 ^ (2 ^ i) - 1) * 2 ^ (2 ^ i)]) where
  len := by rw [List.length_append, List.length_map, h.len]; rfl
  col := fun j c e => by
    have hl := h.len
    rw [two_succ]
    by_cases hj : j < i
    · rw [List.getElem?_append_left (by rw [List.length_map]; omega), List.getElem?_map, List.getElem?_eq_getElem (by omega)] at e
      cases e
      have ic := h.col j _ (List.getElem?_eq_getElem (show j < cs.length by omega))
      show IsCol _ (cs[j] ||| cs[j] * 2 ^ 2 ^ i) _
      rw [dbl ic.lt]
      refine ⟨lt_dbl ic.lt ic.lt, fun r hr => ?_⟩
      rw [Nat.testBit_two_pow_mul_add _ ic.lt]
      by_cases hr' : r < 2 ^ i
      · rw [if_pos hr', ic.bit r hr']
      · rw [if_neg hr', ic.bit _ (by omega), bit_less hj (by omega)]
    · have hj' : j = i := by
        have := (List.getElem?_eq_some_iff.mp e).1
        rw [List.length_append, List.length_map, List.length_singleton] at this
        omega
      subst hj'
      rw [List.getElem?_append_right (by rw [List.length_map]; omega), List.length_map, hl, Nat.sub_self] at e
      cases e
      have p : 0 < 2 ^ 2 ^ j := Nat.two_pow_pos _
      have hz : 2 ^ 2 ^ j - 1 < 2 ^ 2 ^ j := by omega
      have := lt_dbl hz p
      rw [Nat.add_zero, Nat.mul_comm] at this
      refine ⟨this, fun r hr => ?_⟩
      have e2 : (2 ^ 2 ^ j - 1) * 2 ^ 2 ^ j = 2 ^ 2 ^ j * (2 ^ 2 ^ j - 1) + 0 := by rw [Nat.add_zero, Nat.mul_comm]
      have eb : r.testBit j = decide (2 ^ j ≤ r) := bit_top (by rw [two_succ]; exact hr)
      rw [e2, Nat.testBit_two_pow_mul_add _ p, eb]
      by_cases hr' : r < 2 ^ j
      · rw [if_pos hr', Nat.zero_testBit, decide_eq_false (by omega)]
      · rw [if_neg hr', decide_eq_true (by omega), Nat.testBit_two_pow_sub_one, decide_eq_true (by omega)]
theorem ones_next (m : Nat) : (2 ^ m - 1) ||| (2 ^ m - 1) * 2 ^ m = 2 ^ (m + m) - 1 := by
  have p : 0 < 2 ^ m := Nat.two_pow_pos _
  rw [dbl (by omega), Nat.pow_add]
  generalize 2 ^ m = a at *
  obtain ⟨b, rfl⟩ : ∃ b, a = b + 1 := ⟨a - 1, by omega⟩
  have : (b + 1) * (b + 1) = (b + 1) * b + b + 1 := by rw [Nat.mul_add]; omega
  rw [this]
  show (b + 1) * b + b = _
  omega
end Ken
namespace L2
open PySem PySem.Spec PyProof.Rows
theorem pt_truthK {X : Cx} {K : PySem.W.Frag} {a : Expr} {ta : TE} (e : X.K = K) (ha : PE X a ta) (he : ∀ whole, isTrue a X.env whole = (do let v ← whole; standAt a.pos; holding [v] (truthy v))) :
    PT X a (fun σ H Q => ta σ H fun x H' => ∃ k, TruV K x H' k ∧ Q k H') := by subst e; exact pt_truth ha he
end L2
set_option Elab.async false
set_option linter.all false
set_option maxRecDepth 100000
set_option maxHeartbeats 2000000
namespace Ken
open PySem L2 PyProof.Rows
def sp_allL (K : PySem.W.Frag) : Sp := fun vs H Q _ => ∃ (a : Addr) (us : List V) (ts : List Tm) (ws : List Str), vs = [.ref a] ∧ H a = some (.lst us) ∧ Paired (IsT K H) us ts ∧ (∀ t ∈ ts, t.inW ws ∧ t.parts ≤ 300) ∧ ws.length ≤ 40 ∧
  ∀ (r : Addr) (H' : Hp) (ys : List Str), Same H H' → H r = none → H' r = some (.lst (ys.map V.str)) → ys.Nodup → sortedS ys = true → (∀ x, x ∈ ys ↔ ∃ t ∈ ts, x ∈ t.ltrs) → Q (.ref r) H'
def colD (us : List Str) (cs : List Nat) : List (Key × V) := (us.zip cs).map fun p => (Sum.inr p.1, V.int (p.2 : Nat))
def sp_columns (K : PySem.W.Frag) : Sp := fun vs H Q _ => ∃ (a : Addr) (us : List Str), vs = [.ref a] ∧ SqL K H a (us.map V.str) ∧ us.Nodup ∧ us.length ≤ 6 ∧
  ∀ (r d : Addr) (H' : Hp) (cs : List Nat), Same H H' → H r = none → H d = none → H' r = some (.tup [.ref d, .int ((2 ^ 2 ^ us.length - 1 : Nat) : Int)]) → H' d = some (.dK (colD us cs)) → Cols us.length cs → Q (.ref r) H'
end Ken
namespace Ken
open PySem L2 PyProof.Rows
theorem colD_snoc {us : List Str} {cs : List Nat} (h : us.length = cs.length) (x : Str) (c : Nat) : colD (us ++ [x]) (cs ++ [c]) = colD us cs ++ [(Sum.inr x, V.int (c : Nat))] := by
  unfold colD
  rw [List.zip_append h, List.map_append]; rfl
theorem colD_len {us : List Str} {cs : List Nat} (h : us.length = cs.length) : (colD us cs).length = us.length := by
  unfold colD
  rw [List.length_map, List.length_zip, h, Nat.min_self]
theorem colD_get {us : List Str} {cs : List Nat} {i : Nat} {kv : Key × V} (h : (colD us cs)[i]? = some kv) : ∃ x c, us[i]? = some x ∧ cs[i]? = some c ∧ kv = (Sum.inr x, V.int (c : Nat)) := by
  unfold colD at h
  rw [List.getElem?_map] at h
  cases e : (us.zip cs)[i]? with
  | none => rw [e] at h; cases h
  | some p =>
    rw [e] at h
    obtain ⟨a, b⟩ := List.getElem?_zip_eq_some.mp e
    cases h
    exact ⟨_, _, a, b, rfl⟩
theorem colD_none : ∀ {us : List Str} {cs : List Nat} {x : Str}, ¬ x ∈ us → valV (colD us cs) (Sum.inr x) = none
  | [], cs, x, _ => by unfold colD; rw [List.zip_nil_left]; rfl
  | u :: us, [], x, _ => by unfold colD; rw [List.zip_nil_right]; rfl
  | u :: us, c :: cs, x, h => by
    show valV ((Sum.inr u, V.int (c : Nat)) :: colD us cs) (Sum.inr x) = none
    rw [valV_neg (fun z => h (by have : u = x := by cases z; rfl
                                 rw [this]; exact List.mem_cons_self))]
    exact colD_none fun z => h (List.mem_cons_of_mem _ z)
theorem colD_val : ∀ {us : List Str} {cs : List Nat} {x : Str} {c j : Nat}, us.Nodup → us[j]? = some x → cs[j]? = some c → valV (colD us cs) (Sum.inr x) = some (.int (c : Nat))
  | [], cs, x, c, j, _, h, _ => by simp at h
  | u :: us, [], x, c, j, _, _, h => by simp at h
  | u :: us, d :: cs, x, c, 0, _, h1, h2 => by
    cases h1; cases h2
    exact valV_pos rfl
  | u :: us, d :: cs, x, c, j + 1, hn, h1, h2 => by
    have hn' := List.nodup_cons.mp hn
    have hx : x ∈ us := List.mem_of_getElem? h1
    show valV ((Sum.inr u, V.int (d : Nat)) :: colD us cs) (Sum.inr x) = _
    rw [valV_neg (fun z => hn'.1 (by have : u = x := by cases z; rfl
                                     rw [this]; exact hx))]
    exact colD_val hn'.2 h1 h2
theorem pow5 {i : Nat} (h : i ≤ 5) : 2 ^ 2 ^ i ≤ 2 ^ 32 := Nat.pow_le_pow_right (by decide) (Nat.le_trans (Nat.pow_le_pow_right (by decide) h) (by decide))
end Ken
namespace Ken
open PySem L2
def sp_of1V (K : PySem.W.Frag) (H0 : Hp) (Pz : Tm → Prop) (f : Tm → V) : Sp := fun vs H Q _ => ∃ (v : V) (t : Tm), vs = [v] ∧ Same H0 H ∧ IsT K H v t ∧ t.kids = [] ∧ Pz t ∧ ∀ H', Same H H' → Q (f t) H'
def sp_of2V (H0 : Hp) (Pz : Tm → Prop) (f : Tm → V) : Sp := fun vs H Q _ => ∃ (k : Kd) (a b : Tm), vs = [.str k.str, f a, f b] ∧ Same H0 H ∧ Pz (.nd k a b) ∧ ∀ H', Same H H' → Q (f (.nd k a b)) H'
def sp_foldedV (K : PySem.W.Frag) (H0 : Hp) (Pz : Tm → Prop) (f : Tm → V) (fs fp : Addr) : Sp := fun vs H Q _ => ∃ (v : V) (t : Tm), vs = [v, .ref fs, .ref fp] ∧ H = H0 ∧ IsT K H v t ∧ t.parts ≤ 400 ∧ (∀ s ∈ t.pre, Pz s) ∧ ∀ H', Same H H' → Q (f t) H'
theorem pre_ltrs {t s : Tm} (h : s ∈ t.pre) : ∀ x ∈ s.ltrs, x ∈ t.ltrs := by
  induction t with
  | low =>
    have : s = .low := by simpa [Tm.pre] using h
    subst this; exact fun _ z => z
  | ltr w =>
    have : s = .ltr w := by simpa [Tm.pre] using h
    subst this; exact fun _ z => z
  | nd k a b iha ihb =>
    rw [Tm.pre_eq] at h
    have h' : s ∈ Tm.nd k a b :: [a, b].flatMap Tm.pre := h
    simp only [List.mem_cons, List.flatMap_cons, List.flatMap_nil, List.append_nil, List.mem_append] at h'
    rcases h' with rfl | h' | h'
    · exact fun _ z => z
    · exact fun x hx => List.mem_append_left _ (iha h' x hx)
    · exact fun x hx => List.mem_append_right _ (ihb h' x hx)
def colF (us : List Str) (cs : List Nat) (x : Str) : Nat := match valV (colD us cs) (Sum.inr x) with
  | some (.int i) => i.toNat
  | _ => 0
theorem colF_at {us : List Str} {cs : List Nat} {x : Str} {c j : Nat} (hn : us.Nodup) (h1 : us[j]? = some x) (h2 : cs[j]? = some c) : colF us cs x = c := by
  unfold colF
  rw [colD_val hn h1 h2]
  rfl
theorem cols_ok {us : List Str} {cs : List Nat} (hn : us.Nodup) (hC : Cols us.length cs) : ∀ x ∈ us, IsCol (2 ^ us.length) (colF us cs x) (fun r => decide (x ∈ rowW us r)) := fun x hx => by
  obtain ⟨j, hj, e⟩ := List.getElem_of_mem hx
  have h1 : us[j]? = some x := by rw [List.getElem?_eq_getElem hj, e]
  have hj' : j < cs.length := by rw [hC.len]; exact hj
  have h2 : cs[j]? = some cs[j] := List.getElem?_eq_getElem hj'
  rw [colF_at hn h1 h2]
  refine (hC.col j _ h2).congr fun r _ => ?_
  cases hb : r.testBit j with
  | true => exact (decide_eq_true (mem_row.mpr ⟨j, h1, hb⟩)).symm
  | false =>
    refine (decide_eq_false fun z => ?_).symm
    obtain ⟨i, hi, hb'⟩ := mem_row.mp z
    have : i = j := by
      obtain ⟨a1, b1⟩ := List.getElem?_eq_some_iff.mp hi
      rcases Nat.lt_trichotomy i j with y | y | y
      · exact absurd (b1.trans e.symm) (List.pairwise_iff_getElem.mp hn i j a1 hj y)
      · exact y
      · exact absurd (e.trans b1.symm) (List.pairwise_iff_getElem.mp hn j i hj a1 y)
    rw [this, hb] at hb'; cases hb'
def colT (us : List Str) (cs : List Nat) (t : Tm) : Nat := colN (2 ^ us.length) (colF us cs) t
theorem colT_is {us : List Str} {cs : List Nat} (hn : us.Nodup) (hC : Cols us.length cs) (t : Tm) (h : ∀ x ∈ t.ltrs, x ∈ us) : IsCol (2 ^ us.length) (colT us cs t) (fun r => pl (rowW us r) t) := col_of (cols_ok hn hC) t h
def sp_column (K : PySem.W.Frag) (T : Addr) (ds : List (Pos × Str)) : Sp := fun vs H Q _ => ∃ (v : V) (t : Tm) (d : Addr) (us : List Str) (cs : List Nat), vs = [v, .ref d, .int ((2 ^ 2 ^ us.length - 1 : Nat) : Int)] ∧ IsT K H v t ∧ t.parts ≤ 300 ∧ H d = some (.dK (colD us cs)) ∧ us.Nodup ∧ Cols us.length cs ∧ (∀ x ∈ t.ltrs, x ∈ us) ∧ TabOk H T ds ∧
  ∀ H', SameU T H H' → TabOk H' T ds → Q (.int ((colT us cs t : Nat) : Int)) H'
end Ken
set_option Elab.async false
set_option linter.all false
set_option maxRecDepth 100000
set_option maxHeartbeats 4000000
namespace PySem.SeqAt
open PySem PySem.MeetsSeq L2 PyProof.Rows
end PySem.SeqAt
namespace L2
open PySem PySem.Spec PyProof.Rows
section
variable {X : Cx}
end
end L2
set_option Elab.async false
set_option linter.all false
set_option maxRecDepth 100000
set_option maxHeartbeats 2000000
namespace Ken
open PySem L2
def cmpT (a b : Tm) : Int := if a = b then 0 else if lexT a.spell b.spell = true then -1 else 1
def lefts (ps : List (Tm × Tm)) : List Str := ps.flatMap fun p => p.1.spell
def rights (ps : List (Tm × Tm)) : List Str := ps.flatMap fun p => p.2.spell
theorem lefts_cons (p : Tm × Tm) (ps : List (Tm × Tm)) : lefts (p :: ps) = p.1.spell ++ lefts ps := List.flatMap_cons
theorem rights_cons (p : Tm × Tm) (ps : List (Tm × Tm)) : rights (p :: ps) = p.2.spell ++ rights ps := List.flatMap_cons
def CmpI (a b : Tm) (ps : List (Tm × Tm)) : Prop := lexT a.spell b.spell = lexT (lefts ps) (rights ps) ∧ (a = b ↔ lefts ps = rights ps)
theorem CmpI.start (a b : Tm) : CmpI a b [(a, b)] := by
  unfold CmpI
  rw [lefts_cons, rights_cons]
  show lexT a.spell b.spell = lexT (a.spell ++ []) (b.spell ++ []) ∧ (a = b ↔ a.spell ++ [] = b.spell ++ [])
  rw [List.append_nil, List.append_nil]
  exact ⟨rfl, ⟨fun e => by rw [e], spell_inj⟩⟩
theorem CmpI.done {a b : Tm} (h : CmpI a b []) : cmpT a b = 0 := by
  unfold cmpT
  rw [if_pos (h.2.mpr rfl)]
def IsP (K : PySem.W.Frag) (H : Hp) (v : V) (p : Tm × Tm) : Prop := ∃ q x y, v = .ref q ∧ SqT K H q [x, y] ∧ IsT K H x p.1 ∧ IsT K H y p.2
theorem IsP.keep {K : PySem.W.Frag} {H H' : Hp} {v : V} {p : Tm × Tm} (h : IsP K H v p) (k : KeepT K H H') : IsP K H' v p := by
  obtain ⟨q, x, y, e, hs, hx, hy⟩ := h
  exact ⟨q, x, y, e, k _ _ hs, hx.keep k, hy.keep k⟩
end Ken
set_option Elab.async false
set_option linter.all false
set_option maxRecDepth 100000
set_option maxHeartbeats 4000000
namespace PySem.SeqAt
open PySem PySem.MeetsSeq L2 PyProof.Rows
end PySem.SeqAt
namespace Ken
open PySem L2 PySem.SeqAt
section
variable {X : Cx} {pins : List (Addr × Obj)} {σ : St} {H : Hp} {s : Shared}
end
end Ken
namespace L2
open PySem PySem.Spec PyProof.Rows
section
variable {X : Cx}
def rLtTm (K : PySem.W.Frag) : R2 := fun x y H Q => ∃ a b : Ken.Tm, Ken.IsT K H x a ∧ Ken.IsT K H y b ∧ a.ok ∧ b.ok ∧ a ≠ b ∧ a.deep ≤ 140 ∧ Q (.bl (lexT a.spell b.spell)) H
end
end L2
set_option Elab.async false
set_option linter.all false
set_option maxRecDepth 100000
set_option maxHeartbeats 2000000
namespace L2
open PySem
end L2
namespace Ken
open PySem L2
theorem paired_take {α β : Type} {F : α → β → Prop} : ∀ {l : List α} {m : List β}, Paired F l m → ∀ n, Paired F (l.take n) (m.take n)
  | _, _, .nil, n => by rw [List.take_nil, List.take_nil]; exact .nil
  | _, _, .cons h t, 0 => by rw [List.take_zero, List.take_zero]; exact .nil
  | _, _, .cons h t, n + 1 => by rw [List.take_succ_cons, List.take_succ_cons]; exact .cons h (paired_take t n)
theorem tms_self (ts : List Tm) : PyData.eqv (.list (ts.map Tm.data)) (.list (ts.map Tm.data)) = true := eqvAll_self fun d hd => by
  obtain ⟨x, _, rfl⟩ := List.mem_map.mp hd
  rw [Tm.eqv]; exact decide_eq_true rfl
theorem tms_depth {ts : List Tm} {n : Nat} (h : ∀ t ∈ ts, t.deep ≤ n) : (PyData.list (ts.map Tm.data)).depth ≤ n + 1 := depth_list fun d hd => by
  obtain ⟨x, hx, rfl⟩ := List.mem_map.mp hd
  rw [Tm.depth]; exact h x hx
end Ken
set_option Elab.async false
set_option linter.all false
set_option maxRecDepth 100000
set_option maxHeartbeats 2000000
namespace Ken
open PySem L2 PyProof.Rows
theorem uniqS : ∀ {l m : List Str}, l.Pairwise (fun a b => sLt a b = true) → m.Pairwise (fun a b => sLt a b = true) → (∀ x, x ∈ l ↔ x ∈ m) → l = m
  | [], m, _, _, h => by
    cases m with
    | nil => rfl
    | cons y m => exact absurd ((h y).mpr List.mem_cons_self) (by simp)
  | x :: l, [], _, _, h => absurd ((h x).mp List.mem_cons_self) (by simp)
  | x :: l, y :: m, hl, hm, h => by
    rw [List.pairwise_cons] at hl hm
    have e : x = y := by
      by_cases e : x = y
      · exact e
      have h1 : x ∈ m := ((List.mem_cons.mp ((h x).mp List.mem_cons_self)).resolve_left e)
      have h2 : y ∈ l := ((List.mem_cons.mp ((h y).mpr List.mem_cons_self)).resolve_left fun z => e z.symm)
      have a1 := hm.1 x h1
      have a2 := sLt_asym (hl.1 y h2)
      rw [a1] at a2; cases a2
    subst e
    have nx : ∀ {k : List Str}, (∀ a ∈ k, sLt x a = true) → x ∉ k := fun hk z => by
      have := hk x z
      rw [sLt_irr] at this; cases this
    rw [uniqS hl.2 hm.2 fun z => ⟨fun hz => ((List.mem_cons.mp ((h z).mp (List.mem_cons_of_mem _ hz))).resolve_left fun e => nx hl.1 (e ▸ hz)), fun hz => ((List.mem_cons.mp ((h z).mpr (List.mem_cons_of_mem _ hz))).resolve_left fun e => nx hm.1 (e ▸ hz))⟩]
theorem rising_pw : ∀ {p : Str} {l : List Str}, risingS p l = true → (p :: l).Nodup → (p :: l).Pairwise (fun a b => sLt a b = true)
  | p, [], _, _ => List.pairwise_singleton _ _
  | p, x :: l, h, hn => by
    have h' : (!PySem.Spec.ltCps x.cps.toList p.cps.toList && risingS x l) = true := h
    rw [Bool.and_eq_true] at h'
    rw [List.nodup_cons] at hn
    have ih := rising_pw h'.2 hn.2
    have hpx : p ≠ x := fun z => hn.1 (by rw [z]; exact List.mem_cons_self)
    have lt : sLt p x = true := by
      rcases sLt_tot hpx with z | z
      · exact z
      · exfalso
        have h1 := h'.1
        rw [ltCps_eq] at h1
        have z' : decide (x.cps.toList < p.cps.toList) = true := z
        rw [z'] at h1; cases h1
    rw [List.pairwise_cons] at ih ⊢
    refine ⟨fun y hy => ?_, List.pairwise_cons.mpr ih⟩
    rcases List.mem_cons.mp hy with z | z
    · rw [z]; exact lt
    · exact sLt_trans lt (ih.1 y z)
theorem sorted_pw {l : List Str} (h : sortedS l = true) (hn : l.Nodup) : l.Pairwise (fun a b => sLt a b = true) := by
  cases l with
  | nil => exact .nil
  | cons p l => exact rising_pw h hn
theorem AllIn.all {t : Tm} {ts : List Tm} (h : AllIn t ts) : ∀ s ∈ t.pre, s ∈ ts := by
  have gen : ∀ u : Tm, u ∈ ts → ∀ s ∈ u.pre, s ∈ ts := by
    intro u
    induction u with
    | low => intro hu s hs; have : s = .low := by simpa [Tm.pre] using hs
             rw [this]; exact hu
    | ltr w => intro hu s hs; have : s = .ltr w := by simpa [Tm.pre] using hs
               rw [this]; exact hu
    | nd k a b iha ihb =>
      intro hu s hs
      rw [Tm.pre_eq] at hs
      have hs' : s ∈ Tm.nd k a b :: [a, b].flatMap Tm.pre := hs
      simp only [List.mem_cons, List.flatMap_cons, List.flatMap_nil, List.append_nil, List.mem_append] at hs'
      rcases hs' with z | z | z
      · rw [z]; exact hu
      · exact iha (h.kids _ hu a (by simp [Tm.kids])) s z
      · exact ihb (h.kids _ hu b (by simp [Tm.kids])) s z
  exact gen t (List.mem_of_getElem? h.head)
theorem AllIn.ltrs {t : Tm} {ts : List Tm} (h : AllIn t ts) (x : Str) : x ∈ ts.flatMap Tm.here ↔ x ∈ t.ltrs := by
  rw [← pre_here, List.mem_flatMap, List.mem_flatMap]
  exact ⟨fun ⟨s, hs, hx⟩ => ⟨s, h.pre s hs, hx⟩, fun ⟨s, hs, hx⟩ => ⟨s, h.all s hs, hx⟩⟩
def AtP (K : PySem.W.Frag) (H : Hp) (v : V) (x : Tm × Nat) : Prop := ∃ p u, v = .ref p ∧ SqT K H p [u, .int (x.2 : Nat)] ∧ IsT K H u x.1
theorem AtP.keep {K : PySem.W.Frag} {H H' : Hp} (k : KeepT K H H') {v : V} {x : Tm × Nat} (h : AtP K H v x) : AtP K H' v x := by
  obtain ⟨p, u, e, h1, h2⟩ := h
  exact ⟨p, u, e, k _ _ h1, h2.keep k⟩
theorem ltrs_ok : ∀ {t : Tm}, t.ok → ∀ x ∈ t.ltrs, Word x
  | .low, _, x, hx => by simp [Tm.ltrs] at hx
  | .ltr w, h, x, hx => by
    have e : x = w := by simpa [Tm.ltrs] using hx
    rw [e]; exact h
  | .nd k a b, h, x, hx => by
    have hx' : x ∈ a.ltrs ++ b.ltrs := hx
    rcases List.mem_append.mp hx' with z | z
    · exact ltrs_ok h.1 x z
    · exact ltrs_ok h.2 x z
end Ken
namespace Ken
open PySem L2
end Ken
set_option Elab.async false
set_option linter.all false
set_option maxRecDepth 100000
set_option maxHeartbeats 2000000
namespace Ken
open PySem L2 PyProof.Rows
abbrev Rises (l : List Str) : Prop := l.Pairwise (fun a b => sLt a b = true)
theorem Rises.nd {l : List Str} (h : Rises l) : l.Nodup := List.Pairwise.imp (fun {a b} (h : sLt a b = true) (z : a = b) => by rw [z, sLt_irr] at h; cases h) h
theorem row_rises {us : List Str} (h : Rises us) (r : Nat) : Rises (rowW us r) := by
  unfold rowW
  refine List.pairwise_filterMap.mpr (List.pairwise_lt_range.imp fun {a b} hab x hx y hy => ?_)
  have gx : us[a]? = some x := by
    by_cases z : r.testBit a = true
    · rw [if_pos z] at hx; exact hx
    · rw [if_neg z] at hx; cases hx
  have gy : us[b]? = some y := by
    by_cases z : r.testBit b = true
    · rw [if_pos z] at hy; exact hy
    · rw [if_neg z] at hy; cases hy
  obtain ⟨a1, b1⟩ := List.getElem?_eq_some_iff.mp gx
  obtain ⟨a2, b2⟩ := List.getElem?_eq_some_iff.mp gy
  have := List.pairwise_iff_getElem.mp h a b a1 a2 hab
  rw [b1, b2] at this
  exact this
theorem row_sub {us : List Str} {r : Nat} {x : Str} (h : x ∈ rowW us r) : x ∈ us := by
  obtain ⟨j, hj, _⟩ := mem_row.mp h
  exact List.mem_of_getElem? hj
theorem row_len (us : List Str) (r : Nat) : (rowW us r).length ≤ us.length := by
  unfold rowW
  refine Nat.le_trans (List.length_filterMap_le _ _) ?_
  rw [List.length_range]
  exact Nat.le_refl _
theorem bits_any (p : Nat → Bool) : ∀ n, ∃ r, r < 2 ^ n ∧ ∀ j, j < n → r.testBit j = p j
  | 0 => ⟨0, by decide, fun j h => absurd h (Nat.not_lt_zero _)⟩
  | n + 1 => by
    obtain ⟨r, h1, h2⟩ := bits_any p n
    cases e : p n with
    | true =>
      refine ⟨2 ^ n + r, by rw [two_succ]; omega, fun j hj => ?_⟩
      by_cases z : j = n
      · subst z; rw [Nat.testBit_two_pow_add_eq, Nat.testBit_lt_two_pow h1, e]; rfl
      · rw [Nat.testBit_two_pow_add_gt (by omega), h2 j (by omega)]
    | false =>
      refine ⟨r, by rw [two_succ]; omega, fun j hj => ?_⟩
      by_cases z : j = n
      · subst z; rw [Nat.testBit_lt_two_pow h1, e]
      · exact h2 j (by omega)
theorem row_any {us : List Str} (hn : us.Nodup) (S : List Str) : ∃ r, r < 2 ^ us.length ∧ ∀ x ∈ us, x ∈ rowW us r ↔ x ∈ S := by
  obtain ⟨r, h1, h2⟩ := bits_any (fun j => match us[j]? with | some x => decide (x ∈ S) | none => false) us.length
  refine ⟨r, h1, fun x hx => ?_⟩
  obtain ⟨j, hj, e⟩ := List.getElem_of_mem hx
  have hj2 : us[j]? = some x := by rw [List.getElem?_eq_getElem hj, e]
  have hb := h2 j hj
  rw [hj2] at hb
  have hb' : r.testBit j = decide (x ∈ S) := hb
  constructor
  · intro z
    obtain ⟨i, hi, hbi⟩ := mem_row.mp z
    have : i = j := by
      obtain ⟨a1, b1⟩ := List.getElem?_eq_some_iff.mp hi
      rcases Nat.lt_trichotomy i j with y | y | y
      · exact absurd (b1.trans e.symm) (List.pairwise_iff_getElem.mp hn i j a1 hj y)
      · exact y
      · exact absurd (e.trans b1.symm) (List.pairwise_iff_getElem.mp hn j i hj a1 y)
    rw [this, hb'] at hbi
    exact of_decide_eq_true hbi
  · intro z
    exact mem_row.mpr ⟨j, hj2, by rw [hb']; exact decide_eq_true z⟩
theorem pl_ltrs {L S : List Str} : ∀ t : Tm, (∀ x ∈ t.ltrs, x ∈ L ↔ x ∈ S) → pl L t = pl S t
  | .low, _ => rfl
  | .ltr x, h => decide_eq_decide.mpr (h x (List.mem_singleton.mpr rfl))
  | .nd .both a b, h => by show (pl L a && pl L b) = _; rw [pl_ltrs a fun x hx => h x (List.mem_append_left _ hx), pl_ltrs b fun x hx => h x (List.mem_append_right _ hx)]; rfl
  | .nd .one a b, h => by show (pl L a || pl L b) = _; rw [pl_ltrs a fun x hx => h x (List.mem_append_left _ hx), pl_ltrs b fun x hx => h x (List.mem_append_right _ hx)]; rfl
  | .nd .thn a b, h => by show (!pl L a || pl L b) = _; rw [pl_ltrs a fun x hx => h x (List.mem_append_left _ hx), pl_ltrs b fun x hx => h x (List.mem_append_right _ hx)]; rfl
def agst (ts : List Tm) (t : Tm) (S : List Str) : Bool := !pl S t && ts.all (pl S)
theorem agst_ltrs {ts : List Tm} {t : Tm} {L S : List Str} (h : ∀ s ∈ ts ++ [t], ∀ x ∈ s.ltrs, x ∈ L ↔ x ∈ S) : agst ts t L = agst ts t S := by
  unfold agst
  rw [pl_ltrs t (h t (by simp))]
  congr 1
  rw [Bool.eq_iff_iff, List.all_eq_true, List.all_eq_true]
  exact ⟨fun z s hs => by rw [← pl_ltrs s (h s (by simp [hs]))]; exact z s hs, fun z s hs => by rw [pl_ltrs s (h s (by simp [hs]))]; exact z s hs⟩
def sp_rowA (K : PySem.W.Frag) (T : Addr) (ds : List (Pos × Str)) : Sp := fun vs H Q _ => ∃ (wa : Addr) (us : List V) (ts : List Tm) (g : V) (t : Tm) (ws : List Str), vs = [.ref wa, g] ∧ H wa = some (.lst us) ∧ Paired (IsT K H) us ts ∧ IsT K H g t ∧ (∀ s ∈ ts ++ [t], s.inW ws ∧ s.parts ≤ 300) ∧ ws.length ≤ 6 ∧ ts.length ≤ 1000 ∧ TabOk H T ds ∧
  (∀ H', SameU T H H' → TabOk H' T ds → (∀ S : List Str, agst ts t S = false) → Q .non H') ∧
  (∀ (r : Addr) (H' : Hp) (ys : List Str), SameU T H H' → TabOk H' T ds → H r = none → H' r = some (.lst (ys.map V.str)) → Rises ys → (∀ x ∈ ys, ∃ s ∈ ts ++ [t], x ∈ s.ltrs) → ys.length ≤ 6 → agst ts t ys = true → Q (.ref r) H')
end Ken
namespace L2
open PySem
theorem comp_enum {K : PySem.W.Frag} {a : Addr} {xs : List V} {σ0 : St} {g : TG} {tk : TK} {Q : Hp → Prop} {H : Hp} (Pv : Nat → Hp → Prop) (h0 : Pv 0 H) (hl : ∀ i H, i ≤ xs.length → Pv i H → SqL K H a xs)
    (hs : ∀ i x H T (N : Hp → Prop), xs[i]? = some x → H T = none → Pv i H → (∀ H', Pv (i + 1) H' → N H') → g (.ref T) σ0 (upd H T (.tup [.int i, x])) fun σ4 H4 => Wk σ0 σ4 ∧ tk σ4 H4 N) (hd : ∀ H, Pv xs.length H → Q H) :
    ∃ W : Nat → Nat → Hp → Prop, (∃ m, W 0 m H) ∧ compW σ0 (Ite K a) g tk Q W := by
  refine ⟨fun i m H => m = xs.length - i ∧ i ≤ xs.length ∧ Pv i H, ⟨xs.length, by simp, Nat.zero_le _, h0⟩, ?_⟩
  rintro i m H ⟨rfl, hi, p⟩
  have q := hl i H hi p
  by_cases hlt : i < xs.length
  · refine .inr ⟨⟨xs, xs[i], q, by simp [hlt]⟩, fun x H' y => ?_⟩
    obtain ⟨T, x, rfl, hT, rfl, z1⟩ := y
    exact hs i x _ T _ (z1 xs q) hT p fun H5 p5 => ⟨xs.length - (i + 1), by omega, rfl, hlt, p5⟩
  · have e : i = xs.length := by omega
    subst e
    exact .inl ⟨⟨xs, q, Nat.le_refl _⟩, hd _ p⟩
end L2
namespace Ken
open PySem L2
def rowI (us : List Str) (r i : Nat) : List Str := (List.range i).filterMap fun j => if r.testBit j then us[j]? else none
theorem rowI_succ (us : List Str) (r i : Nat) : rowI us r (i + 1) = rowI us r i ++ (if r.testBit i then us[i]?.toList else []) := by
  unfold rowI
  rw [List.range_succ, List.filterMap_append]
  congr 1
  by_cases h : r.testBit i = true
  · rw [if_pos h]
    cases e : us[i]? <;> simp [h, e]
  · rw [if_neg h]
    simp [h]
theorem rowI_len (us : List Str) (r i : Nat) : (rowI us r i).length ≤ i := by
  unfold rowI
  refine Nat.le_trans (List.length_filterMap_le _ _) ?_
  rw [List.length_range]
  exact Nat.le_refl _
theorem tru_bit (r i : Nat) : (Builtin.bitAnd (((r : Nat) : Int) / 2 ^ (((i : Nat) : Int)).toNat) 1 != 0) = r.testBit i := by
  rw [Int.toNat_natCast, show ((r : Nat) : Int) / 2 ^ i = ((r / 2 ^ i : Nat) : Int) by rw [Int.natCast_ediv, Int.natCast_pow]; rfl, show (1 : Int) = ((1 : Nat) : Int) from rfl, and_nat, Nat.and_one_is_mod]
  rw [Nat.testBit_eq_decide_div_mod_eq]
  rcases Nat.mod_two_eq_zero_or_one (r / 2 ^ i) with h | h <;> rw [h] <;> rfl
theorem bits_len {c : Nat} (h : c ≠ 0) : ((Builtin.Int.intBits ((c : Nat) : Int) : Nat) : Int) - 1 = ((c.log2 : Nat) : Int) := by
  rw [Builtin.Int.intBits.eq_1]
  have : ((c : Int) == 0) = false := by
    rw [beq_eq_false_iff_ne]; omega
  rw [this, Int.natAbs_natCast]
  show ((c.log2 + 1 : Nat) : Int) - 1 = _
  omega
end Ken
set_option Elab.async false
set_option linter.all false
set_option maxRecDepth 100000
set_option maxHeartbeats 2000000
namespace L2
open PySem PySem.Spec PyProof.Rows Ken
section
variable {X : Cx}
def rListR1 : List V → Hp → VK → Prop := fun vs H Q => ∃ n : Nat, vs = [.int (n : Nat)] ∧ n ≤ 100000 ∧ ∀ l, H l = none → Q (.ref l) (upd H l (.lst (natsV (List.range' 0 n))))
def rListR2 : List V → Hp → VK → Prop := fun vs H Q => ∃ a b : Nat, vs = [.int (a : Nat), .int (b : Nat)] ∧ a ≤ b ∧ b ≤ 100000 ∧ ∀ l, H l = none → Q (.ref l) (upd H l (.lst (natsV (List.range' a (b - a)))))
def rIndexN (K : PySem.W.Frag) : V → List V → Hp → VK → Prop := fun x vs H Q => ∃ (p : Addr) (L : List Nat) (j : Nat), x = .ref p ∧ vs = [.int (j : Nat)] ∧ SqL K H p (natsV L) ∧ j ∈ L ∧ ∀ i : Nat, L[i]? = some j → Q (.int (i : Nat)) H
end
end L2
set_option Elab.async false
set_option linter.all false
set_option maxRecDepth 100000
set_option maxHeartbeats 2000000
namespace Ken
open PySem L2 PyProof.Rows
def sp_trueN (K : PySem.W.Frag) (n : Nat) : Sp := fun vs H Q _ => ∃ (v : V) (t : Tm) (l : Addr) (S : List Str), vs = [v, .ref l] ∧ IsT K H v t ∧ t.deep ≤ n ∧ SqL K H l (S.map V.str) ∧ Q (.bl (pl S t)) H
def sp_agstL (K : PySem.W.Frag) (n : Nat) : Sp := fun vs H Q _ => ∃ (wa : Addr) (us : List V) (ts : List Tm) (g : V) (t : Tm) (l : Addr) (S : List Str), vs = [.ref wa, g, .ref l] ∧ SqL K H wa us ∧ Paired (IsT K H) us ts ∧ IsT K H g t ∧ (∀ s ∈ ts ++ [t], s.deep ≤ n) ∧ SqL K H l (S.map V.str) ∧ Q (.bl (agst ts t S)) H
def sp_allLL (K : PySem.W.Frag) : Sp := fun vs H Q _ => ∃ (a : Addr) (us : List V) (ts : List Tm) (ws : List Str), vs = [.ref a] ∧ SqL K H a us ∧ Paired (IsT K H) us ts ∧ (∀ t ∈ ts, t.inW ws ∧ t.parts ≤ 300) ∧ ws.length ≤ 6 ∧
  ∀ (r : Addr) (H' : Hp) (ys : List Str), Same H H' → H r = none → H' r = some (.lst (ys.map V.str)) → ys.length ≤ 6 → (∀ x, x ∈ ys ↔ ∃ t ∈ ts, x ∈ t.ltrs) → Q (.ref r) H'
def sp_anyL (K : PySem.W.Frag) (n : Nat) : Sp := fun vs H Q _ => ∃ (wa : Addr) (us : List V) (ts : List Tm) (g : V) (t : Tm) (l : Addr) (S : List Str), vs = [.ref wa, g, .ref l] ∧ SqL K H wa us ∧ Paired (IsT K H) us ts ∧ IsT K H g t ∧ (∀ s ∈ ts ++ [t], s.deep ≤ n) ∧ SqL K H l (S.map V.str) ∧ S.length ≤ 6 ∧ (∀ S, agst ts t S = false) ∧
  ∀ H', Same H H' → Q (.bl false) H'
def sp_goodL (K : PySem.W.Frag) (n : Nat) : Sp := fun vs H Q _ => ∃ (f : V) (wa : Addr) (us : List V) (ts : List Tm) (g : V) (t : Tm) (l : Addr) (S : List Str), vs = [f, .ref wa, g, .ref l] ∧ SqL K H wa us ∧ Paired (IsT K H) us ts ∧ IsT K H g t ∧ (∀ s ∈ ts ++ [t], s.deep ≤ n) ∧ SqL K H l (S.map V.str) ∧ S.length ≤ 6 ∧ (∀ y ∈ S, Word y) ∧
  ((f = .non ∧ ∀ S, agst ts t S = false) ∨ ∃ (a : Addr) (ys : List Str), f = .ref a ∧ H a = some (.lst (ys.map V.str)) ∧ Rises ys ∧ (∀ y ∈ ys, y ∈ S) ∧ ys.length ≤ 6 ∧ agst ts t ys = true) ∧
  ∀ H', Same H H' → Q (.bl true) H'
def sp_goalL (K : PySem.W.Frag) : Sp := fun vs H Q _ => ∃ (c : Int) (wa la : Addr) (us : List V) (ts : List Tm) (ws : List Str), vs = [.int c, .ref wa, .ref la] ∧ 0 ≤ c ∧ SqL K H wa us ∧ Paired (IsT K H) us ts ∧ SqL K H la (ws.map V.str) ∧ Words ws ∧ (∀ s ∈ ts, s.inW ws ∧ s.parts ≤ 12 ∧ s.deep ≤ 13) ∧
  ∀ (r : V) (H' : Hp) (t : Tm), Same H H' → IsT K H' r t → t.inW ws → t.parts ≤ 60 → t.deep ≤ 25 → Q r H'
end Ken
set_option Elab.async false
set_option linter.all false
set_option maxRecDepth 100000
set_option maxHeartbeats 2000000
namespace Ken
open PySem L2
structure Sub (ws ws' : List Wd) (L : List Nat) : Prop where
  len : ws'.length = L.length
  low : ∀ n ∈ L, n < ws.length
  nd : L.Nodup
  ltr : ∀ (i n : Nat) (x y : Wd), L[i]? = some n → ws[n]? = some x → ws'[i]? = some y → y.2 = x.2
  bef : ∀ (i k n m : Nat), L[i]? = some n → L[k]? = some m → (bef ws' k = some i ↔ bef ws m = some n)
  up : ∀ (i n m : Nat), L[i]? = some n → Ken.bef ws m = some n → m ∈ L
end Ken
set_option Elab.async false
set_option linter.all false
set_option maxRecDepth 100000
set_option maxHeartbeats 2000000
namespace Ken
open PySem L2
structure AloneI (ws : List Wd) (L : List Nat) (i : Nat) (ws' : List Wd) : Prop where
  len : ws'.length = i
  at_ : ∀ (k n : Nat) (x : Wd), k < i → L[k]? = some n → ws[n]? = some x → ∃ b, ws'[k]? = some (b, x.2) ∧ (k = 0 → b = none) ∧ (0 < k → ∃ j m, x.1 = some j ∧ L[m]? = some j ∧ b = some m ∧ m < k)
theorem AloneI.nil (ws : List Wd) (L : List Nat) : AloneI ws L 0 [] := ⟨rfl, fun k _ _ h => absurd h (Nat.not_lt_zero _)⟩
theorem AloneI.snoc {ws : List Wd} {L : List Nat} {i : Nat} {ws' : List Wd} (A : AloneI ws L i ws') {n : Nat} {x : Wd} {b : Option Nat} (h1 : L[i]? = some n) (h2 : ws[n]? = some x) (h3 : i = 0 → b = none) (h4 : 0 < i → ∃ j m, x.1 = some j ∧ L[m]? = some j ∧ b = some m ∧ m < i) : AloneI ws L (i + 1) (ws' ++ [(b, x.2)]) := by
  have hl := A.len
  refine ⟨by rw [List.length_append, List.length_singleton, hl], fun k m y hk g1 g2 => ?_⟩
  by_cases e : k = i
  · subst e
    rw [h1] at g1; cases g1
    rw [h2] at g2; cases g2
    exact ⟨b, by rw [List.getElem?_append_right (by omega), hl, Nat.sub_self]; rfl, h3, h4⟩
  · obtain ⟨c, z1, z2, z3⟩ := A.at_ k m y (by omega) g1 g2
    exact ⟨c, by rw [List.getElem?_append_left (by omega)]; exact z1, z2, z3⟩
end Ken
namespace Ken
open PySem L2
end Ken
set_option Elab.async false
set_option linter.all false
set_option maxRecDepth 100000
set_option maxHeartbeats 2000000
namespace L2
open PySem PySem.Spec PyProof.Rows
section
variable {prog : Program} {w : World} {A : Around} {E : Value → Shared → Prop} {s : Shared}
end
end L2
set_option Elab.async false
set_option linter.all false
set_option maxRecDepth 100000
set_option maxHeartbeats 2000000
namespace L2
open PySem PySem.Spec PyProof.Rows
section
variable {prog : Program} {w : World} {A : Around} {E : Value → Shared → Prop} {s : Shared}
end
end L2
set_option Elab.async false
set_option linter.all false
set_option maxRecDepth 100000
set_option maxHeartbeats 2000000
namespace L2
open PySem PySem.Spec PyProof.Rows
def ItzT (K : PySem.W.Frag) (a b : Addr) : It :=
  ⟨fun i H => ∃ xs ys x y, SqT K H a xs ∧ SqT K H b ys ∧ xs[i]? = some x ∧ ys[i]? = some y,
   fun i H v H' => ∃ T x y, v = .ref T ∧ H T = none ∧ H' = upd H T (.tup [x, y]) ∧ (∀ xs, SqT K H a xs → xs[i]? = some x) ∧ ∀ ys, SqT K H b ys → ys[i]? = some y,
   fun i H => ∃ xs ys, SqT K H a xs ∧ SqT K H b ys ∧ xs.length ≤ i⟩
section
variable {X : Cx}
def iZipT (K : PySem.W.Frag) (ta : TA) : TI := fun σ H R => ta σ H fun vs H1 => ∃ a b, vs = [.ref a, .ref b] ∧ (∃ xs, SqT K H1 a xs) ∧ (∃ ys, SqT K H1 b ys) ∧ R (ItzT K a b) H1
end
end L2
set_option Elab.async false
set_option linter.all false
set_option maxRecDepth 100000
set_option maxHeartbeats 2000000
namespace L2
open PySem PySem.Spec PyProof.Rows
structure CodeFs (vs : Array Value) (T : Addr) : Prop where
  a : vs[11]? = some (.ref T)
  b : vs.getD 11 .none = .ref T
  c : ∃ file tf, vs.getD 18 .none = .str file tf
  d : ∃ flags tg, vs.getD 7 .none = .int flags tg
  e : ∃ inF, vs.getD 9 .none = .bool inF
  f : ∃ text tt, vs.getD 10 .none = .int text tt
theorem codeHd_of {K : PySem.W.Frag} {c T : Addr} {od : Option Addr} {vs : Array Value} {sl : Array (Option Value)} (l : K.lookup c = some ⟨.type "code", od, .fields vs, sl⟩) (x : CodeFs vs T) (n : c ≠ T) (h : Heap) (k : K.In h) : PySem.W.CodeHd h c T := by
  obtain ⟨file, tf, h1⟩ := x.c
  obtain ⟨flags, tg, h2⟩ := x.d
  obtain ⟨inF, h3⟩ := x.e
  obtain ⟨text, tt, h4⟩ := x.f
  exact ⟨_, vs, file, tf, flags, tg, inF, text, tt, k _ _ l, rfl, rfl, x.a, x.b, h1, h2, h3, h4, n⟩
theorem funT_mk {K : PySem.W.Frag} {x qual : Str} {st : Stmt} {f : Addr} {oc : Value} {od an : Option Addr} {osl : Array (Option Value)} {kV doc pm ct : Value} {c T : Addr} (l : K.lookup f = some ⟨oc, od, .func (PySem.W.fnOf x qual (defArgs st) (defBody st) (defScope st) .none kV doc pm an (.ref c) ct), osl⟩)
    (cc : PySem.W.codeIn K (.ref c) qual = true) (k : PySem.W.keepIn K (.ref f) = true) (hC : ∀ h, K.In h → PySem.W.CodeHd h c T) : FunT K x qual st f (PySem.W.fnOf x qual (defArgs st) (defBody st) (defScope st) .none kV doc pm an (.ref c) ct) T := ⟨⟨oc, od, kV, doc, pm, an, c, ct, osl, rfl, l, cc, hC⟩, k⟩
theorem isTable_of {K : PySem.W.Frag} {h : Heap} {x : Str} {f c T : Addr} {oc : Value} {od od' an : Option Addr} {osl sl : Array (Option Value)} {kV doc pm ct : Value} {vs : Array Value} {params : Arguments} {body : List Stmt} {scope : Scope} {qual : Str} (KX : K.In h)
    (a : PySem.W.nsIn K mainGlobals x = some (some (.ref f))) (l : K.lookup f = some ⟨oc, od, .func (PySem.W.fnOf x qual params body scope .none kV doc pm an (.ref c) ct), osl⟩) (e : K.lookup c = some ⟨.type "code", od', .fields vs, sl⟩) (v : vs[11]? = some (.ref T)) : isCodeTable h T :=
  ⟨c, _, vs, KX _ _ e, rfl, rfl, v⟩
end L2
namespace KLaw
open PySem L2 Ken
set_option Elab.async false
set_option linter.all false
set_option maxRecDepth 100000
set_option maxHeartbeats 4000000
local macro_rules | `(tactic| walk_at "rdx_1") => `(tactic| simp only [tSeq, tAsg, gName, tVar, tC, tOp, rI0, rI, rU, tUn, tRet, tRetN, tIfS, tTest, tB, tNext, tCons, tNil, tCB, tCall, tTup, tLst, tDrop, tAug, ipI, tAnd, tOr, tNot, tAndV, tOrV, tNotV, tBM, tBM0, rAppend, rExtend, rPop, rIxL, rIxT, rIxS, rCat, rEq, rNe, rMulS, tSl, rSlL, rSlS, tPart, tNoPart, tRev, rJoin, tDGet, tDisp, tPairs, tFs, tFv, tFc, tF0, tKD, rIsi, rEqD, tNever, tChain, rIn, rSetL, gSub, iEnum, iStr, tKNotIn, tDIn, tDNotIn, sDPut, gTup, gCons, gNil, iRng1, iRng2, iList, iTup, iZip, rRevd, L2.start, capt,
  List.map_cons, List.map_nil, List.length_cons, List.length_nil, List.cons_append, List.nil_append, List.append_nil, List.replicate_succ, List.replicate_zero, Nat.reduceAdd, Nat.reduceSub, Nat.zero_add, Nat.add_zero, Nat.sub_zero, Nat.sub_self, List.getElem?_cons_zero, List.getElem?_cons_succ, List.getElem?_nil, List.set_cons_zero, List.set_cons_succ, Option.some.injEq, V.int.injEq, V.str.injEq, V.ref.injEq, V.bl.injEq, V.ty.injEq, List.cons.injEq, and_true, true_and, exists_eq_left', exists_eq_left, exists_and_left, exists_eq, exists_eq', and_assoc, Option.join_some, Option.join_none, scal_int, scal_str, scal_bl, cxOf_K, blk_K, decide_eq_true_eq])
local macro_rules | `(tactic| walk_at "rd") => `(tactic| walk_at "rdx_1")
local macro_rules | `(tactic| walk_at "rdx_2") => `(tactic| simp only [tFor, tLC, tVar, tC, tOp, rI0, rI, rU, tUn, tTest, tB, tCons, tNil, tCB, tCall, tTup, tLst, ipI, tAnd, tOr, tNot, tAndV, tOrV, tNotV, tBM, tBM0, rAppend, rExtend, rPop, rIxL, rIxT, rIxS, rCat, rEq, rNe, rMulS, tSl, rSlL, rSlS, tPart, tNoPart, tRev, rJoin, tDGet, tDisp, tPairs, tFs, tFv, tFc, tF0, tKD, rIsi, rEqD, tNever, tChain, rIn, rSetL, iEnum, iStr, tKNotIn, tDIn, tDNotIn, iRng1, iRng2, iList, iTup, iZip, rRevd, L2.start, capt,
  List.map_cons, List.map_nil, List.length_cons, List.length_nil, List.cons_append, List.nil_append, List.append_nil, List.replicate_succ, List.replicate_zero, Nat.reduceAdd, Nat.reduceSub, Nat.zero_add, Nat.add_zero, Nat.sub_zero, Nat.sub_self, List.getElem?_cons_zero, List.getElem?_cons_succ, List.getElem?_nil, List.set_cons_zero, List.set_cons_succ, Option.some.injEq, V.int.injEq, V.str.injEq, V.ref.injEq, V.bl.injEq, V.ty.injEq, List.cons.injEq, and_true, true_and, exists_eq_left', exists_eq_left, exists_and_left, exists_eq, exists_eq', and_assoc, Option.join_some, Option.join_none, scal_int, scal_str, scal_bl, cxOf_K, blk_K, decide_eq_true_eq])
local macro_rules | `(tactic| walk_at "ri") => `(tactic| walk_at "rdx_2")
def top (i : Nat) : Stmt := PySem.Challenge.pw_ken_k16_row_against.main.body.getD i (.Pass ⟨0, 0, 0, 0⟩)
abbrev s__law_mix : Stmt := top 12
theorem sc__law_mix : FnScope ["_law_cell_here", "_law_k", "_law_first"] ["_law_cell_here", "_law_k"] (defScope s__law_mix) := ⟨rfl, rfl, rfl, by decide +kernel, rfl, by decide +kernel, by decide +kernel⟩
abbrev s__law_cell : Stmt := top 13
theorem sc__law_cell : FnScope ["_law_script", "_law_k", "_law_cell_here"] ["_law_script", "_law_k"] (defScope s__law_cell) := ⟨rfl, rfl, rfl, by decide +kernel, rfl, by decide +kernel, by decide +kernel⟩
abbrev s__law_words : Stmt := top 14
theorem sc__law_words : FnScope ["_law_cell_here", "_law_many", "_law_some", "_law_size", "_law_at", "_law_start"] ["_law_cell_here", "_law_many"] (defScope s__law_words) := ⟨rfl, rfl, rfl, by decide +kernel, rfl, by decide +kernel, by decide +kernel⟩
section
variable {P : Program} {w : World} {K : PySem.W.Frag} {mg : Str → Option Value} {base : Heap}
theorem ok__law_mix {k : Nat} {f__law_mix : Addr} {fd__law_mix : FuncData} (F__law_mix : Fun K "_law_mix" "_law_mix" s__law_mix f__law_mix fd__law_mix) : FnOk P w K mg base CX0 (k + 1) f__law_mix fd__law_mix ["_law_cell_here", "_law_k"] sp_mix := by
  refine F__law_mix.ok sc__law_mix (fun vs H Q E h => ?_) (fun cdv A outer s H vs Q E hr h => ?_)
  · obtain ⟨c, k, rfl, _⟩ := h
    rfl
  obtain ⟨c, k, rfl, h0, h1, q⟩ := h
  refine ⟨_, (pss_cons (ps_set (i := 2) sc__law_mix.nd rfl (Or.inl rfl) (pe_op op_mod (pe_op op_mul (pe_op op_add (pv 0) pe_int) (pe_op op_add pe_int (pe_op op_mul pe_int (pv 1)))) pe_int))
  (pss_one (ps_ret (pe_op op_mod (pe_op op_add (pe_op op_add (pe_op op_mul (pe_op op_fdiv (pv 2) pe_int) pe_int) (pe_op op_mul (pv 2) (pe_op op_add (pe_op op_mul (pv 1) (pv 1)) pe_int))) (pv 1)) pe_int)))), ?_⟩
  walk_at "rd"
  have a0 : 0 ≤ (c + 1) * (48271 + 118 * k) % 2147483629 := Int.emod_nonneg _ (by decide)
  have a1 : (c + 1) * (48271 + 118 * k) % 2147483629 < 2147483629 := Int.emod_lt_of_pos _ (by decide)
  refine ⟨mul_left (by decide) (by decide), mul_right (by omega) (by omega), by decide, ⟨by decide, by decide⟩, mul_right (by decide) (by decide), mul_left (by omega) (by omega), mul_left (by omega) (by omega), by decide, ?_⟩
  exact q
theorem ok__law_cell {k : Nat} {f__law_cell : Addr} {fd__law_cell : FuncData} (F__law_cell : Fun K "_law_cell" "_law_cell" s__law_cell f__law_cell fd__law_cell) {f__law_mix : Addr} {fd__law_mix : FuncData} (G__law_mix : FnOk P w K mg base CX0 k f__law_mix fd__law_mix ["_law_cell_here", "_law_k"] (sp_mix)) (m__law_mix : mg "_law_mix" = some (.ref f__law_mix)) (k__law_mix : PySem.W.keepIn K (.ref f__law_mix) = true) (b__law_mix : Binds K fd__law_mix ["_law_cell_here", "_law_k"] []) (m_len : mg "len" = none) : FnOk P w K mg base CX0 (k + 1) f__law_cell fd__law_cell ["_law_script", "_law_k"] (sp_cell K) := by
  refine F__law_cell.ok sc__law_cell (fun vs H Q E h => ?_) (fun cdv A outer s H vs Q E hr h => ?_)
  · obtain ⟨a, ns, k, rfl, _⟩ := h
    rfl
  obtain ⟨a, ns, j, rfl, hS, h63, h0, h1, q⟩ := h
  refine ⟨_, (pss_cons (ps_set (i := 2) sc__law_cell.nd rfl (Or.inl rfl) pe_int)
  (pss_cons (ps_if (pt_cmpR (op_lt) (pv 1) (pe_callB call_len_seq (by exact rfl) m_len Ken.boot_len (pa_cons (pv 0) pa_nil)) (nomark _))
    (pss_one (ps_set (i := 2) sc__law_cell.nd rfl (Or.inl rfl) (pe_op op_mod (pe_ix ix_list (pv 0) (pv 1) (fun _ _ => rfl)) pe_int)))
    pss_nil)
  (pss_one (ps_ret (pe_call G__law_mix hr (by exact rfl) m__law_mix k__law_mix b__law_mix .nil pass0 (pa_cons (pv 2) (pa_cons (pe_op op_add (pv 1) pe_int) pa_nil))))))), ?_⟩
  walk_at "rd"
  refine ⟨_, .inl hS, ?_⟩
  rw [List.length_map]
  have e : cellOf ns j = mix (if j < (ns.length : Int) then (ns[j.toNat]?.getD 0) % 2147483647 else 0) (j + 101) := rfl
  refine ite2 (fun c => ?_) (fun c => ?_)
  · rw [if_pos c] at e
    have hj : j.toNat < ns.length := by omega
    refine ⟨_, hS, V.int (ns[j.toNat]), ?_, _, rfl, by decide, ?_⟩
    · have ej : j = ((j.toNat : Nat) : Int) := by omega
      have q : atI (ns.map V.int) ((j.toNat : Nat) : Int) = some (.int ns[j.toNat]) := atI_nat (by rw [List.getElem?_map, List.getElem?_eq_getElem hj] <;> rfl)
      rw [← ej] at q
      exact q
    · rw [List.getElem?_eq_getElem hj] at e
      rw [e] at q
      exact ⟨_, _, rfl, by omega, by omega, q⟩
  · rw [if_neg c] at e
    rw [e] at q
    exact ⟨_, _, rfl, by omega, by omega, q⟩
end
set_option Elab.async false
set_option linter.all false
set_option maxRecDepth 100000
set_option maxHeartbeats 4000000
local macro_rules | `(tactic| walk_at "rd") => `(tactic| walk_at "rdx_1")
local macro_rules | `(tactic| walk_at "ri") => `(tactic| walk_at "rdx_2")
abbrev s_within : Stmt := top 2
theorem sc_within : FnScope ["statement"] ["statement"] (defScope s_within) := ⟨rfl, rfl, rfl, by decide +kernel, rfl, by decide +kernel, by decide +kernel⟩
abbrev s_pieces : Stmt := top 3
theorem sc_pieces : FnScope ["statement", "found", "waiting", "piece"] ["statement"] (defScope s_pieces) := ⟨rfl, rfl, rfl, by decide +kernel, rfl, by decide +kernel, by decide +kernel⟩
section
variable {P : Program} {w : World} {K : PySem.W.Frag} {mg : Str → Option Value} {base : Heap}
theorem ok_within {k : Nat} {f_within : Addr} {fd_within : FuncData} (F_within : Fun K "within" "within" s_within f_within fd_within) {aPAIRED : Addr} (m_PAIRED : mg "PAIRED" = some (.ref aPAIRED)) (t_PAIRED : ∀ H, SqT K H aPAIRED [.str "both", .str "one", .str "then"]) : FnOk P w K mg base CX0 (k + 1) f_within fd_within ["statement"] (sp_within K) := by
  refine F_within.ok sc_within (fun vs H Q E h => ?_) (fun cdv A outer s H vs Q E hr h => ?_)
  · obtain ⟨v, t, rfl, _⟩ := h
    rfl
  obtain ⟨v, t, rfl, hT, q⟩ := h
  refine ⟨_, (pss_cons (ps_if (pt_cmpR (op_in_seq) (pe_ix ix_tup (pv 0) pe_int (fun _ _ => rfl)) (pe_glob (v := .ref aPAIRED) (by exact rfl) m_PAIRED (by exact rfl)) (by with_unfolding_all rfl))
    (pss_one (ps_ret (pe_lst (pa_cons (pe_ix ix_tup (pv 0) pe_int (fun _ _ => rfl)) (pa_cons (pe_ix ix_tup (pv 0) pe_int (fun _ _ => rfl)) pa_nil)))))
    pss_nil)
  (pss_one (ps_ret (pe_lst pa_nil)))), ?_⟩
  walk_at "rd"
  cases t with
  | low =>
    obtain ⟨a, rfl, hs⟩ := isT_low.mp hT
    refine ⟨a, rfl, _, hs, _, rfl, _, .inr (t_PAIRED H), rfl, rfl, ?_⟩
    rw [if_neg (by decide)]
    exact ⟨by decide, fun p hp => q p _ _ (same_new hp _) hp upd_same .nil⟩
  | ltr x =>
    obtain ⟨a, rfl, hs⟩ := isT_ltr.mp hT
    refine ⟨a, rfl, _, hs, _, rfl, _, .inr (t_PAIRED H), rfl, rfl, ?_⟩
    rw [if_neg (by decide)]
    exact ⟨by decide, fun p hp => q p _ _ (same_new hp _) hp upd_same .nil⟩
  | nd kd x y =>
    obtain ⟨a, vx, vy, rfl, hs, hx, hy⟩ := isT_nd.mp hT
    refine ⟨a, rfl, _, hs, _, rfl, _, .inr (t_PAIRED H), rfl, rfl, ?_⟩
    rw [if_pos (by cases kd <;> decide)]
    exact ⟨a, rfl, _, hs, _, rfl, a, rfl, _, hs, _, rfl, by decide, fun p hp => q p _ _ (same_new hp _) hp upd_same (.cons (hx.keep (keepT_new hp)) (.cons (hy.keep (keepT_new hp)) .nil))⟩
end
set_option Elab.async false
set_option linter.all false
set_option maxRecDepth 100000
set_option maxHeartbeats 4000000
local macro_rules | `(tactic| walk_at "rd") => `(tactic| walk_at "rdx_1")
local macro_rules | `(tactic| walk_at "ri") => `(tactic| walk_at "rdx_2")
def sumP (ts : List Tm) : Nat := (ts.map Tm.parts).sum
theorem sumP_cons (t : Tm) (ts : List Tm) : sumP (t :: ts) = t.parts + sumP ts := by unfold sumP; rw [List.map_cons, List.sum_cons]
theorem sumP_app (a b : List Tm) : sumP (a ++ b) = sumP a + sumP b := by unfold sumP; rw [List.map_append, List.sum_append]
theorem sumP_kids (t : Tm) : sumP t.kids + 1 = t.parts := by
  cases t with
  | low => rfl
  | ltr w => rfl
  | nd k a b => show sumP [a, b] + 1 = 1 + a.parts + b.parts; rw [sumP_cons, sumP_cons]; show a.parts + (b.parts + 0) + 1 = _; omega
theorem len_sumP : ∀ ts : List Tm, ts.length ≤ sumP ts
  | [] => Nat.le_refl _
  | t :: ts => by
    rw [sumP_cons, List.length_cons]
    have := len_sumP ts
    have := t.parts_pos
    omega
section
variable {P : Program} {w : World} {K : PySem.W.Frag} {mg : Str → Option Value} {base : Heap}
theorem ok_pieces {k : Nat} {f_pieces : Addr} {fd_pieces : FuncData} (F_pieces : Fun K "pieces" "pieces" s_pieces f_pieces fd_pieces) {f_within : Addr} {fd_within : FuncData} (G_within : FnOk P w K mg base CX0 k f_within fd_within ["statement"] (sp_within K)) (m_within : mg "within" = some (.ref f_within)) (k_within : PySem.W.keepIn K (.ref f_within) = true) (b_within : Binds K fd_within ["statement"] []) : FnOk P w K mg base CX0 (k + 1) f_pieces fd_pieces ["statement"] (sp_pieces K) := by
  refine F_pieces.ok sc_pieces (fun vs H Q E h => ?_) (fun cdv A outer s H vs Q E hr h => ?_)
  · obtain ⟨v, t, rfl, _⟩ := h
    rfl
  obtain ⟨v, t, rfl, hT, hp, q⟩ := h
  refine ⟨_, (pss_cons (ps_set (i := 1) sc_pieces.nd rfl (Or.inl rfl) (pe_lst pa_nil))
  (pss_cons (ps_set (i := 2) sc_pieces.nd rfl (Or.inl rfl) (pe_lst (pa_cons (pv 0) pa_nil)))
  (pss_cons (ps_while PassesOwn.never (pt_truth (pv 2) (fun _ => rfl))
    (pss_cons (ps_set (i := 3) sc_pieces.nd rfl (Or.inl rfl) (pe_bm0 PySem.F.plainAttrs_list PySem.F.slot_list_pop PySem.F.type_list_pop mt_pop (pv 2)))
  (pss_cons (ps_expr (pe_bm PySem.F.plainAttrs_list PySem.F.slot_list_append PySem.F.type_list_append mt_append (pv 1) (pa_cons (pv 3) pa_nil)))
  (pss_one (ps_expr (pe_bm PySem.F.plainAttrs_list PySem.F.slot_list_extend PySem.F.type_list_extend mt_extend (pv 2) (pa_cons (pe_rev (pe_call G_within hr (by exact rfl) m_within k_within b_within .nil pass0 (pa_cons (pv 3) pa_nil)) (pe_un un_neg pe_int)) pa_nil)))))))
  (pss_one (ps_ret (pv 1)))))), ?_⟩
  walk_at "rd"
  refine ⟨by decide, fun lt hlt => ⟨by decide, fun lw hlw => ?_⟩⟩
  have hlw0 : H lw = none := (same_new hlt _).free hlw
  have hne : lw ≠ lt := fun z => by subst z; rw [upd_same] at hlw; cases hlw
  refine ⟨fun m σ' H' => ∃ st ts us ds x3, m = sumP ts ∧ σ' = [some v, some (.ref lt), some (.ref lw), x3] ∧ Same H H' ∧ H' lt = some (.lst us) ∧ H' lw = some (.lst st.reverse) ∧ Paired (IsT K H') st ts ∧ Paired (IsT K H') us ds ∧ ds ++ ts.flatMap Tm.pre = t.pre ∧ us.length + sumP ts ≤ 400,
    ⟨_, [v], [t], [], [], none, rfl, rfl, (same_new hlt _).trans (same_new hlw _), ?_, upd_same, .cons ((hT.keep (keepT_new hlt)).keep (keepT_new hlw)) .nil, .nil, ?_, ?_⟩, ?_⟩
  · rw [upd_ne (Ne.symm hne), upd_same]
  · show [] ++ (t.pre ++ []) = t.pre
    simp
  · show 0 + (t.parts + 0) ≤ 400
    omega
  rintro m σ1 H1 ⟨st, ts, us, ds, x3, rfl, rfl, e1, h1, h2, hd, hu, ht, hn⟩
  refine ⟨_, rfl, !st.reverse.isEmpty, .inl ⟨_, SqL.of h2, rfl⟩, ?_⟩
  cases hd with
  | nil =>
    rw [if_neg (by decide)]
    walk_at "rd"
    rw [List.flatMap_nil, List.append_nil] at ht
    rw [ht] at hu
    exact q lt H1 us e1 hlt h1 hu
  | @cons u i st is hi hst =>
    have hrev : (u :: st).reverse = st.reverse ++ [u] := List.reverse_cons
    rw [if_pos (by rw [hrev]; simp)]
    refine ⟨_, fun σ' H' z => z, ?_⟩
    walk_at "rd"
    rw [hrev] at h2
    have ne1 : lt ≠ lw := Ne.symm hne
    refine ⟨.inl ⟨rfl, _, SqL.of h2⟩, _, h2, u, by simp, ?_⟩
    rw [List.dropLast_concat]
    have k1 : KeepT K H1 (upd H1 lw (.lst st.reverse)) := keepT_lst h2
    rw [sumP_cons] at hn
    have pp := i.parts_pos
    have h1' : upd H1 lw (.lst st.reverse) lt = some (.lst us) := by rw [upd_ne ne1]; exact h1
    have k2 : KeepT K H1 (upd (upd H1 lw (.lst st.reverse)) lt (.lst (us ++ [u]))) := k1.trans (keepT_lst h1')
    refine ⟨.inl ⟨rfl, _, SqL.of h1'⟩, _, h1', small1M (by omega), ?_⟩
    have h2lw0 : upd (upd H1 lw (.lst st.reverse)) lt (.lst (us ++ [u])) lw = some (.lst st.reverse) := by rw [upd_ne hne, upd_same]
    refine ⟨.inl ⟨rfl, _, SqL.of h2lw0⟩, u, i, rfl, hi.keep k2, fun r H2 zs e2 hr0 hr2 hz => ?_⟩
    have h2lw := e2 lw _ h2lw0
    have h2lt := e2 lt _ upd_same
    have l1 := Paired.length hz
    have l2 := Paired.length hst
    have l3 := len_sumP is
    have l4 := len_sumP i.kids
    have l5 := sumP_kids i
    have E2 : Same H H2 := ((e1.write hlw0).write hlt).trans e2
    refine ⟨r, rfl, zs, SqL.of hr2, fun p hp => ⟨st.reverse, by rw [upd_ne (ne_of_none h2lw hp)]; exact h2lw, zs.reverse, upd_same, ?_, sumP (i.kids ++ is), ?_, zs ++ st, i.kids ++ is, rfl, ?_, us ++ [u], ?_, ?_, ?_, ds ++ [i], ?_, ?_, ?_⟩⟩
    · rw [List.length_reverse, List.length_reverse]
      exact Nat.le_of_lt (small1M (by omega))
    · rw [sumP_app, sumP_cons]; omega
    · exact (E2.trans (same_new hp _)).write hlw0
    · rw [upd_ne ne1, upd_ne (ne_of_none h2lt hp)]; exact h2lt
    · rw [upd_same, List.reverse_append]
    · have k3 : KeepT K H2 (upd (upd H2 p (.lst zs.reverse)) lw (.lst (st.reverse ++ zs.reverse))) := (keepT_new hp).trans (keepT_lst (by rw [upd_ne (ne_of_none h2lw hp)]; exact h2lw))
      exact paired_app (paired_keepT k3 hz) (paired_keepT ((k2.trans e2.keepT).trans k3) hst)
    · have k3 : KeepT K H2 (upd (upd H2 p (.lst zs.reverse)) lw (.lst (st.reverse ++ zs.reverse))) := (keepT_new hp).trans (keepT_lst (by rw [upd_ne (ne_of_none h2lw hp)]; exact h2lw))
      exact paired_keepT ((k2.trans e2.keepT).trans k3) (paired_app hu (.cons hi .nil))
    · rw [← ht, List.flatMap_append, List.flatMap_cons, Tm.pre_eq i]; simp
    · rw [List.length_append, List.length_singleton, sumP_app]; omega
end
set_option Elab.async false
set_option linter.all false
set_option maxRecDepth 100000
set_option maxHeartbeats 4000000
local macro_rules | `(tactic| walk_at "rdx_3") => `(tactic| simp only [tCompA, kAdd, iRngD, iDict, rBitLen, tDNewK, rRep, rIndexT, rIndexN, rListR1, rListR2, rInsert, rSetOf, rLtTm, tIf, rInT, iRev, tCallL, tComp, kNest, kTest, kApp, kPut, tSeq, tAsg, gName, tVar, tC, tOp, rI0, rI, rU, tUn, tRet, tRetN, tIfS, tTest, tB, tNext, tCons, tNil, tCB, tCall, tTup, tLst, tDrop, tAug, ipI, tAnd, tOr, tNot, tAndV, tOrV, tNotV, tBM, tBM0, rAppend, rExtend, rPop, rIxL, rIxT, rIxS, rCat, rEq, rNe, rMulS, tSl, rSlL, rSlS, tPart, tNoPart, tRev, rJoin, tDGet, tDisp, tPairs, tFs, tFv, tFc, tF0, tKD, rIsi, rEqD, tNever, tChain, rIn, rSetL, gSub, iEnum, iStr, tKNotIn, tDIn, tDNotIn, sDPut, gTup, gCons, gNil, iRng1, iRng2, iList, iTup, iZip, iZipT, rRevd, L2.start, capt,
  List.map_cons, List.map_nil, List.length_cons, List.length_nil, List.cons_append, List.nil_append, List.append_nil, List.replicate_succ, List.replicate_zero, Nat.reduceAdd, Nat.reduceSub, Nat.zero_add, Nat.add_zero, Nat.sub_zero, Nat.sub_self, List.getElem?_cons_zero, List.getElem?_cons_succ, List.getElem?_nil, List.set_cons_zero, List.set_cons_succ, Option.some.injEq, V.int.injEq, V.str.injEq, V.ref.injEq, V.bl.injEq, V.ty.injEq, List.cons.injEq, and_true, true_and, exists_eq_left', exists_eq_left, exists_and_left, exists_eq, exists_eq', and_assoc, Option.join_some, Option.join_none, scal_int, scal_str, scal_bl, cxOf_K, cxC_K, cxOf_prog, cxOf_w, blk_prog, blk_w, blk_K, decide_eq_true_eq])
local macro_rules | `(tactic| walk_at "rd") => `(tactic| walk_at "rdx_3")
local macro_rules | `(tactic| walk_at "rdx_4") => `(tactic| simp only [tCompA, kAdd, iRngD, iDict, rBitLen, tDNewK, rRep, rIndexT, rIndexN, rListR1, rListR2, rInsert, rSetOf, rLtTm, tIf, rInT, iRev, tCallL, tComp, kNest, kTest, kApp, kPut, tFor, tLC, tVar, tC, tOp, rI0, rI, rU, tUn, tTest, tB, tCons, tNil, tCB, tCall, tTup, tLst, ipI, tAnd, tOr, tNot, tAndV, tOrV, tNotV, tBM, tBM0, rAppend, rExtend, rPop, rIxL, rIxT, rIxS, rCat, rEq, rNe, rMulS, tSl, rSlL, rSlS, tPart, tNoPart, tRev, rJoin, tDGet, tDisp, tPairs, tFs, tFv, tFc, tF0, tKD, rIsi, rEqD, tNever, tChain, rIn, rSetL, iEnum, iStr, tKNotIn, tDIn, tDNotIn, iRng1, iRng2, iList, iTup, iZip, iZipT, rRevd, L2.start, capt,
  List.map_cons, List.map_nil, List.length_cons, List.length_nil, List.cons_append, List.nil_append, List.append_nil, List.replicate_succ, List.replicate_zero, Nat.reduceAdd, Nat.reduceSub, Nat.zero_add, Nat.add_zero, Nat.sub_zero, Nat.sub_self, List.getElem?_cons_zero, List.getElem?_cons_succ, List.getElem?_nil, List.set_cons_zero, List.set_cons_succ, Option.some.injEq, V.int.injEq, V.str.injEq, V.ref.injEq, V.bl.injEq, V.ty.injEq, List.cons.injEq, and_true, true_and, exists_eq_left', exists_eq_left, exists_and_left, exists_eq, exists_eq', and_assoc, Option.join_some, Option.join_none, scal_int, scal_str, scal_bl, cxOf_K, cxC_K, cxOf_prog, cxOf_w, blk_prog, blk_w, blk_K, decide_eq_true_eq])
local macro_rules | `(tactic| walk_at "ri") => `(tactic| walk_at "rdx_4")
abbrev s__law_true : Stmt := top 18
theorem sc__law_true : FnScope ["_law_statement_here", "_law_trues", "_law_one", "_law_other"] ["_law_statement_here", "_law_trues"] (defScope s__law_true) := ⟨rfl, rfl, rfl, by decide +kernel, rfl, by decide +kernel, by decide +kernel⟩
abbrev s__law_against : Stmt := top 19
theorem sc__law_against : FnScope ["_law_wishes", "_law_goal_here", "_law_trues", "_law_wish"] ["_law_wishes", "_law_goal_here", "_law_trues"] (defScope s__law_against) := ⟨rfl, rfl, rfl, by decide +kernel, rfl, by decide +kernel, by decide +kernel⟩
section
variable {P : Program} {w : World} {K : PySem.W.Frag} {mg : Str → Option Value} {base : Heap}
theorem ok__law_true {k n : Nat} {f__law_true : Addr} {fd__law_true : FuncData} (F__law_true : Fun K "_law_true" "_law_true" s__law_true f__law_true fd__law_true) (G__law_true : FnOk P w K mg base CX0 k f__law_true fd__law_true ["_law_statement_here", "_law_trues"] (sp_trueN K n)) (m__law_true : mg "_law_true" = some (.ref f__law_true)) (k__law_true : PySem.W.keepIn K (.ref f__law_true) = true) (b__law_true : Binds K fd__law_true ["_law_statement_here", "_law_trues"] []) : FnOk P w K mg base CX0 (k + 1) f__law_true fd__law_true ["_law_statement_here", "_law_trues"] (sp_trueN K (n + 1)) := by
  refine F__law_true.ok sc__law_true (fun vs H Q E h => ?_) (fun cdv A outer s H vs Q E hr h => ?_)
  · obtain ⟨v, t, l, S, rfl, _⟩ := h
    rfl
  obtain ⟨v, t, l, S, rfl, hT, hd, hl, q⟩ := h
  refine ⟨_, (pss_cons (ps_if (pt_cmpR (op_eq) (pe_ix ix_tup (pv 0) pe_int (fun _ _ => rfl)) pe_str (nomark _))
    (pss_one (ps_ret pe_bl))
    pss_nil)
  (pss_cons (ps_if (pt_cmpR (op_eq) (pe_ix ix_tup (pv 0) pe_int (fun _ _ => rfl)) pe_str (nomark _))
    (pss_one (ps_ret (pe_cmpR (op_in_seq) (pe_ix ix_tup (pv 0) pe_int (fun _ _ => rfl)) (pv 1) (by with_unfolding_all rfl))))
    pss_nil)
  (pss_cons (ps_set (i := 2) sc__law_true.nd rfl (Or.inl rfl) (pe_call G__law_true hr (by exact rfl) m__law_true k__law_true b__law_true .nil pass0 (pa_cons (pe_ix ix_tup (pv 0) pe_int (fun _ _ => rfl)) (pa_cons (pv 1) pa_nil))))
  (pss_cons (ps_set (i := 3) sc__law_true.nd rfl (Or.inl rfl) (pe_call G__law_true hr (by exact rfl) m__law_true k__law_true b__law_true .nil pass0 (pa_cons (pe_ix ix_tup (pv 0) pe_int (fun _ _ => rfl)) (pa_cons (pv 1) pa_nil))))
  (pss_cons (ps_if (pt_cmpR (op_eq) (pe_ix ix_tup (pv 0) pe_int (fun _ _ => rfl)) pe_str (nomark _))
    (pss_one (ps_ret (pe_and (pv 2) (pe_one (pv 3)))))
    pss_nil)
  (pss_cons (ps_if (pt_cmpR (op_eq) (pe_ix ix_tup (pv 0) pe_int (fun _ _ => rfl)) pe_str (nomark _))
    (pss_one (ps_ret (pe_or (pv 2) (pe_one (pv 3)))))
    pss_nil)
  (pss_one (ps_ret (pe_or (pe_not (pv 2)) (pe_one (pv 3))))))))))), ?_⟩
  walk_at "rd"
  cases t with
  | low =>
    obtain ⟨a, rfl, hs⟩ := isT_low.mp hT
    refine ⟨a, rfl, _, hs, _, rfl, rfl, ?_⟩
    rw [if_pos rfl]
    exact q
  | ltr y =>
    obtain ⟨a, rfl, hs⟩ := isT_ltr.mp hT
    refine ⟨a, rfl, _, hs, _, rfl, rfl, ?_⟩
    rw [if_neg (by decide)]
    refine ⟨a, rfl, _, hs, _, rfl, rfl, ?_⟩
    rw [if_pos rfl]
    refine ⟨a, rfl, _, hs, _, rfl, _, .inl hl, rfl, strs_flat _, ?_⟩
    rw [if_neg Bool.false_ne_true, in_strs]
    exact q
  | nd kd a b =>
    obtain ⟨p, vx, vy, rfl, hs, hx, hy⟩ := isT_nd.mp hT
    have dn : 1 + max a.deep b.deep ≤ n + 1 := hd
    refine ⟨p, rfl, _, hs, _, rfl, rfl, ?_⟩
    rw [if_neg (by cases kd <;> decide)]
    refine ⟨p, rfl, _, hs, _, rfl, rfl, ?_⟩
    rw [if_neg (by cases kd <;> decide)]
    refine ⟨p, rfl, _, hs, _, rfl, vx, a, l, S, rfl, hx, by omega, hl, p, rfl, _, hs, _, rfl, vy, b, l, S, rfl, hy, by omega, hl, p, rfl, _, hs, _, rfl, rfl, ?_⟩
    cases kd with
    | both =>
      rw [if_pos (by decide)]
      have q0 : Q (.bl (pl S a && pl S b)) H := q
      cases ha : pl S a <;> rw [ha] at q0 <;> exact ⟨_, rfl, q0⟩
    | one =>
      rw [if_neg (by decide)]
      refine ⟨p, rfl, _, hs, _, rfl, rfl, ?_⟩
      rw [if_pos (by decide)]
      have q0 : Q (.bl (pl S a || pl S b)) H := q
      cases ha : pl S a <;> rw [ha] at q0 <;> exact ⟨_, rfl, q0⟩
    | thn =>
      rw [if_neg (by decide)]
      refine ⟨p, rfl, _, hs, _, rfl, rfl, ?_⟩
      rw [if_neg (by decide)]
      have q0 : Q (.bl (!pl S a || pl S b)) H := q
      cases ha : pl S a <;> rw [ha] at q0 <;> exact ⟨_, rfl, q0⟩
theorem true_zero {f : Addr} {fd : FuncData} {ps : List Str} {k : Nat} : FnOk P w K mg base CX0 k f fd ps (sp_trueN K 0) := by
  have no : ∀ vs H Q E, ¬ sp_trueN K 0 vs H Q E := fun vs H Q E h => by
    obtain ⟨v, t, l, S, _, _, hn, _⟩ := h
    cases t with
    | low => exact absurd hn (by decide)
    | ltr y => exact absurd hn (show ¬ (1 ≤ 0) by decide)
    | nd kd a b => exact absurd hn (by show ¬ (1 + max a.deep b.deep ≤ 0); omega)
  exact ⟨fun vs H Q E h => absurd h (no vs H Q E), fun A outer s H args us vs Q E _ _ _ _ h => absurd h (no vs H Q E)⟩
theorem all__law_true {f__law_true : Addr} {fd__law_true : FuncData} (F__law_true : Fun K "_law_true" "_law_true" s__law_true f__law_true fd__law_true) (m__law_true : mg "_law_true" = some (.ref f__law_true)) (b__law_true : Binds K fd__law_true ["_law_statement_here", "_law_trues"] []) :
    ∀ n : Nat, FnOk P w K mg base CX0 (n + 1) f__law_true fd__law_true ["_law_statement_here", "_law_trues"] (sp_trueN K n)
  | 0 => true_zero
  | n + 1 => ok__law_true F__law_true (all__law_true F__law_true m__law_true b__law_true n) m__law_true F__law_true.kp b__law_true
theorem ok__law_against {k n : Nat} {f__law_against : Addr} {fd__law_against : FuncData} (F__law_against : Fun K "_law_against" "_law_against" s__law_against f__law_against fd__law_against) {f__law_true : Addr} {fd__law_true : FuncData} (G__law_true : FnOk P w K mg base CX0 k f__law_true fd__law_true ["_law_statement_here", "_law_trues"] (sp_trueN K n)) (m__law_true : mg "_law_true" = some (.ref f__law_true)) (k__law_true : PySem.W.keepIn K (.ref f__law_true) = true) (b__law_true : Binds K fd__law_true ["_law_statement_here", "_law_trues"] []) : FnOk P w K mg base CX0 (k + 1) f__law_against fd__law_against ["_law_wishes", "_law_goal_here", "_law_trues"] (sp_agstL K n) := by
  refine F__law_against.ok sc__law_against (fun vs H Q E h => ?_) (fun cdv A outer s H vs Q E hr h => ?_)
  · obtain ⟨wa, us, ts, g, t, l, S, rfl, _⟩ := h
    rfl
  obtain ⟨wa, us, ts, g, t, l, S, rfl, hwa, hU, hT, hd, hl, q⟩ := h
  refine ⟨_, (pss_cons (ps_if (pt_val (pe_call G__law_true hr (by exact rfl) m__law_true k__law_true b__law_true .nil pass0 (pa_cons (pv 1) (pa_cons (pv 2) pa_nil))))
    (pss_one (ps_ret pe_bl))
    pss_nil)
  (pss_cons (ps_for PassesOwn.never rfl (pi_list (pv 0)) (pg_name (i := 3) sc__law_against.nd rfl (Or.inl rfl))
    (pss_one (ps_if (pt_not (pt_val (pe_call G__law_true hr (by exact rfl) m__law_true k__law_true b__law_true .nil pass0 (pa_cons (pv 3) (pa_cons (pv 2) pa_nil)))))
    (pss_one (ps_ret pe_bl))
    pss_nil)))
  (pss_one (ps_ret pe_bl)))), ?_⟩
  have lu := Paired.length hU
  refine seq_then (fun σ' H' => σ' = [some (.ref wa), some g, some (.ref l), none] ∧ H' = H ∧ pl S t = false) ?_ ?_
  rotate_left
  · intro C hC
    walk_at "rd"
    refine ⟨g, t, l, S, rfl, hT, hd t (by simp), hl, _, rfl, ?_⟩
    cases ht : pl S t with
    | true =>
      rw [if_pos rfl]
      have : agst ts t S = false := by unfold agst; rw [ht]; rfl
      rw [this] at q
      exact q
    | false =>
      rw [if_neg (by decide)]
      exact hC _ _ ⟨rfl, rfl, ht⟩
  rintro σ1 H1 ⟨rfl, rfl, ht⟩
  refine seq_then (fun σ' H' => ∃ x3, σ' = [some (.ref wa), some g, some (.ref l), x3] ∧ H' = H1 ∧ ts.all (pl S) = true) ?_ ?_
  rotate_left
  · intro C hC
    walk_at "ri"
    refine ⟨⟨_, hwa⟩, ?_⟩
    refine for_list (D := { nx := C, rt := Q }) (xs := us) (fun i σ' H' => ∃ x3, σ' = [some (.ref wa), some g, some (.ref l), x3] ∧ H' = H1 ∧ (ts.take i).all (pl S) = true) ⟨none, rfl, rfl, rfl⟩ (fun i σ' H' _ ⟨_, _, e, _⟩ => by rw [e]; exact hwa) (fun i x σ' H' hx hp => ?_) (fun σ' H' ⟨x3, g1, g2, g3⟩ => hC _ _ ⟨x3, g1, g2, by rw [lu, List.take_length] at g3; exact g3⟩)
    obtain ⟨x3, rfl, rfl, ha⟩ := hp
    obtain ⟨s', hs', hxT⟩ := paired_get hU hx
    walk_at "rd"
    refine ⟨x, s', l, S, rfl, hxT, hd s' (List.mem_append_left _ (List.mem_of_getElem? hs')), hl, _, rfl, ?_⟩
    cases hz : pl S s' with
    | true =>
      rw [if_neg (by decide)]
      rw [take_snoc hs', List.all_append, ha]
      simp [hz]
    | false =>
      rw [if_pos (by decide)]
      have : agst ts t S = false := by
        unfold agst
        rw [ht]
        show ts.all (pl S) = false
        rw [List.all_eq_false]
        exact ⟨s', List.mem_of_getElem? hs', by rw [hz]; decide⟩
      rw [this] at q
      exact q
  rintro σ2 H2 ⟨x3, rfl, rfl, ha⟩
  walk_at "rd"
  have : agst ts t S = true := by unfold agst; rw [ht, ha]; rfl
  rw [this] at q
  exact q
end
set_option Elab.async false
set_option linter.all false
set_option maxRecDepth 100000
set_option maxHeartbeats 4000000
local macro_rules | `(tactic| walk_at "rd") => `(tactic| walk_at "rdx_3")
local macro_rules | `(tactic| walk_at "ri") => `(tactic| walk_at "rdx_4")
abbrev s__law_any : Stmt := top 21
theorem sc__law_any : FnScope ["_law_wishes", "_law_goal_here", "_law_words_here", "_law_rows", "_law_word", "_law_row"] ["_law_wishes", "_law_goal_here", "_law_words_here"] (defScope s__law_any) := ⟨rfl, rfl, rfl, by decide +kernel, rfl, by decide +kernel, by decide +kernel⟩
section
variable {P : Program} {w : World} {K : PySem.W.Frag} {mg : Str → Option Value} {base : Heap}
theorem ok__law_any {k n : Nat} {f__law_any : Addr} {fd__law_any : FuncData} (F__law_any : Fun K "_law_any" "_law_any" s__law_any f__law_any fd__law_any) {f__law_against : Addr} {fd__law_against : FuncData} (G__law_against : FnOk P w K mg base CX0 k f__law_against fd__law_against ["_law_wishes", "_law_goal_here", "_law_trues"] (sp_agstL K n)) (m__law_against : mg "_law_against" = some (.ref f__law_against)) (k__law_against : PySem.W.keepIn K (.ref f__law_against) = true) (b__law_against : Binds K fd__law_against ["_law_wishes", "_law_goal_here", "_law_trues"] []) : FnOk P w K mg base CX0 (k + 1) f__law_any fd__law_any ["_law_wishes", "_law_goal_here", "_law_words_here"] (sp_anyL K n) := by
  refine F__law_any.ok sc__law_any (fun vs H Q E h => ?_) (fun cdv A outer s H vs Q E hr h => ?_)
  · obtain ⟨wa, us, ts, g, t, l, S, rfl, _⟩ := h
    rfl
  obtain ⟨wa, us, ts, g, t, l, S, rfl, hwa, hU, hT, hdp, hl, hSl, hno, q⟩ := h
  refine ⟨_, (pss_cons (ps_set (i := 3) sc__law_any.nd rfl (Or.inl rfl) (pe_lst (pa_cons (pe_lst pa_nil) pa_nil)))
  (pss_cons (ps_for PassesOwn.never rfl (pi_list (pv 2)) (pg_name (i := 4) sc__law_any.nd rfl (Or.inr rfl))
    (pss_one (ps_set (i := 3) sc__law_any.nd rfl (Or.inl rfl) (pe_op op_cat (pv 3) (pe_lc (blkC (N' := ["_law_row", "_law_word"]) (nt := 1) (ci := [4]) ["_law_wishes", "_law_goal_here", "_law_words_here", "_law_rows", "_law_word", "_law_row"] (defScope s__law_any) rfl rfl (by decide +kernel) rfl (by decide +kernel) (by decide +kernel) rfl (by decide +kernel)) rfl (pi_list (pv 3)) (fun _ _ _ _ => (pg_name (i := 0) (show (["_law_row", "_law_word"] : List Str).Nodup from by decide +kernel) rfl (Or.inl rfl))) (fun _ _ _ _ => (pe_op op_cat (pv 0) (pe_lst (pa_cons (pv 1) pa_nil)))))))))
  (pss_cons (ps_for PassesOwn.never rfl (pi_list (pv 3)) (pg_name (i := 5) sc__law_any.nd rfl (Or.inl rfl))
    (pss_one (ps_if (pt_val (pe_call G__law_against hr (by exact rfl) m__law_against k__law_against b__law_against .nil pass0 (pa_cons (pv 0) (pa_cons (pv 1) (pa_cons (pv 5) pa_nil)))))
    (pss_one (ps_ret pe_bl))
    pss_nil)))
  (pss_one (ps_ret pe_bl))))), ?_⟩
  refine seq_then (fun σ' H' => ∃ d z, σ' = [some (.ref wa), some g, some (.ref l), some (.ref d), none, none] ∧ Same H H' ∧ H' d = some (.lst [.ref z]) ∧ H' z = some (.lst [])) ?_ ?_
  rotate_left
  · intro C hC
    walk_at "rd"
    exact ⟨by decide, fun p hp => ⟨by decide, fun p1 hp1 => hC _ _ ⟨p1, p, rfl, (same_new hp _).trans (same_new hp1 _), upd_same, same_new hp1 _ _ _ upd_same⟩⟩⟩
  rintro σ1 H1 ⟨d, z, rfl, e1, h1, hz⟩
  refine seq_then (fun σ' H' => ∃ d x4 x5 rs, σ' = [some (.ref wa), some g, some (.ref l), some (.ref d), x4, x5] ∧ Same H H' ∧ H' d = some (.lst rs) ∧ rs.length ≤ 2 ^ S.length ∧ ∀ r ∈ rs, ∃ (b : Addr) (R : List Str), r = .ref b ∧ H' b = some (.lst (R.map V.str))) ?_ ?_
  rotate_left
  · intro C hC
    walk_at "ri"
    refine ⟨⟨_, e1.seq hl⟩, ?_⟩
    refine for_list (D := { nx := C, rt := Q }) (xs := S.map V.str) (fun i σ' H' => ∃ (d : Addr) (x4 x5 : Option V) (rs : List V), σ' = [some (.ref wa), some g, some (.ref l), some (.ref d), x4, x5] ∧ Same H H' ∧ H' d = some (.lst rs) ∧ rs.length ≤ 2 ^ i ∧ ∀ r ∈ rs, ∃ (b : Addr) (R : List Str), r = .ref b ∧ H' b = some (.lst (R.map V.str)) ∧ R.length ≤ i) ⟨d, none, none, [.ref z], rfl, e1, h1, Nat.le_refl 1, fun r hr => ⟨z, [], List.mem_singleton.mp hr, hz, Nat.le_refl _⟩⟩ (fun i σ' H' _ ⟨_, _, _, _, _, e, _⟩ => e.seq hl) (fun i x σ' H' hx hp => ?_) (fun σ' H' ⟨d, x4, x5, rs, g1, g2, g3, g4, g5⟩ => hC _ _ ⟨d, x4, x5, rs, g1, g2, g3, by rw [List.length_map] at g4; exact g4, fun r hr => (g5 r hr).imp fun b ⟨R, z1, z2, _⟩ => ⟨R, z1, z2⟩⟩)
    rw [List.getElem?_map] at hx
    cases es : S[i]? with
    | none => rw [es] at hx; cases hx
    | some y =>
    rw [es] at hx; cases hx
    have hi : i < S.length := (List.getElem?_eq_some_iff.mp es).1
    obtain ⟨d, x4, x5, rs, rfl, e, hd, hrl, hrs⟩ := hp
    have p6 : (2 : Nat) ^ i ≤ 2 ^ 6 := Nat.pow_le_pow_right (by decide) (by omega)
    walk_at "rd"
    walk_at "ri"
    refine ⟨⟨_, SqL.of hd⟩, fun acc hacc => ?_⟩
    have nad : acc ≠ d := fun z => by rw [z, hd] at hacc; cases hacc
    refine lcW_list (xs := rs) (fun j zs H2 => Same H' H2 ∧ H2 acc = some (.lst zs) ∧ zs.length = j ∧ ∀ r ∈ zs, ∃ (b : Addr) (R : List Str), r = .ref b ∧ b ≠ acc ∧ H2 b = some (.lst (R.map V.str)) ∧ R.length ≤ i + 1) ⟨same_new hacc _, upd_same, rfl, fun r hr => by simp at hr⟩ (fun j zs H2 hj ⟨e2, h2, hz2, _⟩ => ⟨h2, small1M (by omega), SqL.of (e2 _ _ hd)⟩) (fun j u zs H2 hu ⟨e2, h2, hz2, hz3⟩ C2 hC2 => ?_) (fun zs H2 ⟨e2, h2, hz2, hz3⟩ => ?_)
    · obtain ⟨b, R, rfl, hb, hR⟩ := hrs u (List.mem_of_getElem? hu)
      walk_at "rd"
      refine ⟨wk_set (i := 0) rfl, by decide, fun p hp => ?_⟩
      have s3 := same_new hp (HO.lst [V.str y])
      refine ⟨_, s3 _ _ (e2 _ _ hb), _, upd_same, Nat.le_of_lt (small1M (by simp; omega)), fun p1 hp1 => ?_⟩
      have s4 := same_new hp1 (HO.lst (R.map V.str ++ [V.str y]))
      have S34 := s3.trans s4
      have n1 : p1 ≠ acc := fun z => by rw [z, s3 _ _ h2] at hp1; cases hp1
      refine hC2 _ _ (S34 _ _ h2) ⟨(e2.trans S34).write hacc, upd_same, by rw [List.length_append, List.length_singleton, hz2], fun r hr => ?_⟩
      rcases List.mem_append.mp hr with z | z
      · obtain ⟨b', R', rfl, nb, hb', hR'⟩ := hz3 r z
        exact ⟨b', R', rfl, nb, by rw [upd_ne nb]; exact S34 _ _ hb', hR'⟩
      · exact ⟨p1, R ++ [y], List.mem_singleton.mp z, n1, by rw [upd_ne n1, upd_same, List.map_append]; rfl, by rw [List.length_append, List.length_singleton]; omega⟩
    · refine ⟨acc, rfl, rs, e2 _ _ hd, zs, h2, Nat.le_of_lt (small1M (by omega)), fun p hp => ?_⟩
      have s3 := same_new hp (HO.lst (rs ++ zs))
      refine ⟨e.trans (e2.trans s3), _, upd_same, by rw [List.length_append, Nat.pow_succ]; omega, fun r hr => ?_⟩
      rcases List.mem_append.mp hr with z | z
      · obtain ⟨b, R, rfl, hb, hR⟩ := hrs r z
        exact ⟨b, rfl, R, s3 _ _ (e2 _ _ hb), by omega⟩
      · obtain ⟨b, R, rfl, nb, hb, hR⟩ := hz3 r z
        exact ⟨b, rfl, R, s3 _ _ hb, by omega⟩
  rintro σ2 H2 ⟨d, x4, x5, rs, rfl, e2, h2, hl2, hrs⟩
  refine seq_then (fun σ' H' => ∃ x4 x5, σ' = [some (.ref wa), some g, some (.ref l), some (.ref d), x4, x5] ∧ H' = H2) ?_ ?_
  rotate_left
  · intro C hC
    walk_at "ri"
    refine ⟨⟨_, SqL.of h2⟩, ?_⟩
    refine for_list (D := { nx := C, rt := Q }) (xs := rs) (fun i σ' H' => ∃ x4 x5, σ' = [some (.ref wa), some g, some (.ref l), some (.ref d), x4, x5] ∧ H' = H2) ⟨_, _, rfl, rfl⟩ (fun i σ' H' _ ⟨_, _, _, e⟩ => by rw [e]; exact SqL.of h2) (fun i x σ' H' hx hp => ?_) (fun σ' H' hp => hC _ _ hp)
    obtain ⟨x4, x5, rfl, rfl⟩ := hp
    obtain ⟨b, R, rfl, hb⟩ := hrs x (List.mem_of_getElem? hx)
    walk_at "rd"
    refine ⟨wa, us, ts, g, t, b, R, rfl, e2.seq hwa, Paired.mapP hU (fun _ _ z => z.keep e2.keepT), hT.keep e2.keepT, hdp, SqL.of hb, _, rfl, ?_⟩
    rw [hno R, if_neg (by decide)]
  rintro σ3 H3 ⟨x4, x5, rfl, rfl⟩
  walk_at "rd"
  exact q _ e2
end
set_option Elab.async false
set_option linter.all false
set_option maxRecDepth 100000
set_option maxHeartbeats 4000000
local macro_rules | `(tactic| walk_at "rd") => `(tactic| walk_at "rdx_3")
local macro_rules | `(tactic| walk_at "ri") => `(tactic| walk_at "rdx_4")
abbrev s__law_good : Stmt := top 22
theorem sc__law_good : FnScope ["_law_found", "_law_wishes", "_law_goal_here", "_law_words_here", "_law_word"] ["_law_found", "_law_wishes", "_law_goal_here", "_law_words_here"] (defScope s__law_good) := ⟨rfl, rfl, rfl, by decide +kernel, rfl, by decide +kernel, by decide +kernel⟩
section
variable {P : Program} {w : World} {K : PySem.W.Frag} {mg : Str → Option Value} {base : Heap}
theorem ok__law_good {k n : Nat} {f__law_good : Addr} {fd__law_good : FuncData} (F__law_good : Fun K "_law_good" "_law_good" s__law_good f__law_good fd__law_good) {f__law_against : Addr} {fd__law_against : FuncData} (G__law_against : FnOk P w K mg base CX0 k f__law_against fd__law_against ["_law_wishes", "_law_goal_here", "_law_trues"] (sp_agstL K n)) (m__law_against : mg "_law_against" = some (.ref f__law_against)) (k__law_against : PySem.W.keepIn K (.ref f__law_against) = true) (b__law_against : Binds K fd__law_against ["_law_wishes", "_law_goal_here", "_law_trues"] []) {f__law_any : Addr} {fd__law_any : FuncData} (G__law_any : FnOk P w K mg base CX0 k f__law_any fd__law_any ["_law_wishes", "_law_goal_here", "_law_words_here"] (sp_anyL K n)) (m__law_any : mg "_law_any" = some (.ref f__law_any)) (k__law_any : PySem.W.keepIn K (.ref f__law_any) = true) (b__law_any : Binds K fd__law_any ["_law_wishes", "_law_goal_here", "_law_words_here"] []) (m_isinstance : mg "isinstance" = none) (m_list : mg "list" = none) (m_sorted : mg "sorted" = none) (m_set : mg "set" = none) (m_str : mg "str" = none) : FnOk P w K mg base CX0 (k + 1) f__law_good fd__law_good ["_law_found", "_law_wishes", "_law_goal_here", "_law_words_here"] (sp_goodL K n) := by
  refine F__law_good.ok sc__law_good (fun vs H Q E h => ?_) (fun cdv A outer s H vs Q E hr h => ?_)
  · obtain ⟨f, wa, us, ts, g, t, l, S, rfl, _⟩ := h
    rfl
  obtain ⟨f, wa, us, ts, g, t, l, S, rfl, hwa, hU, hT, hdp, hl, hSl, hSw, hf, q⟩ := h
  refine ⟨_, (pss_cons (ps_if (pt_cmpR (op_isN) (pv 0) pe_non (nomark _))
    (pss_one (ps_ret (pe_not (pe_call G__law_any hr (by exact rfl) m__law_any k__law_any b__law_any .nil pass0 (pa_cons (pv 1) (pa_cons (pv 2) (pa_cons (pv 3) pa_nil)))))))
    pss_nil)
  (pss_cons (ps_if ((pw_or (pt_not (pt_val (pe_callB call_isi (by exact rfl) m_isinstance Ken.boot_isinstance (pa_cons (pv 0) (pa_cons (pe_bltn (v := .ty "list") (by exact rfl) m_list Ken.boot_list (by exact rfl)) pa_nil))))) (pw_or1 (pt_cmpR (op_neD (hu_150 hr)) (pv 0) (pe_callB (call_sortedS (P := P) (w := w) rfl rfl rfl) (by exact rfl) m_sorted Ken.boot_sorted (pa_cons (pe_callTy (call_setL (P := P) (w := w) rfl rfl rfl) (by exact rfl) m_set Ken.boot_set (pa_cons (pv 0) pa_nil)) pa_nil)) (nomark _))))).pt
    (pss_one (ps_ret pe_bl))
    pss_nil)
  (pss_cons (ps_for PassesOwn.never rfl (pi_list (pv 0)) (pg_name (i := 4) sc__law_good.nd rfl (Or.inl rfl))
    (pss_one (ps_if ((pw_or (pt_not (pt_val (pe_callB call_isi (by exact rfl) m_isinstance Ken.boot_isinstance (pa_cons (pv 4) (pa_cons (pe_bltn (v := .ty "str") (by exact rfl) m_str Ken.boot_str (by exact rfl)) pa_nil))))) (pw_or1 (pt_cmpR (op_notIn_seq) (pv 4) (pv 3) (by with_unfolding_all rfl))))).pt
    (pss_one (ps_ret pe_bl))
    pss_nil)))
  (pss_one (ps_ret (pe_call G__law_against hr (by exact rfl) m__law_against k__law_against b__law_against .nil pass0 (pa_cons (pv 1) (pa_cons (pv 2) (pa_cons (pv 0) pa_nil))))))))), ?_⟩
  refine seq_then (fun σ' H' => σ' = [some f, some (.ref wa), some g, some (.ref l), none] ∧ H' = H ∧ ∃ (a : Addr) (ys : List Str), f = .ref a ∧ H a = some (.lst (ys.map V.str)) ∧ Rises ys ∧ (∀ y ∈ ys, y ∈ S) ∧ ys.length ≤ 6 ∧ agst ts t ys = true) ?_ ?_
  rotate_left
  · intro C hC
    walk_at "rd"
    rcases hf with ⟨rfl, hno⟩ | ⟨a, ys, rfl, hr⟩
    · rw [if_pos rfl]
      exact ⟨wa, us, ts, g, t, l, S, rfl, hwa, hU, hT, hdp, hl, hSl, hno, fun H' e => ⟨false, rfl, q _ e⟩⟩
    · rw [if_neg (fun z => nomatch z)]
      exact hC _ _ ⟨rfl, rfl, a, ys, rfl, hr⟩
  rintro σ1 H1 ⟨rfl, rfl, a, ys, rfl, ha, hR, hsub, hyl, hag⟩
  refine seq_then (fun σ' H' => σ' = [some (.ref a), some (.ref wa), some g, some (.ref l), none] ∧ Same H1 H') ?_ ?_
  rotate_left
  · intro C hC
    walk_at "rd"
    refine ⟨_, .of (.lst ha), _, kit_same K "list", ?_⟩
    rw [if_neg (by decide)]
    have ynd := hR.nd
    have nm := metS_nodup (xs := ys) ys.length
    have mm : ∀ x, x ∈ metS ys ys.length ↔ x ∈ ys := fun x => by rw [metS_mem x _ (Nat.le_refl _), List.take_length]
    have ml := metS_len (xs := ys) ys.length
    refine ⟨ys, SqL.of ha, by omega, fun b hb => ⟨_, upd_same, by omega, fun l1 zs hl1 hpm hso => ?_⟩⟩
    have s1 := same_new hb (setO P w b (metS ys ys.length))
    have s2 := same_new hl1 (HO.lst (zs.map V.str))
    have eq : zs = ys := uniqS (sorted_pw hso (hpm.nodup_iff.mpr nm)) hR fun x => by rw [hpm.mem_iff, mm x]
    have yw : ∀ y ∈ ys, Word y := fun y hy => hSw y (hsub y hy)
    refine ⟨.list (ys.map PyData.str), ?_, .list (ys.map PyData.str), ?_, strs_lay yw, strs_lay yw, Nat.le_trans (Nat.min_le_left _ _) (Nat.le_trans (strs_depth ys) (by decide)), ?_⟩
    · rw [Dn]; exact ⟨a, _, rfl, SqL.of ((s1.trans s2) _ _ ha), strs_dn _⟩
    · rw [Dn]; exact ⟨l1, _, rfl, SqL.of upd_same, by rw [eq]; exact strs_dn _⟩
    rw [if_pos trivial, strs_self, if_neg (by decide)]
    exact hC _ _ ⟨rfl, s1.trans s2⟩
  rintro σ2 H2 ⟨rfl, e2⟩
  refine seq_then (fun σ' H' => ∃ x4, σ' = [some (.ref a), some (.ref wa), some g, some (.ref l), x4] ∧ H' = H2) ?_ ?_
  rotate_left
  · intro C hC
    walk_at "ri"
    refine ⟨⟨_, SqL.of (e2 _ _ ha)⟩, ?_⟩
    refine for_list (D := { nx := C, rt := Q }) (xs := ys.map V.str) (fun i σ' H' => ∃ x4, σ' = [some (.ref a), some (.ref wa), some g, some (.ref l), x4] ∧ H' = H2) ⟨_, rfl, rfl⟩ (fun i σ' H' _ ⟨_, _, e⟩ => by rw [e]; exact SqL.of (e2 _ _ ha)) (fun i x σ' H' hx hp => ?_) (fun σ' H' hp => hC _ _ hp)
    obtain ⟨x4, rfl, rfl⟩ := hp
    rw [List.getElem?_map] at hx
    cases ey : ys[i]? with
    | none => rw [ey] at hx; cases hx
    | some y =>
    rw [ey] at hx; cases hx
    walk_at "rd"
    refine ⟨_, .of (.str _), _, kit_same K "str", ?_⟩
    rw [if_neg (by decide)]
    refine ⟨_, .inl (e2.seq hl), rfl, strs_flat _, ?_⟩
    rw [if_pos trivial, in_strs, decide_eq_true (hsub y (List.mem_of_getElem? ey)), if_neg (by decide)]
    exact trivial
  rintro σ3 H3 ⟨x4, rfl, rfl⟩
  walk_at "rd"
  refine ⟨wa, us, ts, g, t, a, ys, rfl, e2.seq hwa, Paired.mapP hU (fun _ _ z => z.keep e2.keepT), hT.keep e2.keepT, hdp, SqL.of (e2 _ _ ha), ?_⟩
  rw [hag]
  exact q _ e2
end
set_option Elab.async false
set_option linter.all false
set_option maxRecDepth 100000
set_option maxHeartbeats 4000000
local macro_rules | `(tactic| walk_at "rd") => `(tactic| walk_at "rdx_1")
local macro_rules | `(tactic| walk_at "ri") => `(tactic| walk_at "rdx_2")
abbrev s__law_leaf : Stmt := top 15
theorem sc__law_leaf : FnScope ["_law_cell_here", "_law_words_here"] ["_law_cell_here", "_law_words_here"] (defScope s__law_leaf) := ⟨rfl, rfl, rfl, by decide +kernel, rfl, by decide +kernel, by decide +kernel⟩
abbrev s__law_statement : Stmt := top 16
theorem sc__law_statement : FnScope ["_law_cell_here", "_law_size", "_law_words_here", "_law_rest", "_law_few", "_law_one", "_law_other"] ["_law_cell_here", "_law_size", "_law_words_here"] (defScope s__law_statement) := ⟨rfl, rfl, rfl, by decide +kernel, rfl, by decide +kernel, by decide +kernel⟩
section
variable {P : Program} {w : World} {K : PySem.W.Frag} {mg : Str → Option Value} {base : Heap}
theorem ok__law_leaf {k : Nat} {f__law_leaf : Addr} {fd__law_leaf : FuncData} (F__law_leaf : Fun K "_law_leaf" "_law_leaf" s__law_leaf f__law_leaf fd__law_leaf) (m_len : mg "len" = none) : FnOk P w K mg base CX0 (k + 1) f__law_leaf fd__law_leaf ["_law_cell_here", "_law_words_here"] (sp_leaf K) := by
  refine F__law_leaf.ok sc__law_leaf (fun vs H Q E h => ?_) (fun cdv A outer s H vs Q E hr h => ?_)
  · obtain ⟨a, ns, k, rfl, _⟩ := h
    rfl
  obtain ⟨c, wa, ws, rfl, hS, hw, q⟩ := h
  refine ⟨_, (pss_cons (ps_if (pt_cmpR (op_eq) (pe_op op_mod (pv 0) pe_int) pe_int (nomark _))
    (pss_one (ps_ret (pe_tup (pa_cons pe_str pa_nil))))
    pss_nil)
  (pss_one (ps_ret (pe_tup (pa_cons pe_str (pa_cons (pe_ix ix_list (pv 1) (pe_op op_mod (pe_op op_fdiv (pv 0) pe_int) (pe_callB call_len_seq (by exact rfl) m_len Ken.boot_len (pa_cons (pv 1) pa_nil))) (fun _ _ => rfl)) pa_nil)))))), ?_⟩
  walk_at "rd"
  refine ⟨by decide, ite2 (fun _ => ?_) (fun _ => ?_)⟩
  · exact ⟨by decide, fun p hp => q _ _ _ (same_new hp _) (made_low ws hp)⟩
  · have hl : ((ws.map V.str).length : Int) = ws.length := by rw [List.length_map]
    have h2 := hw.1
    refine ⟨⟨by decide, by decide⟩, _, .inl hS, by rw [hl]; omega, _, hS, ?_⟩
    rw [hl]
    obtain ⟨v, hv, e⟩ := at_list (xs := ws.map V.str) (i := c / 6 % (ws.length : Int)) (Int.emod_nonneg _ (by omega)) (by rw [hl]; exact Int.emod_lt_of_pos _ (by omega))
    obtain ⟨x, hx, rfl⟩ := List.mem_map.mp hv
    exact ⟨_, e, by decide, fun p hp => q _ _ _ (same_new hp _) (made_ltr hx hp)⟩
theorem ok__law_statement {k n : Nat} {f__law_statement : Addr} {fd__law_statement : FuncData} (F__law_statement : Fun K "_law_statement" "_law_statement" s__law_statement f__law_statement fd__law_statement) (G__law_statement : FnOk P w K mg base CX0 k f__law_statement fd__law_statement ["_law_cell_here", "_law_size", "_law_words_here"] (sp_stm K n)) (m__law_statement : mg "_law_statement" = some (.ref f__law_statement)) (k__law_statement : PySem.W.keepIn K (.ref f__law_statement) = true) (b__law_statement : Binds K fd__law_statement ["_law_cell_here", "_law_size", "_law_words_here"] []) {f__law_mix : Addr} {fd__law_mix : FuncData} (G__law_mix : FnOk P w K mg base CX0 k f__law_mix fd__law_mix ["_law_cell_here", "_law_k"] (sp_mix)) (m__law_mix : mg "_law_mix" = some (.ref f__law_mix)) (k__law_mix : PySem.W.keepIn K (.ref f__law_mix) = true) (b__law_mix : Binds K fd__law_mix ["_law_cell_here", "_law_k"] []) {f__law_leaf : Addr} {fd__law_leaf : FuncData} (G__law_leaf : FnOk P w K mg base CX0 k f__law_leaf fd__law_leaf ["_law_cell_here", "_law_words_here"] (sp_leaf K)) (m__law_leaf : mg "_law_leaf" = some (.ref f__law_leaf)) (k__law_leaf : PySem.W.keepIn K (.ref f__law_leaf) = true) (b__law_leaf : Binds K fd__law_leaf ["_law_cell_here", "_law_words_here"] []) : FnOk P w K mg base CX0 (k + 1) f__law_statement fd__law_statement ["_law_cell_here", "_law_size", "_law_words_here"] (sp_stm K (n + 1)) := by
  refine F__law_statement.ok sc__law_statement (fun vs H Q E h => ?_) (fun cdv A outer s H vs Q E hr h => ?_)
  · obtain ⟨c, size, wa, ws, rfl, _⟩ := h
    rfl
  obtain ⟨c, size, wa, ws, rfl, hc0, h0, h1, hn, hS, hw, q⟩ := h
  refine ⟨_, (pss_cons (ps_if (pt_cmpR (op_lt) (pv 1) pe_int (nomark _))
    (pss_one (ps_ret (pe_call G__law_leaf hr (by exact rfl) m__law_leaf k__law_leaf b__law_leaf .nil pass0 (pa_cons (pe_op op_fdiv (pv 0) pe_int) (pa_cons (pv 2) pa_nil)))))
    pss_nil)
  (pss_cons (ps_if ((pw_and (pt_cmpR (op_lt) (pv 1) pe_int (nomark _)) (pw_and1 (pt_cmpR (op_eq) (pe_op op_mod (pe_op op_fdiv (pv 0) pe_int) pe_int) pe_int (nomark _))))).pt
    (pss_one (ps_ret (pe_tup (pa_cons pe_str (pa_cons (pe_call G__law_statement hr (by exact rfl) m__law_statement k__law_statement b__law_statement .nil pass0 (pa_cons (pe_call G__law_mix hr (by exact rfl) m__law_mix k__law_mix b__law_mix .nil pass0 (pa_cons (pv 0) (pa_cons pe_int pa_nil))) (pa_cons (pe_op op_sub (pv 1) pe_int) (pa_cons (pv 2) pa_nil)))) (pa_cons (pe_tup (pa_cons pe_str pa_nil)) pa_nil))))))
    pss_nil)
  (pss_cons (ps_set (i := 3) sc__law_statement.nd rfl (Or.inl rfl) (pe_op op_sub (pv 1) pe_int))
  (pss_cons (ps_set (i := 4) sc__law_statement.nd rfl (Or.inl rfl) (pe_op op_add pe_int (pe_op op_mod (pe_call G__law_mix hr (by exact rfl) m__law_mix k__law_mix b__law_mix .nil pass0 (pa_cons (pv 0) (pa_cons pe_int pa_nil))) (pe_op op_sub (pv 3) pe_int))))
  (pss_cons (ps_if (pt_cmpR (op_ge) (pv 1) pe_int (nomark _))
    (pss_one (ps_set (i := 4) sc__law_statement.nd rfl (Or.inl rfl) (pe_op op_add (pe_op op_fdiv (pv 3) pe_int) (pe_op op_mod (pe_call G__law_mix hr (by exact rfl) m__law_mix k__law_mix b__law_mix .nil pass0 (pa_cons (pv 0) (pa_cons pe_int pa_nil))) (pe_op op_fdiv (pv 3) pe_int)))))
    pss_nil)
  (pss_cons (ps_set (i := 5) sc__law_statement.nd rfl (Or.inl rfl) (pe_call G__law_statement hr (by exact rfl) m__law_statement k__law_statement b__law_statement .nil pass0 (pa_cons (pe_call G__law_mix hr (by exact rfl) m__law_mix k__law_mix b__law_mix .nil pass0 (pa_cons (pv 0) (pa_cons pe_int pa_nil))) (pa_cons (pv 4) (pa_cons (pv 2) pa_nil)))))
  (pss_cons (ps_set (i := 6) sc__law_statement.nd rfl (Or.inl rfl) (pe_call G__law_statement hr (by exact rfl) m__law_statement k__law_statement b__law_statement .nil pass0 (pa_cons (pe_call G__law_mix hr (by exact rfl) m__law_mix k__law_mix b__law_mix .nil pass0 (pa_cons (pv 0) (pa_cons pe_int pa_nil))) (pa_cons (pe_op op_sub (pv 3) (pv 4)) (pa_cons (pv 2) pa_nil)))))
  (pss_one (ps_ret (pe_tup (pa_cons (pe_ix ix_list (pe_lst (pa_cons pe_str (pa_cons pe_str (pa_cons pe_str (pa_cons pe_str pa_nil))))) (pe_op op_mod (pv 0) pe_int) (fun _ _ => rfl)) (pa_cons (pv 5) (pa_cons (pv 6) pa_nil))))))))))))), ?_⟩
  walk_at "rd"
  have h2 := hw.1
  have tail : ∀ (few : Int), 1 ≤ few → few ≤ size - 2 → rk few < rk size → rk (size - 1 - few) < rk size →
      sp_mix [V.int c, V.int 3] H (fun x H1 => sp_stm K n [x, V.int few, V.ref wa] H1 (fun x H1 => sp_mix [V.int c, V.int 4] H1 (fun x_1 H1 => sp_stm K n [x_1, V.int (size - 1 - few), V.ref wa] H1 (fun x_2 H1 =>
        4 ≤ sizeLine ∧ ∀ (p : Addr), H1 p = none → (0 : Int) < 4 ∧ ∃ x_3, SqL K (upd H1 p (.lst [V.str "both", V.str "one", V.str "then", V.str "then"])) p x_3 ∧ ∃ x_4, atI x_3 (c % 4) = some x_4 ∧ 3 ≤ sizeLine ∧
          ∀ (p_1 : Addr), upd H1 p (.lst [V.str "both", V.str "one", V.str "then", V.str "then"]) p_1 = none → Q (V.ref p_1) (upd (upd H1 p (.lst [V.str "both", V.str "one", V.str "then", V.str "then"])) p_1 (.tup [x_4, x, x_2]))) E0) E0) E0) E0 := by
    intro few f1 f2 r1 r2
    refine ⟨_, _, rfl, by decide, by decide, ?_⟩
    refine ⟨_, _, _, ws, rfl, mix_nn _ _, by omega, by omega, by omega, hS, hw, fun x H1 a e1 m1 => ?_⟩
    refine ⟨_, _, rfl, by decide, by decide, ?_⟩
    refine ⟨_, _, _, ws, rfl, mix_nn _ _, by omega, by omega, by omega, e1.seq hS, hw, fun y H2 b e2 m2 => ?_⟩
    refine ⟨by decide, fun p hp => ⟨by decide, _, .inl (.inl upd_same), _, at_kd4 (Int.emod_nonneg _ (by decide)) (Int.emod_lt_of_pos _ (by decide)), by decide, fun p1 hp1 => ?_⟩⟩
    have k3 : KeepT K H2 (upd H2 p (.lst [V.str "both", V.str "one", V.str "then", V.str "then"])) := keepT_new hp
    have m1' := m1.mono (e2.keepT.trans k3) (Nat.le_refl _) (Nat.le_refl _)
    have m2' := m2.mono k3 (Nat.le_refl _) (Nat.le_refl _)
    refine q _ _ _ (((e1.trans e2).trans (same_new hp _)).trans (same_new hp1 _)) ((made_nd m1' m2' hp1).mono (KeepT.refl _) (by omega) (by omega))
  refine ite2 (fun c3 => ?_) (fun c3 => ?_)
  · exact ⟨⟨by decide, by decide⟩, _, _, ws, rfl, hS, hw, fun r H' t e m => q r H' t e (m.mono (KeepT.refl _) (by omega) (by omega))⟩
  have d4 : CDiv c 4 := ⟨by decide, by decide⟩
  have b4 : CDiv (size - 1) 4 := ⟨by decide, by decide⟩
  have b2 : CDiv (size - 1) 2 := ⟨by decide, by decide⟩
  have small : size < 40 → ∀ m : Int, rk (1 + m % (size - 1 - 1)) < rk size ∧ rk (size - 1 - (1 + m % (size - 1 - 1))) < rk size ∧ 1 ≤ 1 + m % (size - 1 - 1) ∧ 1 + m % (size - 1 - 1) ≤ size - 2 := fun c40 m => by
    have b0 := Int.emod_nonneg m (show size - 1 - 1 ≠ 0 by omega)
    have b1 := Int.emod_lt_of_pos m (show 0 < size - 1 - 1 by omega)
    exact ⟨rk_less (by omega) c40 (by omega), rk_less (by omega) c40 (by omega), by omega, by omega⟩
  refine ite2 (fun c40 => ?_) (fun c40 => ?_)
  · refine ⟨d4, by decide, ite2 (fun c0 => ?_) (fun c0 => ?_)⟩
    · refine ⟨_, _, rfl, by decide, by decide, ?_⟩
      have r0 := rk_two (by omega) c40
      refine ⟨_, _, _, ws, rfl, mix_nn _ _, by omega, by omega, by omega, hS, hw, fun x H1 a e1 m1 => ?_⟩
      refine ⟨by decide, fun p hp => ⟨by decide, fun p1 hp1 => ?_⟩⟩
      have m1' := m1.mono (keepT_new (o := .tup [V.str "low"]) hp) (Nat.le_refl _) (Nat.le_refl _)
      refine q _ _ _ ((e1.trans (same_new hp _)).trans (same_new hp1 _)) ((made_nd (k := .thn) m1' (made_low ws hp) hp1).mono (KeepT.refl _) (by omega) (by omega))
    · refine ⟨_, _, rfl, by decide, by decide, _, rfl, by omega, ite2 (fun c41 => by omega) (fun c41 => ?_)⟩
      obtain ⟨r1, r2, f1, f2⟩ := small c40 (mix c 2)
      exact tail _ f1 f2 r1 r2
  · refine ⟨_, _, rfl, by decide, by decide, _, rfl, by omega, ite2 (fun c41 => ?_) (fun c41 => by omega)⟩
    refine ⟨b4, _, _, rfl, by decide, by decide, b2, _, rfl, by omega, ?_⟩
    have g0 := Int.emod_nonneg (mix c 2) (show (size - 1) / 2 ≠ 0 by omega)
    have g1 := Int.emod_lt_of_pos (mix c 2) (show 0 < (size - 1) / 2 by omega)
    exact tail _ (by omega) (by omega) (rk_big (by omega) h1 (by omega)) (rk_big (by omega) h1 (by omega))
theorem stm_zero {f : Addr} {fd : FuncData} {ps : List Str} {k : Nat} : FnOk P w K mg base CX0 k f fd ps (sp_stm K 0) := by
  have no : ∀ vs H Q E, ¬ sp_stm K 0 vs H Q E := fun vs H Q E h => by
    obtain ⟨c, size, wa, ws, _, _, _, _, hn, _⟩ := h
    exact absurd hn (Nat.not_lt_zero _)
  exact ⟨fun vs H Q E h => absurd h (no vs H Q E), fun A outer s H args us vs Q E _ _ _ _ h => absurd h (no vs H Q E)⟩
theorem all__law_statement {f__law_statement : Addr} {fd__law_statement : FuncData} (F__law_statement : Fun K "_law_statement" "_law_statement" s__law_statement f__law_statement fd__law_statement) (m__law_statement : mg "_law_statement" = some (.ref f__law_statement)) (b__law_statement : Binds K fd__law_statement ["_law_cell_here", "_law_size", "_law_words_here"] [])
    {f__law_mix : Addr} {fd__law_mix : FuncData} (G__law_mix : ∀ k, FnOk P w K mg base CX0 (k + 1) f__law_mix fd__law_mix ["_law_cell_here", "_law_k"] sp_mix) (m__law_mix : mg "_law_mix" = some (.ref f__law_mix)) (k__law_mix : PySem.W.keepIn K (.ref f__law_mix) = true) (b__law_mix : Binds K fd__law_mix ["_law_cell_here", "_law_k"] [])
    {f__law_leaf : Addr} {fd__law_leaf : FuncData} (G__law_leaf : ∀ k, FnOk P w K mg base CX0 (k + 1) f__law_leaf fd__law_leaf ["_law_cell_here", "_law_words_here"] (sp_leaf K)) (m__law_leaf : mg "_law_leaf" = some (.ref f__law_leaf)) (k__law_leaf : PySem.W.keepIn K (.ref f__law_leaf) = true) (b__law_leaf : Binds K fd__law_leaf ["_law_cell_here", "_law_words_here"] []) :
    ∀ n : Nat, FnOk P w K mg base CX0 (n + 1) f__law_statement fd__law_statement ["_law_cell_here", "_law_size", "_law_words_here"] (sp_stm K n)
  | 0 => stm_zero
  | n + 1 => ok__law_statement F__law_statement (all__law_statement F__law_statement m__law_statement b__law_statement G__law_mix m__law_mix k__law_mix b__law_mix G__law_leaf m__law_leaf k__law_leaf b__law_leaf n) m__law_statement F__law_statement.kp b__law_statement (G__law_mix n) m__law_mix k__law_mix b__law_mix (G__law_leaf n) m__law_leaf k__law_leaf b__law_leaf
end
set_option Elab.async false
set_option linter.all false
set_option maxRecDepth 100000
set_option maxHeartbeats 4000000
local macro_rules | `(tactic| walk_at "rd") => `(tactic| walk_at "rdx_3")
local macro_rules | `(tactic| walk_at "ri") => `(tactic| walk_at "rdx_4")
abbrev s__law_goal : Stmt := top 23
theorem sc__law_goal : FnScope ["_law_cell_here", "_law_wishes", "_law_words_here", "_law_goal_here", "_law_wish"] ["_law_cell_here", "_law_wishes", "_law_words_here"] (defScope s__law_goal) := ⟨rfl, rfl, rfl, by decide +kernel, rfl, by decide +kernel, by decide +kernel⟩
theorem cut_two (xs : List V) : cutV xs none (some 2) = xs.take 2 := by
  show List.take ((if (2 : Int) < 0 then ((2 : Int) + (xs.length : Int)).toNat else min (2 : Int).toNat xs.length) - 0) (List.drop 0 xs) = _
  rw [if_neg (by decide), List.drop_zero, Nat.sub_zero, show (2 : Int).toNat = 2 from rfl]
  rcases Nat.le_total 2 xs.length with h | h
  · rw [Nat.min_eq_left h]
  · rw [Nat.min_eq_right h, List.take_length, List.take_of_length_le h]
section
variable {P : Program} {w : World} {K : PySem.W.Frag} {mg : Str → Option Value} {base : Heap}
theorem ok__law_goal {k : Nat} {f__law_goal : Addr} {fd__law_goal : FuncData} (F__law_goal : Fun K "_law_goal" "_law_goal" s__law_goal f__law_goal fd__law_goal) {f__law_statement : Addr} {fd__law_statement : FuncData} (G__law_statement : FnOk P w K mg base CX0 k f__law_statement fd__law_statement ["_law_cell_here", "_law_size", "_law_words_here"] (sp_stm K 47)) (m__law_statement : mg "_law_statement" = some (.ref f__law_statement)) (k__law_statement : PySem.W.keepIn K (.ref f__law_statement) = true) (b__law_statement : Binds K fd__law_statement ["_law_cell_here", "_law_size", "_law_words_here"] []) {f__law_mix : Addr} {fd__law_mix : FuncData} (G__law_mix : FnOk P w K mg base CX0 k f__law_mix fd__law_mix ["_law_cell_here", "_law_k"] (sp_mix)) (m__law_mix : mg "_law_mix" = some (.ref f__law_mix)) (k__law_mix : PySem.W.keepIn K (.ref f__law_mix) = true) (b__law_mix : Binds K fd__law_mix ["_law_cell_here", "_law_k"] []) : FnOk P w K mg base CX0 (k + 1) f__law_goal fd__law_goal ["_law_cell_here", "_law_wishes", "_law_words_here"] (sp_goalL K) := by
  refine F__law_goal.ok sc__law_goal (fun vs H Q E h => ?_) (fun cdv A outer s H vs Q E hr h => ?_)
  · obtain ⟨c, wa, la, us, ts, ws, rfl, _⟩ := h
    rfl
  obtain ⟨c, wa, la, us, ts, ws, rfl, hc, hwa, hU, hla, hWs, hts, q⟩ := h
  have lu := Paired.length hU
  refine ⟨_, (pss_cons (ps_set (i := 3) sc__law_goal.nd rfl (Or.inl rfl) (pe_call G__law_statement hr (by exact rfl) m__law_statement k__law_statement b__law_statement .nil pass0 (pa_cons (pe_call G__law_mix hr (by exact rfl) m__law_mix k__law_mix b__law_mix .nil pass0 (pa_cons (pv 0) (pa_cons pe_int pa_nil))) (pa_cons (pe_op op_add pe_int (pe_op op_mod (pe_op op_fdiv (pv 0) pe_int) pe_int)) (pa_cons (pv 2) pa_nil)))))
  (pss_cons (ps_if (pt_cmpR (op_eq) (pe_op op_mod (pv 0) pe_int) pe_int (nomark _))
    (pss_one (ps_for PassesOwn.never rfl (pi_list (pe_slice sl_list (pv 1) po_none (po_some pe_int))) (pg_name (i := 4) sc__law_goal.nd rfl (Or.inl rfl))
    (pss_one (ps_set (i := 3) sc__law_goal.nd rfl (Or.inl rfl) (pe_ix ix_list (pe_lst (pa_cons (pe_tup (pa_cons pe_str (pa_cons (pv 4) (pa_cons (pv 3) pa_nil)))) (pa_cons (pe_tup (pa_cons pe_str (pa_cons (pv 3) (pa_cons (pv 4) pa_nil)))) pa_nil))) (pe_op op_mod (pe_op op_fdiv (pv 0) pe_int) pe_int) (fun _ _ => rfl))))))
    pss_nil)
  (pss_cons (ps_if (pt_cmpR (op_eq) (pe_op op_mod (pv 0) pe_int) pe_int (nomark _))
    (pss_one (ps_set (i := 3) sc__law_goal.nd rfl (Or.inl rfl) (pe_ix ix_list (pe_lst (pa_cons (pe_tup (pa_cons pe_str (pa_cons (pv 3) (pa_cons (pe_tup (pa_cons pe_str (pa_cons (pv 3) (pa_cons (pe_tup (pa_cons pe_str pa_nil)) pa_nil)))) pa_nil)))) (pa_cons (pe_tup (pa_cons pe_str (pa_cons (pv 3) (pa_cons (pv 3) pa_nil)))) pa_nil))) (pe_op op_mod (pe_op op_fdiv (pv 0) pe_int) pe_int) (fun _ _ => rfl))))
    pss_nil)
  (pss_one (ps_ret (pv 3)))))), ?_⟩
  refine seq_then (fun σ' H' => ∃ g t, σ' = [some (.int c), some (.ref wa), some (.ref la), some g, none] ∧ Same H H' ∧ IsT K H' g t ∧ t.inW ws ∧ t.parts ≤ 16 ∧ t.deep ≤ 17) ?_ ?_
  rotate_left
  · intro C hC
    walk_at "rd"
    have b0 := Int.emod_nonneg (c / 9) (show (16 : Int) ≠ 0 by decide)
    have b1 := Int.emod_lt_of_pos (c / 9) (show (0 : Int) < 16 by decide)
    refine ⟨_, _, rfl, by decide, by decide, ⟨by decide, by decide⟩, by decide, _, _, la, ws, rfl, mix_nn _ _, by omega, by omega, Nat.lt_of_le_of_lt (rk_le _) (by decide), hla, hWs, fun r H' t e m => hC _ _ ⟨r, t, rfl, e, m.1, m.2.1, ?_, ?_⟩⟩
    · have := m.2.2.1
      omega
    · have := m.2.2.2
      unfold rk at this
      rw [if_pos (by omega)] at this
      omega
  rintro σ1 H1 ⟨g, t, rfl, e1, hT, hin, hp, hd⟩
  refine seq_then (fun σ' H' => ∃ g t x4, σ' = [some (.int c), some (.ref wa), some (.ref la), some g, x4] ∧ Same H H' ∧ IsT K H' g t ∧ t.inW ws ∧ ((c % 3 = 1 ∧ t.parts ≤ 50 ∧ t.deep ≤ 21) ∨ (t.parts ≤ 16 ∧ t.deep ≤ 17))) ?_ ?_
  rotate_left
  · intro C hC
    walk_at "rd"
    refine ⟨by decide, ?_⟩
    by_cases c1 : c % 3 = 1
    · rw [if_pos c1]
      walk_at "ri"
      refine ⟨us, e1.seq hwa, fun b hb => ?_⟩
      have s0 := same_new hb (HO.lst (cutV us none (some 2)))
      have hb2 : upd H1 b (HO.lst (cutV us none (some 2))) b = some (.lst (us.take 2)) := by rw [upd_same, cut_two]
      generalize upd H1 b (HO.lst (cutV us none (some 2))) = Hb at *
      refine ⟨⟨_, SqL.of hb2⟩, ?_⟩
      have e0 := e1.trans s0
      have hU2 : Paired (IsT K H) (us.take 2) (ts.take 2) := paired_take hU 2
      have l2 : (us.take 2).length ≤ 2 := by rw [List.length_take]; omega
      refine for_list (D := { nx := C, rt := Q }) (xs := us.take 2) (fun i σ' H' => ∃ (g : V) (t : Tm) (x4 : Option V), σ' = [some (.int c), some (.ref wa), some (.ref la), some g, x4] ∧ Same H H' ∧ H' b = some (.lst (us.take 2)) ∧ IsT K H' g t ∧ t.inW ws ∧ t.parts ≤ 16 + 13 * i ∧ t.deep ≤ 17 + i) ⟨g, t, none, rfl, e0, hb2, hT.keep s0.keepT, hin, by omega, by omega⟩ (fun i σ' H' _ ⟨_, _, _, _, _, h, _⟩ => SqL.of h) (fun i x σ' H' hx hp => ?_) (fun σ' H' ⟨g, t, x4, g1, g2, _, g3, g4, g5, g6⟩ => hC _ _ ⟨g, t, x4, g1, g2, g3, g4, .inl ⟨c1, by omega, by omega⟩⟩)
      obtain ⟨g, t, x4, rfl, e, hbb, hT, hin, hp, hd⟩ := hp
      obtain ⟨s', hs', hxT⟩ := paired_get hU2 hx
      obtain ⟨sW, sp, sd⟩ := hts s' (List.mem_of_mem_take (List.mem_of_getElem? hs'))
      walk_at "rd"
      refine ⟨by decide, fun p hp => ⟨by decide, fun p1 hp1 => ⟨by decide, fun p2 hp2 => ?_⟩⟩⟩
      have s1 := same_new hp (HO.tup [V.str (Str.ofString "one"), x, g])
      have s2 := same_new hp1 (HO.tup [V.str (Str.ofString "one"), g, x])
      have s3 := same_new hp2 (HO.lst [V.ref p, V.ref p1])
      have S := s1.trans (s2.trans s3)
      have gT := hT.keep S.keepT
      have xT := hxT.keep (e.trans S).keepT
      have m0 := Int.emod_nonneg (c / 3) (show (2 : Int) ≠ 0 by decide)
      have m1 := Int.emod_lt_of_pos (c / 3) (show (0 : Int) < 2 by decide)
      refine ⟨⟨by decide, by decide⟩, by decide, _, SqL.of upd_same, ?_⟩
      rcases (show c / 3 % 2 = 0 ∨ c / 3 % 2 = 1 by omega) with z | z
      · rw [z]
        refine ⟨_, rfl, e.trans S, S _ _ hbb, .nd .one s' t, isT_nd.mpr ⟨p, x, g, rfl, (s2.trans s3).sqt (.inl (.inl upd_same)), xT, gT⟩, ⟨sW, hin⟩, ?_, ?_⟩
        · show 1 + s'.parts + t.parts ≤ _; omega
        · show 1 + max s'.deep t.deep ≤ _; omega
      · rw [z]
        refine ⟨_, rfl, e.trans S, S _ _ hbb, .nd .one t s', isT_nd.mpr ⟨p1, g, x, rfl, s3.sqt (.inl (.inl upd_same)), gT, xT⟩, ⟨hin, sW⟩, ?_, ?_⟩
        · show 1 + t.parts + s'.parts ≤ _; omega
        · show 1 + max t.deep s'.deep ≤ _; omega
    · rw [if_neg c1]
      exact hC _ _ ⟨g, t, none, rfl, e1, hT, hin, .inr ⟨hp, hd⟩⟩
  rintro σ2 H2 ⟨g, t, x4, rfl, e2, hT, hin, hpd⟩
  refine seq_then (fun σ' H' => ∃ g t x4, σ' = [some (.int c), some (.ref wa), some (.ref la), some g, x4] ∧ Same H H' ∧ IsT K H' g t ∧ t.inW ws ∧ t.parts ≤ 60 ∧ t.deep ≤ 25) ?_ ?_
  rotate_left
  · intro C hC
    walk_at "rd"
    refine ⟨by decide, ?_⟩
    by_cases c2 : c % 3 = 2
    · rw [if_pos c2]
      have hpd' : t.parts ≤ 16 ∧ t.deep ≤ 17 := hpd.resolve_left fun z => by omega
      refine ⟨by decide, fun p hp => ⟨by decide, fun p1 hp1 => ⟨by decide, fun p2 hp2 => ⟨by decide, fun p3 hp3 => ⟨by decide, fun p4 hp4 => ?_⟩⟩⟩⟩⟩
      have s1 := same_new hp (HO.tup [V.str (Str.ofString "low")])
      have s2 := same_new hp1 (HO.tup [V.str (Str.ofString "then"), g, V.ref p])
      have s3 := same_new hp2 (HO.tup [V.str (Str.ofString "one"), g, V.ref p1])
      have s4 := same_new hp3 (HO.tup [V.str (Str.ofString "then"), g, g])
      have s5 := same_new hp4 (HO.lst [V.ref p2, V.ref p3])
      have S := s1.trans (s2.trans (s3.trans (s4.trans s5)))
      have gT := hT.keep S.keepT
      have m0 := Int.emod_nonneg (c / 3) (show (2 : Int) ≠ 0 by decide)
      have m1 := Int.emod_lt_of_pos (c / 3) (show (0 : Int) < 2 by decide)
      refine ⟨⟨by decide, by decide⟩, by decide, _, SqL.of upd_same, ?_⟩
      rcases (show c / 3 % 2 = 0 ∨ c / 3 % 2 = 1 by omega) with z | z
      · rw [z]
        refine ⟨_, rfl, hC _ _ ⟨_, .nd .one t (.nd .thn t .low), _, rfl, e2.trans S, isT_nd.mpr ⟨p2, g, .ref p1, rfl, (s4.trans s5).sqt (.inl (.inl upd_same)), gT, isT_nd.mpr ⟨p1, g, .ref p, rfl, (s3.trans (s4.trans s5)).sqt (.inl (.inl upd_same)), gT, isT_low.mpr ⟨p, rfl, (s2.trans (s3.trans (s4.trans s5))).sqt (.inl (.inl upd_same))⟩⟩⟩, ⟨hin, hin, trivial⟩, ?_, ?_⟩⟩
        · show 1 + t.parts + (1 + t.parts + 1) ≤ 60; omega
        · show 1 + max t.deep (1 + max t.deep 1) ≤ 25; omega
      · rw [z]
        refine ⟨_, rfl, hC _ _ ⟨_, .nd .thn t t, _, rfl, e2.trans S, isT_nd.mpr ⟨p3, g, g, rfl, s5.sqt (.inl (.inl upd_same)), gT, gT⟩, ⟨hin, hin⟩, ?_, ?_⟩⟩
        · show 1 + t.parts + t.parts ≤ 60; omega
        · show 1 + max t.deep t.deep ≤ 25; omega
    · rw [if_neg c2]
      exact hC _ _ ⟨g, t, x4, rfl, e2, hT, hin, by omega, by omega⟩
  rintro σ3 H3 ⟨g, t, x4, rfl, e3, hT, hin, hp, hd⟩
  walk_at "rd"
  exact q _ _ t e3 hT hin hp hd
end
set_option Elab.async false
set_option linter.all false
set_option maxRecDepth 100000
set_option maxHeartbeats 4000000
local macro_rules | `(tactic| walk_at "rdx_5") => `(tactic| simp only [tCompA, kAdd, iRngD, rRep, rIndexT, tIf, rInT, iRev, tCallL, tComp, kNest, kTest, kApp, kPut, tSeq, tAsg, gName, tVar, tC, tOp, rI0, rI, rU, tUn, tRet, tRetN, tIfS, tTest, tB, tNext, tCons, tNil, tCB, tCall, tTup, tLst, tDrop, tAug, ipI, tAnd, tOr, tNot, tAndV, tOrV, tNotV, tBM, tBM0, rAppend, rExtend, rPop, rIxL, rIxT, rIxS, rCat, rEq, rNe, rMulS, tSl, rSlL, rSlS, tPart, tNoPart, tRev, rJoin, tDGet, tDisp, tPairs, tFs, tFv, tFc, tF0, tKD, rIsi, rEqD, tNever, tChain, rIn, rSetL, gSub, iEnum, iStr, tKNotIn, tDIn, tDNotIn, sDPut, gTup, gCons, gNil, iRng1, iRng2, iList, iTup, iZip, iZipT, rRevd, L2.start, capt,
  List.map_cons, List.map_nil, List.length_cons, List.length_nil, List.cons_append, List.nil_append, List.append_nil, List.replicate_succ, List.replicate_zero, Nat.reduceAdd, Nat.reduceSub, Nat.zero_add, Nat.add_zero, Nat.sub_zero, Nat.sub_self, List.getElem?_cons_zero, List.getElem?_cons_succ, List.getElem?_nil, List.set_cons_zero, List.set_cons_succ, Option.some.injEq, V.int.injEq, V.str.injEq, V.ref.injEq, V.bl.injEq, V.ty.injEq, List.cons.injEq, and_true, true_and, exists_eq_left', exists_eq_left, exists_and_left, exists_eq, exists_eq', and_assoc, Option.join_some, Option.join_none, scal_int, scal_str, scal_bl, cxOf_K, cxC_K, cxOf_prog, cxOf_w, blk_prog, blk_w, blk_K, decide_eq_true_eq])
local macro_rules | `(tactic| walk_at "rd") => `(tactic| walk_at "rdx_5")
local macro_rules | `(tactic| walk_at "rdx_6") => `(tactic| simp only [tCompA, kAdd, iRngD, rRep, rIndexT, tIf, rInT, iRev, tCallL, tComp, kNest, kTest, kApp, kPut, tFor, tLC, tVar, tC, tOp, rI0, rI, rU, tUn, tTest, tB, tCons, tNil, tCB, tCall, tTup, tLst, ipI, tAnd, tOr, tNot, tAndV, tOrV, tNotV, tBM, tBM0, rAppend, rExtend, rPop, rIxL, rIxT, rIxS, rCat, rEq, rNe, rMulS, tSl, rSlL, rSlS, tPart, tNoPart, tRev, rJoin, tDGet, tDisp, tPairs, tFs, tFv, tFc, tF0, tKD, rIsi, rEqD, tNever, tChain, rIn, rSetL, iEnum, iStr, tKNotIn, tDIn, tDNotIn, iRng1, iRng2, iList, iTup, iZip, iZipT, rRevd, L2.start, capt,
  List.map_cons, List.map_nil, List.length_cons, List.length_nil, List.cons_append, List.nil_append, List.append_nil, List.replicate_succ, List.replicate_zero, Nat.reduceAdd, Nat.reduceSub, Nat.zero_add, Nat.add_zero, Nat.sub_zero, Nat.sub_self, List.getElem?_cons_zero, List.getElem?_cons_succ, List.getElem?_nil, List.set_cons_zero, List.set_cons_succ, Option.some.injEq, V.int.injEq, V.str.injEq, V.ref.injEq, V.bl.injEq, V.ty.injEq, List.cons.injEq, and_true, true_and, exists_eq_left', exists_eq_left, exists_and_left, exists_eq, exists_eq', and_assoc, Option.join_some, Option.join_none, scal_int, scal_str, scal_bl, cxOf_K, cxC_K, cxOf_prog, cxOf_w, blk_prog, blk_w, blk_K, decide_eq_true_eq])
local macro_rules | `(tactic| walk_at "ri") => `(tactic| walk_at "rdx_6")
abbrev s__law_within : Stmt := top 17
theorem sc__law_within : FnScope ["_law_statement_here", "_law_found", "_law_at"] ["_law_statement_here"] (defScope s__law_within) := ⟨rfl, rfl, rfl, by decide +kernel, rfl, by decide +kernel, by decide +kernel⟩
section
variable {P : Program} {w : World} {K : PySem.W.Frag} {mg : Str → Option Value} {base : Heap}
theorem ok__law_within {k : Nat} {f__law_within : Addr} {fd__law_within : FuncData} (F__law_within : Fun K "_law_within" "_law_within" s__law_within f__law_within fd__law_within) (m_len : mg "len" = none) : FnOk P w K mg base CX0 (k + 1) f__law_within fd__law_within ["_law_statement_here"] (sp_withinL K) := by
  refine F__law_within.ok sc__law_within (fun vs H Q E h => ?_) (fun cdv A outer s H vs Q E hr h => ?_)
  · obtain ⟨v, t, rfl, _⟩ := h
    rfl
  obtain ⟨v, t, rfl, hT, hp, q⟩ := h
  refine ⟨_, (pss_cons (ps_set (i := 1) sc__law_within.nd rfl (Or.inl rfl) (pe_lst (pa_cons (pv 0) pa_nil)))
  (pss_cons (ps_set (i := 2) sc__law_within.nd rfl (Or.inl rfl) pe_int)
  (pss_cons (ps_while PassesOwn.never (pt_cmpR (op_lt) (pv 2) (pe_callB call_len_seq (by exact rfl) m_len Ken.boot_len (pa_cons (pv 1) pa_nil)) (nomark _))
    (pss_cons (ps_if (pt_cmpR (op_eq) (pe_callB call_len_seq (by exact rfl) m_len Ken.boot_len (pa_cons (pe_ix ix_list (pv 1) (pv 2) (fun _ _ => rfl)) pa_nil)) pe_int (nomark _))
    (pss_cons (ps_expr (pe_bm PySem.F.plainAttrs_list PySem.F.slot_list_append PySem.F.type_list_append mt_append (pv 1) (pa_cons (pe_ix ix_tup (pe_ix ix_list (pv 1) (pv 2) (fun _ _ => rfl)) pe_int (fun _ _ => rfl)) pa_nil)))
  (pss_one (ps_expr (pe_bm PySem.F.plainAttrs_list PySem.F.slot_list_append PySem.F.type_list_append mt_append (pv 1) (pa_cons (pe_ix ix_tup (pe_ix ix_list (pv 1) (pv 2) (fun _ _ => rfl)) pe_int (fun _ _ => rfl)) pa_nil)))))
    pss_nil)
  (pss_one (ps_aug (i := 2) sc__law_within.nd rfl (Or.inl rfl) pe_int ip_add))))
  (pss_one (ps_ret (pv 1)))))), ?_⟩
  walk_at "rd"
  refine ⟨by decide, fun r hr0 => ?_⟩
  refine ⟨fun m σ' H' => ∃ (i : Nat) (us : List V) (ts : List Tm), m = t.parts - i ∧ σ' = [some v, some (.ref r), some (.int (i : Nat))] ∧ Same H H' ∧ H' r = some (.lst us) ∧ Paired (IsT K H') us ts ∧ ts[0]? = some t ∧ (∀ (j : Nat) (s : Tm), j < i → ts[j]? = some s → ∀ c ∈ s.kids, c ∈ ts) ∧ (∀ s ∈ ts, s ∈ t.pre) ∧ i ≤ ts.length ∧ i + sumP (ts.drop i) = t.parts,
    ⟨_, 0, [v], [t], rfl, rfl, same_new hr0 _, upd_same, .cons (hT.keep (keepT_new hr0)) .nil, rfl, fun j s hj => absurd hj (Nat.not_lt_zero _), fun s hs => ?_, Nat.zero_le _, ?_⟩, ?_⟩
  · obtain rfl : s = t := by simpa using hs
    exact s.self_pre
  · show 0 + (t.parts + 0) = t.parts; omega
  rintro m σ1 H1 ⟨i, us, ts, rfl, rfl, e1, h1, hu, h0, hk, hpre, hi, hsum⟩
  have lu := Paired.length hu
  walk_at "rd"
  refine ⟨_, .inl (SqL.of h1), ?_⟩
  by_cases hlt : i < us.length
  · rw [if_pos (by omega)]
    refine ⟨_, fun σ' H' z => z, ?_⟩
    obtain ⟨s', hs', hxT⟩ := paired_get hu (List.getElem?_eq_getElem hlt)
    have hdr : ts.drop i = s' :: ts.drop (i + 1) := by
      obtain ⟨hl, e⟩ := List.getElem?_eq_some_iff.mp hs'
      rw [List.drop_eq_getElem_cons hl, e]
    rw [hdr, sumP_cons] at hsum
    have pp := s'.parts_pos
    have lsm := len_sumP (ts.drop (i + 1))
    rw [List.length_drop] at lsm
    have fin : s'.kids = [] → ∃ m', m' < t.parts - i ∧ ∃ i_1 : Nat, m' = t.parts - i_1 ∧ [some v, some (V.ref r), some (V.int (↑i + 1))] = [some v, some (V.ref r), some (V.int ↑i_1)] ∧ Same H H1 ∧ ∃ x, H1 r = some (HO.lst x) ∧ ∃ x_1, Paired (Ken.IsT K H1) x x_1 ∧ x_1[0]? = some t ∧ (∀ (j : Nat) (s : Tm), j < i_1 → x_1[j]? = some s → ∀ c ∈ s.kids, c ∈ x_1) ∧ (∀ s ∈ x_1, s ∈ t.pre) ∧ i_1 ≤ x_1.length ∧ i_1 + sumP (x_1.drop i_1) = t.parts := fun hkd => by
      refine ⟨t.parts - (i + 1), by omega, i + 1, rfl, rfl, e1, us, h1, ts, hu, h0, fun j s hj es c hc => ?_, hpre, by omega, ?_⟩
      · by_cases ej : j = i
        · subst ej
          rw [hs'] at es; cases es
          rw [hkd] at hc; cases hc
        · exact hk j s (by omega) es c hc
      · have : s'.parts = 1 := by
          cases s' with
          | low => rfl
          | ltr w => rfl
          | nd k a b => cases hkd
        omega
    have ai : atI us (i : Int) = some us[i] := atI_nat (List.getElem?_eq_getElem hlt)
    cases s' with
    | low =>
      obtain ⟨a, ea, hs⟩ := isT_low.mp hxT
      refine ⟨_, SqL.of h1, _, ai, a, ea, _, .inr hs, ?_⟩
      rw [if_neg (by decide)]
      exact fin rfl
    | ltr w =>
      obtain ⟨a, ea, hs⟩ := isT_ltr.mp hxT
      refine ⟨_, SqL.of h1, _, ai, a, ea, _, .inr hs, ?_⟩
      rw [if_neg (show ¬ ((([V.str "letter", V.str w].length : Nat) : Int) = 3) from fun z => absurd z (show ¬ (((2 : Nat) : Int) = 3) by decide))]
      exact fin rfl
    | nd kd a b =>
      obtain ⟨p, vx, vy, ea, hs, hx1, hy1⟩ := isT_nd.mp hxT
      refine ⟨_, SqL.of h1, _, ai, p, ea, _, .inr hs, ?_⟩
      rw [if_pos (show (([V.str kd.str, vx, vy].length : Nat) : Int) = 3 from rfl)]
      have h2 : upd H1 r (HO.lst (us ++ [vx])) r = some (.lst (us ++ [vx])) := upd_same
      have k2 : KeepT K H1 (upd H1 r (HO.lst (us ++ [vx]))) := keepT_lst h1
      have k3 : KeepT K H1 (upd (upd H1 r (HO.lst (us ++ [vx]))) r (HO.lst (us ++ [vx] ++ [vy]))) := k2.trans (keepT_lst h2)
      have ai2 : atI (us ++ [vx]) (i : Int) = some us[i] := atI_nat (by rw [List.getElem?_append_left hlt]; exact List.getElem?_eq_getElem hlt)
      refine ⟨.inl ⟨rfl, _, SqL.of h1⟩, _, SqL.of h1, _, ai, p, ea, _, hs, _, rfl, _, h1, small1M (by omega), .inl ⟨rfl, _, SqL.of h2⟩, _, SqL.of h2, _, ai2, p, ea, _, k2 _ _ hs, _, rfl, _, h2, small1M (by rw [List.length_append, List.length_singleton]; omega), ?_⟩
      have pn : (Tm.nd kd a b).parts = 1 + a.parts + b.parts := rfl
      have mt : ∀ s ∈ ts, s ∈ ts ++ [a, b] := fun s hs => List.mem_append_left _ hs
      refine ⟨t.parts - (i + 1), by omega, i + 1, rfl, rfl, (e1.write hr0).write hr0, _, upd_same, ts ++ [a, b], ?_, ?_, fun j s hj es c hc => ?_, fun s hs => ?_, ?_, ?_⟩
      · have pr := paired_app (Paired.mapP hu fun _ _ z => z.keep k3) (.cons (hx1.keep k3) (.cons (hy1.keep k3) .nil))
        rw [show us ++ [vx] ++ [vy] = us ++ [vx, vy] by simp] at pr ⊢
        exact pr
      · rw [List.getElem?_append_left (by omega)]; exact h0
      · by_cases ej : j = i
        · subst ej
          rw [List.getElem?_append_left (by omega), hs'] at es
          cases es
          have hc' : c ∈ [a, b] := hc
          exact List.mem_append_right _ hc'
        · rw [List.getElem?_append_left (by omega)] at es
          exact mt _ (hk j s (by omega) es c hc)
      · rcases List.mem_append.mp hs with z | z
        · exact hpre s z
        · exact pre_kids (hpre _ (List.mem_of_getElem? hs')) z
      · rw [List.length_append]; omega
      · rw [List.drop_append_of_le_length (by omega), sumP_app]
        show i + 1 + (sumP (ts.drop (i + 1)) + (a.parts + (b.parts + 0))) = _
        omega
  · rw [if_neg (by omega)]
    have ei : i = ts.length := by omega
    rw [ei, List.drop_length] at hsum
    have hsum' : ts.length + 0 = t.parts := hsum
    refine q r H1 us ts e1 hr0 h1 hu ⟨h0, fun s hs c hc => ?_, hpre, by omega⟩
    obtain ⟨j, hj, e⟩ := List.getElem_of_mem hs
    exact hk j s (by omega) (by rw [List.getElem?_eq_getElem hj, e]) c hc
end
set_option Elab.async false
set_option linter.all false
set_option maxRecDepth 100000
set_option maxHeartbeats 4000000
local macro_rules | `(tactic| walk_at "rd") => `(tactic| walk_at "rdx_3")
local macro_rules | `(tactic| walk_at "ri") => `(tactic| walk_at "rdx_4")
abbrev s__law_all_letters : Stmt := top 20
theorem sc__law_all_letters : FnScope ["_law_some", "_law_found", "_law_statement_here", "_law_here"] ["_law_some"] (defScope s__law_all_letters) := ⟨rfl, rfl, rfl, by decide +kernel, rfl, by decide +kernel, by decide +kernel⟩
section
variable {P : Program} {w : World} {K : PySem.W.Frag} {mg : Str → Option Value} {base : Heap}
theorem ok__law_all_letters {k : Nat} {f__law_all_letters : Addr} {fd__law_all_letters : FuncData} (F__law_all_letters : Fun K "_law_all_letters" "_law_all_letters" s__law_all_letters f__law_all_letters fd__law_all_letters) {f__law_within : Addr} {fd__law_within : FuncData} (G__law_within : FnOk P w K mg base CX0 k f__law_within fd__law_within ["_law_statement_here"] (sp_withinL K)) (m__law_within : mg "_law_within" = some (.ref f__law_within)) (k__law_within : PySem.W.keepIn K (.ref f__law_within) = true) (b__law_within : Binds K fd__law_within ["_law_statement_here"] []) (m_sorted : mg "sorted" = none) : FnOk P w K mg base CX0 (k + 1) f__law_all_letters fd__law_all_letters ["_law_some"] (sp_allLL K) := by
  refine F__law_all_letters.ok sc__law_all_letters (fun vs H Q E h => ?_) (fun cdv A outer s H vs Q E hr h => ?_)
  · obtain ⟨a, us, ts, ws, rfl, _⟩ := h
    rfl
  obtain ⟨a, us, ts, ws, rfl, ha, hT, hW, hwl, q⟩ := h
  have lu := Paired.length hT
  refine ⟨_, (pss_cons (ps_set (i := 1) sc__law_all_letters.nd rfl (Or.inl rfl) (pe_lst pa_nil))
  (pss_cons (ps_for PassesOwn.never rfl (pi_list (pv 0)) (pg_name (i := 2) sc__law_all_letters.nd rfl (Or.inl rfl))
    (pss_one (ps_for PassesOwn.never rfl (pi_list (pe_call G__law_within hr (by exact rfl) m__law_within k__law_within b__law_within .nil pass0 (pa_cons (pv 2) pa_nil))) (pg_name (i := 3) sc__law_all_letters.nd rfl (Or.inl rfl))
    (pss_one (ps_if ((pw_and (pt_cmpR (op_eq) (pe_ix ix_tup (pv 3) pe_int (fun _ _ => rfl)) pe_str (nomark _)) (pw_and1 (pt_cmpR (op_notIn_seq) (pe_ix ix_tup (pv 3) pe_int (fun _ _ => rfl)) (pv 1) (by with_unfolding_all rfl))))).pt
    (pss_one (ps_expr (pe_bm PySem.F.plainAttrs_list PySem.F.slot_list_append PySem.F.type_list_append mt_append (pv 1) (pa_cons (pe_ix ix_tup (pv 3) pe_int (fun _ _ => rfl)) pa_nil))))
    pss_nil)))))
  (pss_one (ps_ret (pe_callB call_sorted_strs (by exact rfl) m_sorted Ken.boot_sorted (pa_cons (pv 1) pa_nil)))))), ?_⟩
  refine seq_then (fun σ' H' => ∃ d, σ' = [some (.ref a), some (.ref d), none, none] ∧ Same H H' ∧ H d = none ∧ H' d = some (.lst [])) ?_ ?_
  rotate_left
  · intro C hC
    walk_at "rd"
    exact ⟨by decide, fun p hp => hC _ _ ⟨p, rfl, same_new hp _, hp, upd_same⟩⟩
  rintro σ1 H1 ⟨d, rfl, e1, f1, h1⟩
  have sub : ∀ i, ∀ x, (∃ t ∈ ts.take i, x ∈ t.ltrs) → x ∈ ws := fun i x ⟨t, ht, hx⟩ => ltrs_inW (hW t (List.mem_of_mem_take ht)).1 x hx
  refine seq_then (fun σ' H' => ∃ (x2 x3 : Option V) (xs : List Str), σ' = [some (.ref a), some (.ref d), x2, x3] ∧ Same H H' ∧ H' d = some (.lst (xs.map V.str)) ∧ xs.Nodup ∧ ∀ x, x ∈ xs ↔ ∃ t ∈ ts, x ∈ t.ltrs) ?_ ?_
  rotate_left
  · intro C hC
    refine for_listT (a := a) (xs := us) (fun Q' h => ⟨_, rfl, h⟩) (fun i σ' H' => ∃ (x2 x3 : Option V) (xs : List Str), σ' = [some (.ref a), some (.ref d), x2, x3] ∧ Same H H' ∧ H' d = some (.lst (xs.map V.str)) ∧ xs.Nodup ∧ ∀ x, x ∈ xs ↔ ∃ t ∈ ts.take i, x ∈ t.ltrs) ⟨none, none, [], rfl, e1, h1, List.nodup_nil, fun x => by simp⟩ (fun i σ' H' _ ⟨_, _, _, _, e, _⟩ => Same.seq (K := K) e ha) (fun i u σ' H' hx hp => ?_) (fun σ' H' ⟨x2, x3, xs, g1, g2, g3, g4, g5⟩ => hC _ _ ⟨x2, x3, xs, g1, g2, g3, g4, by rw [lu, List.take_length] at g5; exact g5⟩)
    obtain ⟨x2, x3, xs, rfl, e, hd, nd, hm⟩ := hp
    obtain ⟨t, ht, hTT⟩ := paired_get hT hx
    obtain ⟨tW, tp⟩ := hW t (List.mem_of_getElem? ht)
    have xl : xs.length ≤ 6 := Nat.le_trans (len_le_sub nd fun x hx => sub i x ((hm x).mp hx)) hwl
    simp only [gName, List.set_cons_zero, List.set_cons_succ]
    walk_at "ri"
    refine ⟨u, t, rfl, hTT.keep e.keepT, by omega, fun r H2 zs ss e2 fr hr hP hA => ⟨r, rfl, ⟨_, SqL.of hr⟩, ?_⟩⟩
    have lz := Paired.length hP
    have nrd : r ≠ d := fun z => by rw [z, hd] at fr; cases fr
    have hl6 : ∀ j x, x ∈ (ss.take j).flatMap Tm.here → x ∈ t.ltrs := fun j x hx => (hA.ltrs x).mp (by
      rw [← List.take_append_drop j ss, List.flatMap_append]
      exact List.mem_append_left _ hx)
    refine for_list (D := { nx := _, rt := Q }) (xs := zs) (fun j σ' H3 => ∃ (x3 : Option V) (ys : List Str), σ' = [some (.ref a), some (.ref d), some u, x3] ∧ Same H H3 ∧ KeepT K H2 H3 ∧ H3 r = some (.lst zs) ∧ H3 d = some (.lst (ys.map V.str)) ∧ ys.Nodup ∧ ∀ x, x ∈ ys ↔ (x ∈ xs ∨ x ∈ (ss.take j).flatMap Tm.here)) ⟨_, xs, rfl, e.trans e2, fun _ _ z => z, hr, e2 _ _ hd, nd, fun x => by simp⟩ (fun j σ' H3 _ ⟨_, _, _, _, _, h, _⟩ => SqL.of h) (fun j v σ' H3 hv hp => ?_) (fun σ' H3 hp => ?_)
    · obtain ⟨x3, ys, rfl, e3, kk, h3r, h3d, ynd, hym⟩ := hp
      obtain ⟨s', hs', hsT⟩ := paired_get hP hv
      have hsT' := hsT.keep kk
      have yl : ys.length ≤ 6 := Nat.le_trans (len_le_sub ynd fun x hx => ((hym x).mp hx).elim (fun z => sub i x ((hm x).mp z)) (fun z => ltrs_inW tW x (hl6 j x z))) hwl
      have eh : (ss.take (j + 1)).flatMap Tm.here = (ss.take j).flatMap Tm.here ++ s'.here := by
        rw [take_snoc hs', List.flatMap_append]
        show _ ++ (s'.here ++ []) = _
        rw [List.append_nil]
      have stay : s'.here = [] → ∀ x, x ∈ ys ↔ (x ∈ xs ∨ x ∈ (ss.take (j + 1)).flatMap Tm.here) := fun z x => by rw [eh, z, List.append_nil]; exact hym x
      walk_at "rd"
      cases s' with
      | low =>
        obtain ⟨b, rfl, hs⟩ := isT_low.mp hsT'
        refine ⟨b, rfl, _, hs, _, rfl, rfl, ?_⟩
        rw [if_neg (by decide), if_neg (by decide)]
        exact ⟨e3, kk, h3r, ys, h3d, ynd, stay rfl⟩
      | ltr y =>
        obtain ⟨b, rfl, hs⟩ := isT_ltr.mp hsT'
        refine ⟨b, rfl, _, hs, _, rfl, rfl, ?_⟩
        rw [if_pos (by decide)]
        refine ⟨b, rfl, _, hs, _, rfl, _, .inl (SqL.of h3d), rfl, strs_flat _, ?_⟩
        rw [if_pos trivial, in_strs]
        by_cases hy : y ∈ ys
        · rw [decide_eq_true hy, if_neg (by decide)]
          refine ⟨e3, kk, h3r, ys, h3d, ynd, fun x => ?_⟩
          rw [eh]
          show _ ↔ (x ∈ xs ∨ x ∈ _ ++ [y])
          rw [List.mem_append, List.mem_singleton, ← or_assoc, ← hym x]
          exact ⟨.inl, fun z => z.elim id fun z => by rw [z]; exact hy⟩
        · rw [decide_eq_false hy, if_pos (by decide)]
          refine ⟨.inl ⟨rfl, _, SqL.of h3d⟩, b, rfl, _, hs, _, rfl, _, h3d, by rw [List.length_map]; exact small1M (by omega), e3.write f1, kk.trans (keepT_lst h3d), by rw [upd_ne nrd]; exact h3r, ys ++ [y], ?_, ?_, fun x => ?_⟩
          · rw [upd_same, List.map_append]; rfl
          · rw [List.nodup_append]
            exact ⟨ynd, by simp, fun a ha b hb => by rw [List.mem_singleton.mp hb]; exact fun z => hy (z ▸ ha)⟩
          · rw [eh]
            show _ ↔ (x ∈ xs ∨ x ∈ _ ++ [y])
            rw [List.mem_append, List.mem_append, List.mem_singleton, ← or_assoc, ← hym x]
      | nd kd a1 b1 =>
        obtain ⟨b, vx, vy, rfl, hs, _⟩ := isT_nd.mp hsT'
        refine ⟨b, rfl, _, hs, _, rfl, rfl, ?_⟩
        rw [if_neg (by cases kd <;> decide), if_neg (by decide)]
        exact ⟨e3, kk, h3r, ys, h3d, ynd, stay rfl⟩
    · obtain ⟨x3, ys, rfl, e3, kk, h3r, h3d, ynd, hym⟩ := hp
      refine ⟨_, _, rfl, e3, ys, h3d, ynd, fun x => ?_⟩
      rw [hym x, lz, List.take_length, hA.ltrs x, hm x, take_snoc ht]
      constructor
      · rintro (⟨t', h1, h2⟩ | h)
        · exact ⟨t', List.mem_append_left _ h1, h2⟩
        · exact ⟨t, List.mem_append_right _ (List.mem_singleton.mpr rfl), h⟩
      · rintro ⟨t', h1, h2⟩
        rcases List.mem_append.mp h1 with z | z
        · exact .inl ⟨t', z, h2⟩
        · rw [List.mem_singleton.mp z] at h2; exact .inr h2
  rintro σ2 H2 ⟨x2, x3, xs, rfl, e2, h2, nd, hm⟩
  walk_at "rd"
  have xl : xs.length ≤ 6 := Nat.le_trans (len_le_sub nd fun x hx => sub ts.length x (by rw [List.take_length]; exact (hm x).mp hx)) hwl
  refine ⟨_, SqL.of h2, by omega, fun l ys hl hpm hso => q l _ ys (e2.trans (same_new hl _)) (e2.free hl) upd_same (by rw [hpm.length_eq]; exact xl) fun x => ?_⟩
  rw [hpm.mem_iff, hm x]
end
set_option Elab.async false
set_option linter.all false
set_option maxRecDepth 100000
set_option maxHeartbeats 4000000
local macro_rules | `(tactic| walk_at "rd") => `(tactic| walk_at "rdx_3")
local macro_rules | `(tactic| walk_at "ri") => `(tactic| walk_at "rdx_4")
abbrev s_folded : Stmt := top 4
theorem sc_folded : FnScope ["statement", "of_simple", "of_pair", "told", "piece", "first", "second"] ["statement", "of_simple", "of_pair"] (defScope s_folded) := ⟨rfl, rfl, rfl, by decide +kernel, rfl, by decide +kernel, by decide +kernel⟩
theorem paired_snoc_inv {α β : Type} {F : α → β → Prop} : ∀ {l : List α} {m : List β} {y : β}, Paired F l (m ++ [y]) → ∃ l' x, l = l' ++ [x] ∧ Paired F l' m ∧ F x y
  | _, [], _, h => by
    cases h with
    | cons hx t => cases t; exact ⟨[], _, rfl, .nil, hx⟩
  | _, z :: m, _, h => by
    cases h with
    | cons hx t =>
      obtain ⟨l', x, rfl, h1, h2⟩ := paired_snoc_inv t
      exact ⟨_ :: l', x, rfl, .cons hx h1, h2⟩
section
variable {P : Program} {w : World} {K : PySem.W.Frag} {mg : Str → Option Value} {base : Heap}
theorem ok_foldedV {k : Nat} {H0 : Hp} {Pz : Tm → Prop} {tf : Tm → V} {ps_of_simple ps_of_pair : List Str} {f_folded : Addr} {fd_folded : FuncData} (F_folded : Fun K "folded" "folded" s_folded f_folded fd_folded) {f_pieces : Addr} {fd_pieces : FuncData} (G_pieces : FnOk P w K mg base CX0 k f_pieces fd_pieces ["statement"] (sp_pieces K)) (m_pieces : mg "pieces" = some (.ref f_pieces)) (k_pieces : PySem.W.keepIn K (.ref f_pieces) = true) (b_pieces : Binds K fd_pieces ["statement"] []) {aPAIRED : Addr} (m_PAIRED : mg "PAIRED" = some (.ref aPAIRED)) (t_PAIRED : ∀ H, SqT K H aPAIRED [.str "both", .str "one", .str "then"]) (m_reversed : mg "reversed" = none)
    {f_of_simple : Addr} {fd_of_simple : FuncData} (G_of_simple : FnOk P w K mg base CX0 k f_of_simple fd_of_simple ps_of_simple (sp_of1V K H0 Pz tf)) (k_of_simple : PySem.W.keepIn K (.ref f_of_simple) = true) (b_of_simple : Binds K fd_of_simple ps_of_simple [])
    {f_of_pair : Addr} {fd_of_pair : FuncData} (G_of_pair : FnOk P w K mg base CX0 k f_of_pair fd_of_pair ps_of_pair (sp_of2V H0 Pz tf)) (k_of_pair : PySem.W.keepIn K (.ref f_of_pair) = true) (b_of_pair : Binds K fd_of_pair ps_of_pair []) : FnOk P w K mg base CX0 (k + 1) f_folded fd_folded ["statement", "of_simple", "of_pair"] (sp_foldedV K H0 Pz tf f_of_simple f_of_pair) := by
  refine F_folded.ok sc_folded (fun vs H Q E h => ?_) (fun cdv A outer s H vs Q E hr h => ?_)
  · obtain ⟨v, t, rfl, _⟩ := h
    rfl
  obtain ⟨v, t, rfl, rfl, hT, hp, hPz, q⟩ := h
  refine ⟨_, (pss_cons (ps_set (i := 3) sc_folded.nd rfl (Or.inl rfl) (pe_lst pa_nil))
  (pss_cons (ps_for PassesOwn.never rfl (pi_rev rfl m_reversed (pa_cons (pe_call G_pieces hr (by exact rfl) m_pieces k_pieces b_pieces .nil pass0 (pa_cons (pv 0) pa_nil)) pa_nil)) (pg_name (i := 4) sc_folded.nd rfl (Or.inl rfl))
    (pss_one (ps_if (pt_cmpR (op_in_seq) (pe_ix ix_tup (pv 4) pe_int (fun _ _ => rfl)) (pe_glob (v := .ref aPAIRED) (by exact rfl) m_PAIRED (by exact rfl)) (by with_unfolding_all rfl))
    (pss_cons (ps_set (i := 5) sc_folded.nd rfl (Or.inl rfl) (pe_bm0 PySem.F.plainAttrs_list PySem.F.slot_list_pop PySem.F.type_list_pop mt_pop (pv 3)))
  (pss_cons (ps_set (i := 6) sc_folded.nd rfl (Or.inl rfl) (pe_bm0 PySem.F.plainAttrs_list PySem.F.slot_list_pop PySem.F.type_list_pop mt_pop (pv 3)))
  (pss_one (ps_expr (pe_bm PySem.F.plainAttrs_list PySem.F.slot_list_append PySem.F.type_list_append mt_append (pv 3) (pa_cons (pe_callL (i := 2) G_of_pair hr rfl (Or.inl rfl) k_of_pair b_of_pair .nil pass0 (pa_cons (pe_ix ix_tup (pv 4) pe_int (fun _ _ => rfl)) (pa_cons (pv 5) (pa_cons (pv 6) pa_nil)))) pa_nil))))))
    (pss_one (ps_expr (pe_bm PySem.F.plainAttrs_list PySem.F.slot_list_append PySem.F.type_list_append mt_append (pv 3) (pa_cons (pe_callL (i := 1) G_of_simple hr rfl (Or.inl rfl) k_of_simple b_of_simple .nil pass0 (pa_cons (pv 4) pa_nil)) pa_nil)))))))
  (pss_one (ps_ret (pe_ix ix_list (pv 3) pe_int (fun _ _ => rfl)))))), ?_⟩
  refine seq_then (fun σ' H' => ∃ l, σ' = [some v, some (.ref f_of_simple), some (.ref f_of_pair), some (.ref l), none, none, none] ∧ Same H H' ∧ H l = none ∧ H' l = some (.lst [])) ?_ ?_
  rotate_left
  · intro C hC
    walk_at "rd"
    exact ⟨by decide, fun l hl => hC _ _ ⟨l, rfl, same_new hl _, hl, upd_same⟩⟩
  rintro σ1 H1 ⟨l, rfl, e1, f1, h1⟩
  refine seq_then (fun σ' H' => ∃ x4 x5 x6, σ' = [some v, some (.ref f_of_simple), some (.ref f_of_pair), some (.ref l), x4, x5, x6] ∧ Same H H' ∧ H' l = some (.lst [(tf t)])) ?_ ?_
  rotate_left
  · intro C hC
    walk_at "ri"
    refine ⟨v, t, rfl, hT.keep e1.keepT, by omega, fun r H2 us e2 f2 h2 hu => ⟨r, rfl, us, SqL.of h2, ?_⟩⟩
    have lu := Paired.length hu
    have l2 := e2 l _ h1
    have nrl : r ≠ l := fun z => by rw [z] at f2; rw [f2] at h1; cases h1
    refine for_rev (D := { nx := C, rt := Q }) (xs := us) (fun i σ' H' => ∃ x4 x5 x6 ts fs, σ' = [some v, some (.ref f_of_simple), some (.ref f_of_pair), some (.ref l), x4, x5, x6] ∧ Same H H' ∧ KeepT K H2 H' ∧ H' r = some (.lst us) ∧ H' l = some (.lst ts) ∧ Paired (fun u s => u = (tf s)) ts fs.reverse ∧ fs.flatMap Tm.pre = t.pre.drop (us.length - i) ∧ ts.length ≤ i)
      ⟨none, none, none, [], [], rfl, e1.trans e2, fun _ _ z => z, h2, l2, .nil, ?_, Nat.le_refl _⟩ (fun i σ' H' _ ⟨x4, x5, x6, ts, fs, _, _, _, h, _⟩ => SqL.of h) (fun i x σ' H' hi hx hI => ?_) (fun σ' H' hI => ?_)
    · rw [Nat.sub_zero, lu, List.drop_length]; rfl
    · obtain ⟨x4, x5, x6, ts, fs, rfl, e, kk, hr', hl', hp', hf, hn⟩ := hI
      obtain ⟨s', hs', hxT⟩ := paired_get hu hx
      have hj : us.length - 1 - i < t.pre.length := by rw [← lu]; omega
      obtain ⟨s2, rest, g1, g2, g3⟩ := pre_drop t _ hj
      rw [hs'] at g1
      cases g1
      have hxT' := hxT.keep kk
      have pz := hPz s' (List.mem_of_getElem? hs')
      have ej : us.length - i = us.length - 1 - i + 1 := by omega
      have dr : t.pre.drop (us.length - i) = s'.kids.flatMap Tm.pre ++ rest := by
        have := congrArg List.tail g2
        rw [List.tail_drop, ← ej, s'.pre_eq, List.cons_append, List.tail_cons] at this
        exact this
      rw [dr] at hf
      have eu : us.length - (i + 1) = us.length - 1 - i := by omega
      have lp : t.pre.length ≤ 400 := by rw [Tm.pre_len]; omega
      have fin : ∀ (ts' : List V) (fs' : List Tm) (H4 : Hp) (u : V), Same H H4 → KeepT K H2 H4 → H4 r = some (.lst us) → H4 l = some (.lst ts') → Paired (fun u s => u = (tf s)) ts' fs'.reverse → ts'.length ≤ i → fs'.flatMap Tm.pre = rest → u = (tf s') →
          Same H (upd H4 l (HO.lst (ts' ++ [u]))) ∧ KeepT K H2 (upd H4 l (HO.lst (ts' ++ [u]))) ∧ upd H4 l (HO.lst (ts' ++ [u])) r = some (HO.lst us) ∧
            ∃ x, upd H4 l (HO.lst (ts' ++ [u])) l = some (HO.lst x) ∧ ∃ x_1, Paired (fun u' s => u' = (tf s)) x x_1.reverse ∧ List.flatMap Tm.pre x_1 = List.drop (us.length - (i + 1)) t.pre ∧ x.length ≤ i + 1 := fun ts' fs' H4 u a1 a2 a3 a4 a5 a6 a7 a8 => by
        refine ⟨a1.write f1, a2.trans (keepT_lst a4), by rw [upd_ne nrl]; exact a3, _, upd_same, s' :: fs', ?_, ?_, ?_⟩
        · rw [List.reverse_cons]; exact paired_app a5 (.cons a8 .nil)
        · rw [List.flatMap_cons, a7, eu, g2]
        · rw [List.length_append, List.length_singleton]; omega
      walk_at "rd"
      cases s' with
      | low =>
        obtain ⟨a, rfl, hs⟩ := isT_low.mp hxT'
        refine ⟨a, rfl, _, hs, _, rfl, _, .inr (t_PAIRED H'), rfl, rfl, ?_⟩
        rw [if_neg (by decide)]
        refine ⟨.inl ⟨rfl, _, SqL.of hl'⟩, _, .low, rfl, e, hxT', rfl, pz, fun H3 e3 => ?_⟩
        exact ⟨_, e3 _ _ hl', small1M (by omega), fin ts fs H3 _ (e.trans e3) (kk.trans e3.keepT) (e3 _ _ hr') (e3 _ _ hl') hp' hn hf rfl⟩
      | ltr w =>
        obtain ⟨a, rfl, hs⟩ := isT_ltr.mp hxT'
        refine ⟨a, rfl, _, hs, _, rfl, _, .inr (t_PAIRED H'), rfl, rfl, ?_⟩
        rw [if_neg (by decide)]
        refine ⟨.inl ⟨rfl, _, SqL.of hl'⟩, _, .ltr w, rfl, e, hxT', rfl, pz, fun H3 e3 => ?_⟩
        exact ⟨_, e3 _ _ hl', small1M (by omega), fin ts fs H3 _ (e.trans e3) (kk.trans e3.keepT) (e3 _ _ hr') (e3 _ _ hl') hp' hn hf rfl⟩
      | nd kd a b =>
        obtain ⟨p, vx, vy, rfl, hs, hx1, hy1⟩ := isT_nd.mp hxT'
        refine ⟨p, rfl, _, hs, _, rfl, _, .inr (t_PAIRED H'), rfl, rfl, ?_⟩
        rw [if_pos (by cases kd <;> decide)]
        rw [show Tm.kids (.nd kd a b) = [a, b] from rfl, List.flatMap_cons, List.flatMap_cons, List.flatMap_nil, List.append_nil, List.append_assoc] at hf
        obtain ⟨fs1, rfl, hf1⟩ := forest_head hf
        obtain ⟨fs2, rfl, hf2⟩ := forest_head hf1
        rw [List.reverse_cons, List.reverse_cons] at hp'
        obtain ⟨ts1, u1, rfl, hp1, r1⟩ := paired_snoc_inv hp'
        obtain ⟨ts2, u2, rfl, hp2, r2⟩ := paired_snoc_inv hp1
        rw [List.length_append, List.length_append, List.length_singleton, List.length_singleton] at hn
        subst r1 r2
        refine ⟨.inl ⟨rfl, _, SqL.of hl'⟩, _, hl', (tf a), by simp, ?_⟩
        rw [List.dropLast_concat]
        refine ⟨.inl ⟨rfl, _, SqL.of upd_same⟩, _, upd_same, (tf b), by simp, ?_⟩
        rw [List.dropLast_concat, upd_upd]
        have k1 : KeepT K H' (upd H' l (.lst ts2)) := keepT_lst hl'
        have hr1 : upd H' l (.lst ts2) r = some (.lst us) := by rw [upd_ne nrl]; exact hr'
        refine ⟨.inl ⟨rfl, _, SqL.of upd_same⟩, p, rfl, _, k1 _ _ hs, _, rfl, kd, a, b, rfl, e.write f1, pz, fun H3 e3 => ?_⟩
        exact ⟨_, e3 _ _ upd_same, small1M (by omega), fin ts2 fs2 H3 _ ((e.write f1).trans e3) ((kk.trans k1).trans e3.keepT) (e3 _ _ hr1) (e3 _ _ upd_same) hp2 (by omega) hf2 rfl⟩
    · obtain ⟨x4, x5, x6, ts, fs, rfl, e, kk, hr', hl', hp', hf, hn⟩ := hI
      rw [Nat.sub_self, List.drop_zero, ← List.append_nil t.pre] at hf
      obtain ⟨fs', rfl, hf'⟩ := forest_head hf
      rw [forest_nil hf'] at hp'
      cases hp' with
      | cons hu' hnil =>
        cases hnil
        subst hu'
        exact hC _ _ ⟨x4, x5, x6, rfl, e, hl'⟩
  rintro σ2 H2 ⟨x4, x5, x6, rfl, e2, h2⟩
  walk_at "rd"
  exact ⟨_, SqL.of h2, _, rfl, q _ e2⟩
end
set_option Elab.async false
set_option linter.all false
set_option maxRecDepth 100000
set_option maxHeartbeats 4000000
local macro_rules | `(tactic| walk_at "rd") => `(tactic| walk_at "rdx_3")
local macro_rules | `(tactic| walk_at "ri") => `(tactic| walk_at "rdx_4")
abbrev s_column : Stmt := top 9
theorem sc_column : FnScope ["statement", "columns", "everywhere", "of_simple", "of_pair"] ["statement", "columns", "everywhere"] (defScope s_column) := ⟨rfl, rfl, rfl, by decide +kernel, rfl, by decide +kernel, by decide +kernel⟩
abbrev s_column_of_simple : Stmt := inDef s_column 0
theorem sc_column_of_simple : FnScopeC ["piece", "columns"] ["piece"] ["columns"] (defScope s_column_of_simple) := ⟨rfl, rfl, rfl, by decide +kernel, rfl, by decide +kernel, by decide +kernel, by decide +kernel⟩
abbrev q_column_of_simple : Str := ("column" : Str) ++ Str.ofString ".<locals>." ++ "of_simple"
theorem cl_column_of_simple : ∀ y ∈ (defScope s_column_of_simple).names, y.2 = NameKind.free → (defScope s_column).names.lookup y.1 = some NameKind.cell := by decide +kernel
abbrev s_column_of_pair : Stmt := inDef s_column 1
theorem sc_column_of_pair : FnScopeC ["kind", "first", "second", "everywhere"] ["kind", "first", "second"] ["everywhere"] (defScope s_column_of_pair) := ⟨rfl, rfl, rfl, by decide +kernel, rfl, by decide +kernel, by decide +kernel, by decide +kernel⟩
abbrev q_column_of_pair : Str := ("column" : Str) ++ Str.ofString ".<locals>." ++ "of_pair"
theorem cl_column_of_pair : ∀ y ∈ (defScope s_column_of_pair).names, y.2 = NameKind.free → (defScope s_column).names.lookup y.1 = some NameKind.cell := by decide +kernel
def ds_column : List (Pos × Str) := [(posOf s_column_of_simple, q_column_of_simple), (posOf s_column_of_pair, q_column_of_pair)]
def InC (us : List Str) (t : Tm) : Prop := ∀ x ∈ t.ltrs, x ∈ us
theorem rem_keep {xs : List (Addr × Obj)} {H : Hp} (hx : ∀ p ∈ xs, H p.1 = some (FZ p.2)) {b : Addr} {u : HO} (e : H b = some u) (n : ∀ o, u ≠ FZ o) : remX xs H b = some u := by
  rw [remX_out fun z => ?_]
  · exact e
  · obtain ⟨p, hp, rfl⟩ := List.mem_map.mp z
    rw [hx p hp] at e
    cases e
    exact n p.2 rfl
section
variable {P : Program} {w : World} {K : PySem.W.Frag} {mg : Str → Option Value} {base : Heap}
theorem ok_column_of_simple {k : Nat} {cl : List (Str × Addr)} {f : Addr} {fd : FuncData} (F : FunC K "of_simple" q_column_of_simple s_column_of_simple cl f fd) {d : Addr} {us : List Str} {cs : List Nat} {H0 : Hp} (C : Caught K (defScope s_column_of_simple) cl ["columns"] [.ref d])
    (hd0 : H0 d = some (.dK (colD us cs))) (hn : us.Nodup) (hC : Cols us.length cs) :
    FnOk P w K mg base CX0 (k + 1) f fd ["piece"] (sp_of1V K H0 (InC us) (fun t => .int ((colT us cs t : Nat) : Int))) := by
  refine F.ok sc_column_of_simple C (fun vs H Q E h => ?_) (fun cdv A outer s H vs Q E hr h => ?_)
  · obtain ⟨v, t, rfl, _⟩ := h
    rfl
  obtain ⟨v, t, rfl, e, hT, hkd, hI, q⟩ := h
  refine ⟨_, (pss_one (ps_ret (pe_ifExp (pt_cmpR (op_eq) (pe_ix ix_tup (pv 0) pe_int (fun _ _ => rfl)) pe_str (nomark _)) (pe_dget (hu_of hr) (pv 1) (pe_ix ix_tup (pv 0) pe_int (fun _ _ => rfl)) (fun _ _ => rfl)) pe_int))), ?_⟩
  walk_at "rd"
  cases t with
  | low =>
    obtain ⟨a, rfl, hs⟩ := isT_low.mp hT
    refine ⟨a, rfl, _, hs, _, rfl, rfl, ?_⟩
    rw [if_neg (by decide)]
    exact q _ (Same.refl _)
  | ltr y =>
    obtain ⟨a, rfl, hs⟩ := isT_ltr.mp hT
    refine ⟨a, rfl, _, hs, _, rfl, rfl, ?_⟩
    rw [if_pos rfl]
    have hy : y ∈ us := hI y (List.mem_singleton.mpr rfl)
    obtain ⟨j, hj, ej⟩ := List.getElem_of_mem hy
    have h1 : us[j]? = some y := by rw [List.getElem?_eq_getElem hj, ej]
    have hj' : j < cs.length := by rw [hC.len]; exact hj
    have h2 : cs[j]? = some cs[j] := List.getElem?_eq_getElem hj'
    have g := DGet.k (k := Sum.inr y) (e _ _ hd0)
    rw [colD_val hn h1 h2] at g
    have q0 : Q (.int ((colT us cs (.ltr y) : Nat) : Int)) H := q H (Same.refl _)
    have eq : colT us cs (.ltr y) = cs[j] := colF_at hn h1 h2
    rw [eq] at q0
    exact ⟨a, rfl, _, hs, _, rfl, _, g, q0⟩
  | nd kd a b => cases hkd
theorem ok_column_of_pair {k : Nat} {cl : List (Str × Addr)} {f : Addr} {fd : FuncData} (F : FunC K "of_pair" q_column_of_pair s_column_of_pair cl f fd) {us : List Str} {cs : List Nat} {H0 : Hp} (C : Caught K (defScope s_column_of_pair) cl ["everywhere"] [.int ((2 ^ 2 ^ us.length - 1 : Nat) : Int)])
    (hn : us.Nodup) (hC : Cols us.length cs) :
    FnOk P w K mg base CX0 (k + 1) f fd ["kind", "first", "second"] (sp_of2V H0 (InC us) (fun t => .int ((colT us cs t : Nat) : Int))) := by
  refine F.ok sc_column_of_pair C (fun vs H Q E h => ?_) (fun cdv A outer s H vs Q E hr h => ?_)
  · obtain ⟨_, _, _, rfl, _⟩ := h
    rfl
  obtain ⟨kd, a, b, rfl, e, hI, q⟩ := h
  refine ⟨_, (pss_cons (ps_if (pt_cmpR (op_eq) (pv 0) pe_str (nomark _))
    (pss_one (ps_ret (pe_op op_and (pv 1) (pv 2))))
    pss_nil)
  (pss_cons (ps_if (pt_cmpR (op_eq) (pv 0) pe_str (nomark _))
    (pss_one (ps_ret (pe_op op_or (pv 1) (pv 2))))
    pss_nil)
  (pss_one (ps_ret (pe_op op_or (pe_op op_xor (pv 3) (pv 1)) (pv 2)))))), ?_⟩
  walk_at "rd"
  have q0 := q H (Same.refl _)
  cases kd with
  | both =>
    rw [if_pos (by decide), and_nat]
    exact q0
  | one =>
    rw [if_neg (by decide), if_pos (by decide), or_nat]
    exact q0
  | thn =>
    rw [if_neg (by decide), if_neg (by decide), xor_ones (colT_is hn hC a fun x hx => hI x (List.mem_append_left _ hx)).lt, or_nat]
    exact q0
end
set_option Elab.async false
set_option linter.all false
set_option maxRecDepth 100000
set_option maxHeartbeats 4000000
local macro_rules | `(tactic| walk_at "rd") => `(tactic| walk_at "rdx_3")
local macro_rules | `(tactic| walk_at "ri") => `(tactic| walk_at "rdx_4")
section
variable {P : Program} {w : World} {K : PySem.W.Frag} {mg : Str → Option Value} {base : Heap}
theorem ok_column {j : Nat} {T : Addr} {f_column : Addr} {fd_column : FuncData} (F_column : FunT K "column" "column" s_column f_column fd_column T) (hB : ∀ h, K.In h → h.BuiltinsAt mg T) (hT : mainGlobals ≠ T)
    {f_folded : Addr} {fd_folded : FuncData} (m_folded : mg "folded" = some (.ref f_folded)) (k_folded : PySem.W.keepIn K (.ref f_folded) = true) (b_folded : Binds K fd_folded ["statement", "of_simple", "of_pair"] [])
    (GF : ∀ (K' : PySem.W.Frag) (base : Heap) (H0 : Hp) (Pz : Tm → Prop) (tf : Tm → V) (f1 f2 : Addr) (fd1 fd2 : FuncData), KLe K K' →
      FnOk P w K' mg base CX0 (j + 1) f1 fd1 ["piece"] (sp_of1V K' H0 Pz tf) → PySem.W.keepIn K' (.ref f1) = true → Binds K' fd1 ["piece"] [] →
      FnOk P w K' mg base CX0 (j + 1) f2 fd2 ["kind", "first", "second"] (sp_of2V H0 Pz tf) → PySem.W.keepIn K' (.ref f2) = true → Binds K' fd2 ["kind", "first", "second"] [] →
      FnOk P w K' mg base CX0 (j + 2) f_folded fd_folded ["statement", "of_simple", "of_pair"] (sp_foldedV K' H0 Pz tf f1 f2)) :
    FnOk P w K mg base CX0 (j + 3) f_column fd_column ["statement", "columns", "everywhere"] (sp_column K T ds_column) := by
  refine F_column.ok sc_column (fun vs H Q E h => ?_) (fun c A outer s H vs Q E hC hr h => ?_)
  · obtain ⟨v, t, d, us, cs, rfl, _⟩ := h
    rfl
  obtain ⟨v, t, d, us, cs, rfl, hTt, hp, hd0, hn, hCs, hI, tab, q⟩ := h
  have hix : ∀ i ∈ ([1, 2] : List Nat), ∃ x, (["statement", "columns", "everywhere", "of_simple", "of_pair"] : List Str)[i]? = some x ∧ (defScope s_column).names.lookup x = some .cell ∧ (fun _ : Str => true) x = true := by
    intro i hi
    simp only [List.mem_cons, List.not_mem_nil, or_false] at hi
    rcases hi with rfl | rfl
    · exact ⟨"columns", rfl, rfl, rfl⟩
    · exact ⟨"everywhere", rfl, rfl, rfl⟩
  refine ⟨_, (pss_cons (ps_defS (st := s_column_of_simple) (i := 3) (qual := q_column_of_simple) (ds := ds_column) rfl sc_column.nd rfl (Or.inl rfl) (closureFor_eq (fun y hy hf => cell_has (cl_column_of_simple y hy hf))) rfl hC hB hT rfl (by simp [ds_column]) (by decide +kernel) rfl rfl rfl)
  (pss_cons (ps_defS (st := s_column_of_pair) (i := 4) (qual := q_column_of_pair) (ds := ds_column) rfl sc_column.nd rfl (Or.inl rfl) (closureFor_eq (fun y hy hf => cell_has (cl_column_of_pair y hy hf))) rfl hC hB hT rfl (by simp [ds_column]) (by decide +kernel) rfl rfl rfl)
  (pss_one (ps_ret (pe_callG (ix := [1, 2]) hr (by exact rfl) m_folded k_folded b_folded hix (pa_cons (pv 0) (pa_cons (pv 3) (pa_cons (pv 4) pa_nil)))))))), ?_⟩
  generalize hX : (cxOf CX0 P w K mg base ["statement", "columns", "everywhere", "of_simple", "of_pair"] "column" (defScope s_column) f_column (.ref c) A outer s H E).nox = X
  have eP : X.prog = P := by rw [← hX]; rfl
  have ew : X.w = w := by rw [← hX]; rfl
  have eK : X.K = K := by rw [← hX]; rfl
  have em : X.mg = mg := by rw [← hX]; rfl
  have eN : X.N = (["statement", "columns", "everywhere", "of_simple", "of_pair"] : List Str) := by rw [← hX]; rfl
  have ec : (PyProof.Rows.envOfC "column" (defScope s_column) s.heap.objs.size f_column (.ref c)).cells = X.env.cells := by rw [← hX]; rfl
  refine seq_then (fun σ' H' => ∃ f1, σ' = [some v, some (.ref d), some (.int ((2 ^ 2 ^ us.length - 1 : Nat) : Int)), some (.ref f1), none] ∧ SameU T H H' ∧ TabOk H' T ds_column ∧ FnFz H' f1 "of_simple" q_column_of_simple (defArgs s_column_of_simple) (defBody s_column_of_simple) (defScope s_column_of_simple) (closL X.env.cells (defScope s_column_of_simple).names [])) ?_ ?_
  rotate_left
  · intro C hC'
    exact ⟨tab, fun f H' n sm tb fn => hC' _ _ ⟨f, rfl, sm, tb, ec ▸ fn⟩⟩
  rintro σ1 H1 ⟨f1, rfl, s1, tb1, fn1⟩
  refine seq_then (fun σ' H' => ∃ f2, σ' = [some v, some (.ref d), some (.int ((2 ^ 2 ^ us.length - 1 : Nat) : Int)), some (.ref f1), some (.ref f2)] ∧ SameU T H1 H' ∧ TabOk H' T ds_column ∧ FnFz H' f2 "of_pair" q_column_of_pair (defArgs s_column_of_pair) (defBody s_column_of_pair) (defScope s_column_of_pair) (closL X.env.cells (defScope s_column_of_pair).names [])) ?_ ?_
  rotate_left
  · intro C hC'
    exact ⟨tb1, fun f H' n sm tb fn => hC' _ _ ⟨f, rfl, sm, tb, ec ▸ fn⟩⟩
  rintro σ2 H2 ⟨f2, rfl, s2, tb2, fn2⟩
  have fn1 := fn1.keep s2.toT
  have s3 := s1.trans s2
  obtain ⟨o1, c1, p1, a1, a2, a3, a4, a5⟩ := fn1.objs
  obtain ⟨o2, c2, p2, b1, b2, b3, b4, b5⟩ := fn2.objs
  show tCallG X _ _ _ _ [1, 2] _ _ _ _
  unfold tCallG
  walk_at "rd"
  refine ⟨fun i hi => ?_, [(f1, o1), (c1, p1), (f2, o2), (c2, p2)], ?_, fun K' cells ok kle kback hlk hcs => ?_⟩
  · simp only [List.mem_cons, List.not_mem_nil, or_false] at hi
    rcases hi with rfl | rfl
    · exact ⟨_, rfl⟩
    · exact ⟨_, rfl⟩
  · intro p hp
    simp only [List.mem_cons, List.not_mem_nil, or_false] at hp
    rcases hp with rfl | rfl | rfl | rfl
    · exact a1
    · exact a2
    · exact b1
    · exact b2
  have hfz : ∀ p ∈ [(f1, o1), (c1, p1), (f2, o2), (c2, p2)], H2 p.1 = some (FZ p.2) := by
    intro p hp
    simp only [List.mem_cons, List.not_mem_nil, or_false] at hp
    rcases hp with rfl | rfl | rfl | rfl
    · exact a1
    · exact a2
    · exact b1
    · exact b2
  generalize hxs : [(f1, o1), (c1, p1), (f2, o2), (c2, p2)] = zs at hlk hfz kback ⊢
  have mem1 : (f1, o1) ∈ zs ∧ (c1, p1) ∈ zs ∧ (f2, o2) ∈ zs ∧ (c2, p2) ∈ zs := by rw [← hxs]; simp
  have lk : ∀ {p : Addr × Obj}, p ∈ zs → K'.lookup p.1 = some p.2 := fun hp => hlk _ (List.mem_append_left _ hp)
  obtain ⟨fd1, G1⟩ := a5 K' (lk mem1.1) (lk mem1.2.1)
  obtain ⟨fd2, G2⟩ := b5 K' (lk mem1.2.2.1) (lk mem1.2.2.2)
  rw [eK] at kle kback
  have cw : CellIn X K' "columns" (.ref d) ∧ CellIn X K' "everywhere" (.int ((2 ^ 2 ^ us.length - 1 : Nat) : Int)) ∧ ∀ p ∈ cells, ∀ its n, p.2.data ≠ .seq its n := by
    cases hcs with
    | cons h1 r1 =>
      cases r1 with
      | cons h2 r2 =>
        cases r2
        obtain ⟨x1, v1, u1, e1, e2, e3, e4, e5⟩ := h1
        obtain ⟨x2, v2, u2, g1, g2, g3, g4, g5⟩ := h2
        rw [eN] at e1 g1
        cases e1; cases e2; cases g1; cases g2
        refine ⟨⟨_, _, u1, e3, hlk _ (List.mem_append_right _ (by simp)), e4, e5⟩, ⟨_, _, u2, g3, hlk _ (List.mem_append_right _ (by simp)), g4, g5⟩, fun p hp its n z => ?_⟩
        simp only [List.mem_cons, List.not_mem_nil, or_false] at hp
        rcases hp with rfl | rfl
        · rw [e4] at z; cases z
        · rw [g4] at z; cases z
  have C1 : Caught K' (defScope s_column_of_simple) (closL X.env.cells (defScope s_column_of_simple).names []) ["columns"] [.ref d] :=
    caught_of ok rfl (by decide +kernel) (by decide +kernel) fun i y u e1 e2 => by
      match i, e1, e2 with
      | 0, e1, e2 => cases e1; cases e2; exact cw.1
  have C2 : Caught K' (defScope s_column_of_pair) (closL X.env.cells (defScope s_column_of_pair).names []) ["everywhere"] [.int ((2 ^ 2 ^ us.length - 1 : Nat) : Int)] :=
    caught_of ok rfl (by decide +kernel) (by decide +kernel) fun i y u e1 e2 => by
      match i, e1, e2 with
      | 0, e1, e2 => cases e1; cases e2; exact cw.2.1
  have inn := sqT_in hfz kle
  have kd0 : remX zs H2 d = some (.dK (colD us cs)) := rem_keep hfz (s3.toT _ _ (fun _ z => nomatch z) hd0) (fun _ z => nomatch z)
  have hTt' : IsT K' (remX zs H2) v t := Dn.moveT inn t.noList (hTt.keep (SameT.keepT s3.toT))
  generalize hHr : remX zs H2 = Hr at inn kd0 hTt' ⊢
  refine ⟨sp_foldedV K' Hr (InC us) (fun t => .int ((colT us cs t : Nat) : Int)) f1 f2, fun base' => ?_, ?_⟩
  · rw [eP, ew, em]
    exact GF K' base' Hr _ _ f1 f2 fd1 fd2 kle (ok_column_of_simple G1 C1 kd0 hn hCs) G1.kp (G1.binds fun _ _ _ _ us hl => match us, hl with | [_], _ => rfl)
      (ok_column_of_pair G2 C2 hn hCs) G2.kp (G2.binds fun _ _ _ _ us hl => match us, hl with | [_, _, _], _ => rfl)
  · refine ⟨v, t, rfl, rfl, hTt', by omega, fun s hs x hx => hI x (pre_ltrs hs x hx), fun H3 e3 n3 => ?_⟩
    have sb := same_back (H := H2) (xs := zs) (hHr ▸ e3)
    exact q _ (s3.trans sb.toU) (tb2.keep sb)
end
set_option Elab.async false
set_option linter.all false
set_option maxRecDepth 100000
set_option maxHeartbeats 4000000
local macro_rules | `(tactic| walk_at "rdx_7") => `(tactic| simp only [tCompA, kAdd, tIf, rInT, iRev, tCallL, tComp, kNest, kTest, kApp, kPut, tSeq, tAsg, gName, tVar, tC, tOp, rI0, rI, rU, tUn, tRet, tRetN, tIfS, tTest, tB, tNext, tCons, tNil, tCB, tCall, tTup, tLst, tDrop, tAug, ipI, tAnd, tOr, tNot, tAndV, tOrV, tNotV, tBM, tBM0, rAppend, rExtend, rPop, rIxL, rIxT, rIxS, rCat, rEq, rNe, rMulS, tSl, rSlL, rSlS, tPart, tNoPart, tRev, rJoin, tDGet, tDisp, tPairs, tFs, tFv, tFc, tF0, tKD, rIsi, rEqD, tNever, tChain, rIn, rSetL, gSub, iEnum, iStr, tKNotIn, tDIn, tDNotIn, sDPut, gTup, gCons, gNil, iRng1, iRng2, iList, iTup, iZip, iZipT, rRevd, L2.start, capt,
  List.map_cons, List.map_nil, List.length_cons, List.length_nil, List.cons_append, List.nil_append, List.append_nil, List.replicate_succ, List.replicate_zero, Nat.reduceAdd, Nat.reduceSub, Nat.zero_add, Nat.add_zero, Nat.sub_zero, Nat.sub_self, List.getElem?_cons_zero, List.getElem?_cons_succ, List.getElem?_nil, List.set_cons_zero, List.set_cons_succ, Option.some.injEq, V.int.injEq, V.str.injEq, V.ref.injEq, V.bl.injEq, V.ty.injEq, List.cons.injEq, and_true, true_and, exists_eq_left', exists_eq_left, exists_and_left, exists_eq, exists_eq', and_assoc, Option.join_some, Option.join_none, scal_int, scal_str, scal_bl, cxOf_K, cxC_K, cxOf_prog, cxOf_w, blk_prog, blk_w, blk_K, decide_eq_true_eq])
local macro_rules | `(tactic| walk_at "rd") => `(tactic| walk_at "rdx_7")
local macro_rules | `(tactic| walk_at "rdx_8") => `(tactic| simp only [tCompA, kAdd, tIf, rInT, iRev, tCallL, tComp, kNest, kTest, kApp, kPut, tFor, tLC, tVar, tC, tOp, rI0, rI, rU, tUn, tTest, tB, tCons, tNil, tCB, tCall, tTup, tLst, ipI, tAnd, tOr, tNot, tAndV, tOrV, tNotV, tBM, tBM0, rAppend, rExtend, rPop, rIxL, rIxT, rIxS, rCat, rEq, rNe, rMulS, tSl, rSlL, rSlS, tPart, tNoPart, tRev, rJoin, tDGet, tDisp, tPairs, tFs, tFv, tFc, tF0, tKD, rIsi, rEqD, tNever, tChain, rIn, rSetL, iEnum, iStr, tKNotIn, tDIn, tDNotIn, iRng1, iRng2, iList, iTup, iZip, iZipT, rRevd, L2.start, capt,
  List.map_cons, List.map_nil, List.length_cons, List.length_nil, List.cons_append, List.nil_append, List.append_nil, List.replicate_succ, List.replicate_zero, Nat.reduceAdd, Nat.reduceSub, Nat.zero_add, Nat.add_zero, Nat.sub_zero, Nat.sub_self, List.getElem?_cons_zero, List.getElem?_cons_succ, List.getElem?_nil, List.set_cons_zero, List.set_cons_succ, Option.some.injEq, V.int.injEq, V.str.injEq, V.ref.injEq, V.bl.injEq, V.ty.injEq, List.cons.injEq, and_true, true_and, exists_eq_left', exists_eq_left, exists_and_left, exists_eq, exists_eq', and_assoc, Option.join_some, Option.join_none, scal_int, scal_str, scal_bl, cxOf_K, cxC_K, cxOf_prog, cxOf_w, blk_prog, blk_w, blk_K, decide_eq_true_eq])
local macro_rules | `(tactic| walk_at "ri") => `(tactic| walk_at "rdx_8")
abbrev s_letters : Stmt := top 5
theorem sc_letters : FnScope ["statement"] ["statement"] (defScope s_letters) := ⟨rfl, rfl, rfl, by decide +kernel, rfl, by decide +kernel, by decide +kernel⟩
section
variable {P : Program} {w : World} {K : PySem.W.Frag} {mg : Str → Option Value} {base : Heap}
theorem ok_letters {k : Nat} {f_letters : Addr} {fd_letters : FuncData} (F_letters : Fun K "letters" "letters" s_letters f_letters fd_letters) {f_pieces : Addr} {fd_pieces : FuncData} (G_pieces : FnOk P w K mg base CX0 k f_pieces fd_pieces ["statement"] (sp_pieces K)) (m_pieces : mg "pieces" = some (.ref f_pieces)) (k_pieces : PySem.W.keepIn K (.ref f_pieces) = true) (b_pieces : Binds K fd_pieces ["statement"] []) (m_sorted : mg "sorted" = none) : FnOk P w K mg base CX0 (k + 1) f_letters fd_letters ["statement"] (sp_letters K) := by
  refine F_letters.ok sc_letters (fun vs H Q E h => ?_) (fun cdv A outer s H vs Q E hr h => ?_)
  · obtain ⟨v, t, ws, rfl, _⟩ := h
    rfl
  obtain ⟨v, t, ws, rfl, hT, hp, hW, hwl, q⟩ := h
  refine ⟨_, (pss_one (ps_ret (pe_callB (call_sortedS (P := P) (w := w) rfl rfl rfl) (by exact rfl) m_sorted Ken.boot_sorted (pa_cons (pe_sc (P := P) (w := w) rfl rfl (blk0 (N' := ["piece"]) (by decide +kernel) (by decide +kernel) rfl (by decide +kernel)) rfl (pi_list (pe_call G_pieces hr (by exact rfl) m_pieces k_pieces b_pieces .nil pass0 (pa_cons (pv 0) pa_nil))) (fun _ _ _ _ => (pg_name (i := 0) (show (["piece"] : List Str).Nodup from by decide +kernel) rfl (Or.inl rfl))) (fun _ _ => turn_S1 (tg2 := (.Name "" ⟨0, 0, 0, 0⟩)) (iter2 := (.Name "" ⟨0, 0, 0, 0⟩))) (fun _ _ _ _ _ => (pk_test (pt_cmpR (op_eq) (pe_ix (ix_tupK (K := K) rfl) (pv 0) pe_int (fun _ _ => rfl)) pe_str (nomark _)) (pk_emitS (P := P) (w := w) rfl rfl (pe_ix (ix_tupK (K := K) rfl) (pv 0) pe_int (fun _ _ => rfl)))))) pa_nil)))), ?_⟩
  walk_at "rd"
  refine ⟨_, t, rfl, hT, by omega, fun r H1 us e1 f1 h1 hu => ⟨r, rfl, ⟨_, SqL.of h1⟩, fun acc hacc => ?_⟩⟩
  have lu := Paired.length hu
  have hsub : ∀ i x, x ∈ (t.pre.take i).flatMap Tm.here → x ∈ ws := fun i x hx => ltrs_inW hW x (by
    rw [← pre_here, ← List.take_append_drop i t.pre, List.flatMap_append]
    exact List.mem_append_left _ hx)
  refine comp_list (xs := us) (fun i H' => Same H1 H' ∧ ∃ xs, H' acc = some (setO P w acc xs) ∧ xs.Nodup ∧ ∀ x, x ∈ xs ↔ x ∈ (t.pre.take i).flatMap Tm.here) ⟨same_new hacc _, [], upd_same, List.nodup_nil, fun x => by simp⟩ (fun i H' _ ⟨e, _⟩ => SqL.of (e _ _ h1)) (fun i u H' N hx ⟨e, xs, ha, nd, hm⟩ hN => ?_) (fun H' ⟨e, xs, ha, nd, hm⟩ => ?_)
  · obtain ⟨s', hs', hxT⟩ := paired_get hu hx
    have hT' := hxT.keep e.keepT
    have xl : xs.length ≤ 40 := Nat.le_trans (len_le_sub nd fun x hx => hsub i x ((hm x).mp hx)) hwl
    have eo : (t.pre.take (i + 1)).flatMap Tm.here = (t.pre.take i).flatMap Tm.here ++ s'.here := by
      rw [List.take_add_one, hs', List.flatMap_append]
      show _ ++ (s'.here ++ []) = _
      rw [List.append_nil]
    walk_at "rd"
    cases s' with
    | low =>
      obtain ⟨a, rfl, hs⟩ := isT_low.mp hT'
      refine ⟨wk_head, a, rfl, _, hs, _, rfl, rfl, ?_⟩
      rw [if_neg (by decide)]
      exact hN _ ⟨e, xs, ha, nd, fun x => by rw [eo]; show _ ↔ x ∈ _ ++ []; rw [List.append_nil]; exact hm x⟩
    | ltr y =>
      obtain ⟨a, rfl, hs⟩ := isT_ltr.mp hT'
      refine ⟨wk_head, a, rfl, _, hs, _, rfl, rfl, ?_⟩
      rw [if_pos (by decide)]
      refine ⟨a, rfl, _, hs, _, rfl, y, rfl, xs, ha, by omega, hN _ ⟨e.write hacc, _, upd_same, ?_, fun x => ?_⟩⟩
      · by_cases hy : y ∈ xs
        · rw [if_pos hy]; exact nd
        · rw [if_neg hy, List.nodup_append]
          exact ⟨nd, by simp, fun a ha b hb => by rw [List.mem_singleton.mp hb]; exact fun z => hy (z ▸ ha)⟩
      · rw [eo]
        show _ ↔ x ∈ _ ++ [y]
        rw [List.mem_append, ← hm x, List.mem_singleton]
        by_cases hy : y ∈ xs
        · rw [if_pos hy]
          exact ⟨.inl, fun z => z.elim id fun z => by rw [z]; exact hy⟩
        · rw [if_neg hy, List.mem_append, List.mem_singleton]
    | nd kd a b =>
      obtain ⟨p, va, vb, rfl, hs, _⟩ := isT_nd.mp hT'
      refine ⟨wk_head, p, rfl, _, hs, _, rfl, rfl, ?_⟩
      rw [if_neg (by cases kd <;> decide)]
      exact hN _ ⟨e, xs, ha, nd, fun x => by rw [eo]; show _ ↔ x ∈ _ ++ []; rw [List.append_nil]; exact hm x⟩
  · have full : (t.pre.take us.length).flatMap Tm.here = t.ltrs := by rw [lu, List.take_length, pre_here]
    have xl : xs.length ≤ 40 := Nat.le_trans (len_le_sub nd fun x hx => hsub _ x ((hm x).mp hx)) hwl
    refine ⟨xs, ha, by omega, fun l ys hl hpm hso => q l _ ys ((e1.trans e).trans (same_new hl _)) ((e1.trans e).free hl) upd_same (hpm.nodup_iff.mpr nd) hso fun x => ?_⟩
    rw [hpm.mem_iff, hm x, full]
end
set_option Elab.async false
set_option linter.all false
set_option maxRecDepth 100000
set_option maxHeartbeats 4000000
local macro_rules | `(tactic| walk_at "rd") => `(tactic| walk_at "rdx_3")
local macro_rules | `(tactic| walk_at "ri") => `(tactic| walk_at "rdx_4")
abbrev s_all_letters : Stmt := top 7
theorem sc_all_letters : FnScope ["some"] ["some"] (defScope s_all_letters) := ⟨rfl, rfl, rfl, by decide +kernel, rfl, by decide +kernel, by decide +kernel⟩
section
variable {P : Program} {w : World} {K : PySem.W.Frag} {mg : Str → Option Value} {base : Heap}
theorem ok_all_letters {k : Nat} {f_all_letters : Addr} {fd_all_letters : FuncData} (F_all_letters : Fun K "all_letters" "all_letters" s_all_letters f_all_letters fd_all_letters) {f_letters : Addr} {fd_letters : FuncData} (G_letters : FnOk P w K mg base CX0 k f_letters fd_letters ["statement"] (sp_letters K)) (m_letters : mg "letters" = some (.ref f_letters)) (k_letters : PySem.W.keepIn K (.ref f_letters) = true) (b_letters : Binds K fd_letters ["statement"] []) (m_sorted : mg "sorted" = none) : FnOk P w K mg base CX0 (k + 1) f_all_letters fd_all_letters ["some"] (sp_allL K) := by
  refine F_all_letters.ok sc_all_letters (fun vs H Q E h => ?_) (fun cdv A outer s H vs Q E hr h => ?_)
  · obtain ⟨a, us, ts, ws, rfl, _⟩ := h
    rfl
  obtain ⟨a, us, ts, ws, rfl, ha, hT, hW, hwl, q⟩ := h
  refine ⟨_, (pss_one (ps_ret (pe_callB (call_sortedS (P := P) (w := w) rfl rfl rfl) (by exact rfl) m_sorted Ken.boot_sorted (pa_cons (pe_sc (P := P) (w := w) rfl rfl (blk0 (N' := ["statement", "word"]) (by decide +kernel) (by decide +kernel) rfl (by decide +kernel)) rfl (pi_list (pv 0)) (fun _ _ _ _ => (pg_name (i := 0) (show (["statement", "word"] : List Str).Nodup from by decide +kernel) rfl (Or.inl rfl))) (fun _ _ => turn_S2a00 (c := (.Name "" ⟨0, 0, 0, 0⟩)) (c2 := (.Name "" ⟨0, 0, 0, 0⟩))) (fun _ _ _ _ _ => (pk_nest rfl rfl den_S rfl (pi_listK (K := K) rfl (pe_call G_letters hr (by exact rfl) (by exact m_letters) k_letters b_letters .nil pass0 (pa_cons (pv 0) pa_nil))) (fun _ => rfl) (turn_S2b00 (c := (.Name "" ⟨0, 0, 0, 0⟩)) (c2 := (.Name "" ⟨0, 0, 0, 0⟩))) (pg_name (i := 1) (show (["statement", "word"] : List Str).Nodup from by decide +kernel) rfl (Or.inl rfl)) (pk_emitS (P := P) (w := w) rfl rfl (pv 1))))) pa_nil)))), ?_⟩
  walk_at "rd"
  refine ⟨⟨_, SqL.of ha⟩, fun acc hacc => ?_⟩
  have lu := Paired.length hT
  have hsub : ∀ i x, (∃ t ∈ ts.take i, x ∈ t.ltrs) → x ∈ ws := fun i x ⟨t, ht, hx⟩ => ltrs_inW (hW t (List.mem_of_mem_take ht)).1 x hx
  refine comp_list (xs := us) (fun i H' => Same H H' ∧ ∃ xs, H' acc = some (setO P w acc xs) ∧ xs.Nodup ∧ ∀ x, x ∈ xs ↔ ∃ t ∈ ts.take i, x ∈ t.ltrs) ⟨same_new hacc _, [], upd_same, List.nodup_nil, fun x => by simp⟩ (fun i H' _ ⟨e, _⟩ => SqL.of (e _ _ ha)) (fun i u H' N hx ⟨e, xs, hs, nd, hm⟩ hN => ?_) (fun H' ⟨e, xs, hs, nd, hm⟩ => ?_)
  · obtain ⟨t, ht, hTT⟩ := paired_get hT hx
    obtain ⟨tW, tp⟩ := hW t (List.mem_of_getElem? ht)
    have xl : xs.length ≤ 40 := Nat.le_trans (len_le_sub nd fun x hx => hsub i x ((hm x).mp hx)) hwl
    walk_at "rd"
    refine ⟨wk_head, u, t, ws, rfl, hTT.keep e.keepT, by omega, tW, hwl, fun r H2 ys e2 fr hr ynd ysr hy => ?_⟩
    refine ⟨r, rfl, ⟨_, SqL.of hr⟩, ?_⟩
    have nra : r ≠ acc := fun z => by rw [z, hs] at fr; cases fr
    have yl : ∀ y ∈ ys, y ∈ ws := fun y hyy => ltrs_inW tW y ((hy y).mp hyy)
    refine comp_list (xs := ys.map V.str) (fun j H3 => Same H H3 ∧ H3 r = some (.lst (ys.map V.str)) ∧ ∃ zs, H3 acc = some (setO P w acc zs) ∧ zs.Nodup ∧ ∀ x, x ∈ zs ↔ (x ∈ xs ∨ x ∈ ys.take j)) ⟨e.trans e2, hr, xs, e2 _ _ hs, nd, fun x => by simp⟩ (fun j H3 _ ⟨_, h, _⟩ => SqL.of h) (fun j v H3 N' hv ⟨e3, h3, zs, hz, znd, hzm⟩ hN' => ?_) (fun H3 ⟨e3, h3, zs, hz, znd, hzm⟩ => hN _ ⟨e3, zs, hz, znd, fun x => ?_⟩)
    · rw [List.getElem?_map] at hv
      cases ey : ys[j]? with
      | none => rw [ey] at hv; cases hv
      | some y =>
        rw [ey] at hv; cases hv
        have zl : zs.length ≤ 40 := Nat.le_trans (len_le_sub znd fun x hx => ((hzm x).mp hx).elim (fun z => hsub i x ((hm x).mp z)) (fun z => yl x (List.mem_of_mem_take z))) hwl
        walk_at "rd"
        refine ⟨wk_set (i := 1) rfl, zs, hz, by omega, hN' _ ⟨e3.write hacc, by rw [upd_ne nra]; exact h3, _, upd_same, ?_, fun x => ?_⟩⟩
        · by_cases hyz : y ∈ zs
          · rw [if_pos hyz]; exact znd
          · rw [if_neg hyz, List.nodup_append]
            exact ⟨znd, by simp, fun a ha b hb => by rw [List.mem_singleton.mp hb]; exact fun z => hyz (z ▸ ha)⟩
        · rw [take_snoc ey, List.mem_append, List.mem_singleton, ← or_assoc, ← hzm x]
          by_cases hyz : y ∈ zs
          · rw [if_pos hyz]
            exact ⟨.inl, fun z => z.elim id fun z => by rw [z]; exact hyz⟩
          · rw [if_neg hyz, List.mem_append, List.mem_singleton]
    · rw [hzm x, List.length_map, List.take_length, hm x, hy x, take_snoc ht]
      constructor
      · rintro (⟨t', h1, h2⟩ | h)
        · exact ⟨t', List.mem_append_left _ h1, h2⟩
        · exact ⟨t, List.mem_append_right _ (List.mem_singleton.mpr rfl), h⟩
      · rintro ⟨t', h1, h2⟩
        rcases List.mem_append.mp h1 with z | z
        · exact .inl ⟨t', z, h2⟩
        · rw [List.mem_singleton.mp z] at h2; exact .inr h2
  · have xl : xs.length ≤ 40 := Nat.le_trans (len_le_sub nd fun x hx => hsub _ x ((hm x).mp hx)) hwl
    refine ⟨xs, hs, by omega, fun l ys hl hpm hso => q l _ ys (e.trans (same_new hl _)) (e.free hl) upd_same (hpm.nodup_iff.mpr nd) hso fun x => ?_⟩
    rw [hpm.mem_iff, hm x, lu, List.take_length]
end
set_option Elab.async false
set_option linter.all false
set_option maxRecDepth 100000
set_option maxHeartbeats 4000000
local macro_rules | `(tactic| walk_at "rd") => `(tactic| walk_at "rdx_3")
local macro_rules | `(tactic| walk_at "ri") => `(tactic| walk_at "rdx_4")
abbrev s_columns_of : Stmt := top 8
theorem sc_columns_of : FnScope ["words", "columns", "rows", "everywhere", "word"] ["words"] (defScope s_columns_of) := ⟨rfl, rfl, rfl, by decide +kernel, rfl, by decide +kernel, by decide +kernel⟩
section
variable {P : Program} {w : World} {K : PySem.W.Frag} {mg : Str → Option Value} {base : Heap}
theorem ok_columns_of {k : Nat} {f_columns_of : Addr} {fd_columns_of : FuncData} (F_columns_of : Fun K "columns_of" "columns_of" s_columns_of f_columns_of fd_columns_of) : FnOk P w K mg base CX0 (k + 1) f_columns_of fd_columns_of ["words"] (sp_columns K) := by
  refine F_columns_of.ok sc_columns_of (fun vs H Q E h => ?_) (fun cdv A outer s H vs Q E hr h => ?_)
  · obtain ⟨a, us, rfl, _⟩ := h
    rfl
  obtain ⟨a, us, rfl, ha, hnd, hl, q⟩ := h
  refine ⟨_, (pss_cons (ps_set (i := 1) sc_columns_of.nd rfl (Or.inr rfl) pe_dnewK)
  (pss_cons (ps_set (i := 2) sc_columns_of.nd rfl (Or.inr rfl) pe_int)
  (pss_cons (ps_set (i := 3) sc_columns_of.nd rfl (Or.inl rfl) pe_int)
  (pss_cons (ps_for PassesOwn.never rfl (pi_list (pv 0)) (pg_name (i := 4) sc_columns_of.nd rfl (Or.inl rfl))
    (pss_cons (ps_set (i := 1) sc_columns_of.nd rfl (Or.inr rfl) (pe_dcK (blkC (N' := ["each", "columns", "rows"]) (nt := 1) (ci := [1, 2]) ["words", "columns", "rows", "everywhere", "word"] (defScope s_columns_of) rfl rfl (by decide +kernel) rfl (by decide +kernel) (by decide +kernel) rfl (by decide +kernel)) rfl (pi_dict (pv 1)) (fun _ _ _ _ => (pg_name (i := 0) (show (["each", "columns", "rows"] : List Str).Nodup from by decide +kernel) rfl (Or.inl rfl))) (fun _ _ => turn_D0 (c := (.Name "" ⟨0, 0, 0, 0⟩)) (tg2 := (.Name "" ⟨0, 0, 0, 0⟩))) (fun _ _ _ _ _ => (pk_emitD (Nat.lt_of_succ_lt (hu_of hr)) (pv 0) (pe_op op_or (pe_dget (hu_of hr) (pv 1) (pv 0) (fun _ _ => rfl)) (pe_op op_shl (pe_dget (hu_of hr) (pv 1) (pv 0) (fun _ _ => rfl)) (pv 2)))))))
  (pss_cons (ps_dput (hu_of hr) (pv 1) (pv 4) (pe_op op_shl (pv 3) (pv 2)) rfl)
  (pss_cons (ps_set (i := 3) sc_columns_of.nd rfl (Or.inl rfl) (pe_op op_or (pv 3) (pe_op op_shl (pv 3) (pv 2))))
  (pss_one (ps_set (i := 2) sc_columns_of.nd rfl (Or.inr rfl) (pe_op op_mul pe_int (pv 2))))))))
  (pss_one (ps_ret (pe_tup (pa_cons (pv 1) (pa_cons (pv 3) pa_nil))))))))), ?_⟩
  refine seq_then (fun σ' H' => ∃ d, σ' = [some (.ref a), some (.ref d), none, none, none] ∧ Same H H' ∧ H d = none ∧ H' d = some (.dK [])) ?_ ?_
  rotate_left
  · intro C hC
    walk_at "rd"
    exact fun p hp => hC _ _ ⟨p, rfl, same_new hp _, hp, upd_same⟩
  rintro σ1 H1 ⟨d, rfl, e1, f1, h1⟩
  refine seq_then (fun σ' H' => σ' = [some (.ref a), some (.ref d), some (.int ((1 : Nat) : Int)), none, none] ∧ H' = H1) ?_ ?_
  rotate_left
  · intro C hC
    walk_at "rd"
    exact hC _ _ ⟨rfl, rfl⟩
  rintro σ2 H2 ⟨rfl, rfl⟩
  refine seq_then (fun σ' H' => σ' = [some (.ref a), some (.ref d), some (.int ((1 : Nat) : Int)), some (.int ((1 : Nat) : Int)), none] ∧ H' = H2) ?_ ?_
  rotate_left
  · intro C hC
    walk_at "rd"
    exact hC _ _ ⟨rfl, rfl⟩
  rintro σ3 H3 ⟨rfl, rfl⟩
  refine seq_then (fun σ' H' => ∃ d cs x4, σ' = [some (.ref a), some (.ref d), some (.int ((2 ^ us.length : Nat) : Int)), some (.int ((2 ^ 2 ^ us.length - 1 : Nat) : Int)), x4] ∧ Same H H' ∧ H d = none ∧ H' d = some (.dK (colD us cs)) ∧ Cols us.length cs) ?_ ?_
  rotate_left
  · intro C hC
    walk_at "ri"
    refine ⟨⟨_, e1.seq ha⟩, ?_⟩
    refine for_list (D := { nx := C, rt := Q }) (xs := us.map V.str) (fun i σ' H' => ∃ d cs x4, σ' = [some (.ref a), some (.ref d), some (.int ((2 ^ i : Nat) : Int)), some (.int ((2 ^ 2 ^ i - 1 : Nat) : Int)), x4] ∧ Same H H' ∧ H d = none ∧ H' d = some (.dK (colD (us.take i) cs)) ∧ Cols i cs) ⟨d, [], none, rfl, e1, f1, h1, ⟨rfl, fun j c h => by simp at h⟩⟩ (fun i σ' H' _ ⟨_, _, _, _, e, _⟩ => e.seq ha) (fun i x σ' H' hx hp => ?_) (fun σ' H' hp => ?_)
    · rw [List.getElem?_map] at hx
      cases eu : us[i]? with
      | none => rw [eu] at hx; cases hx
      | some u =>
      rw [eu] at hx; cases hx
      have hi : i < us.length := (List.getElem?_eq_some_iff.mp eu).1
      obtain ⟨d, cs, x4, rfl, e, fd, hd, hC'⟩ := hp
      have lc := hC'.len
      have lt : (us.take i).length = cs.length := by rw [List.length_take]; omega
      have tnd : (us.take i).Nodup := hnd.sublist (List.take_sublist _ _)
      have nu : ¬ u ∈ us.take i := fun z => by
        obtain ⟨j, hj, ej⟩ := List.getElem_of_mem z
        rw [List.length_take] at hj
        rw [List.getElem_take] at ej
        have e2 : us[i] = u := (List.getElem?_eq_some_iff.mp eu).2
        exact List.pairwise_iff_getElem.mp hnd j i (by omega) hi (by omega) (ej.trans e2.symm)
      have p5 := pow5 (show i ≤ 5 by omega)
      have r5 : (2 : Nat) ^ i ≤ 2 ^ 5 := Nat.pow_le_pow_right (by decide) (by omega)
      have cp : ∀ c : Nat, c < 2 ^ 2 ^ i → CPow (c : Int) ((2 ^ i : Nat) : Int) := fun c hc => ⟨Int.natCast_nonneg _, Int.le_trans (Int.ofNat_le.mpr r5) (by decide), by rw [Int.natAbs_natCast]; exact Nat.lt_of_lt_of_le hc (Nat.le_trans p5 (by decide))⟩
      have sh : ∀ c : Nat, (c : Int) * 2 ^ (((2 ^ i : Nat) : Int)).toNat = ((c * 2 ^ 2 ^ i : Nat) : Int) := fun c => by rw [Int.toNat_natCast, Int.natCast_mul, Int.natCast_pow]; rfl
      have ones : 2 ^ 2 ^ i - 1 < 2 ^ 2 ^ i := by have := Nat.two_pow_pos (2 ^ i); omega
      simp only [gName, List.set_cons_zero, List.set_cons_succ]
      refine seq_then (fun σ' H2 => ∃ d2, σ' = [some (.ref a), some (.ref d2), some (.int ((2 ^ i : Nat) : Int)), some (.int ((2 ^ 2 ^ i - 1 : Nat) : Int)), some (.str u)] ∧ Same H H2 ∧ H d2 = none ∧ H2 d2 = some (.dK (colD (us.take i) (cs.map fun c => c ||| c * 2 ^ 2 ^ i)))) ?_ ?_
      rotate_left
      · intro C hC
        walk_at "rd"
        refine ⟨_, hd, fun o acc hacc => ?_⟩
        have fz : ∀ {Hx : Hp}, Hx d = some (.frz o (.dK (colD (us.take i) cs))) → ∀ {x : Str} {v : V}, valV (colD (us.take i) cs) (Sum.inr x) = some v → DGet Hx d (.str x) (some v) := fun h x v hv => .inl ⟨_, Sum.inr x, .inr ⟨_, h⟩, rfl, hv.symm⟩
        have na : acc ≠ d := fun z => by rw [z, upd_same] at hacc; cases hacc
        have fa : H acc = none := by rw [upd_ne na] at hacc; exact e.free hacc
        have lcol : (colD (us.take i) cs).length = i := by rw [colD_len lt, List.length_take]; omega
        refine comp_dict (kvs := colD (us.take i) cs) (fun j H2 => Same H H2 ∧ H2 d = some (.frz o (.dK (colD (us.take i) cs))) ∧ H2 acc = some (.dK (colD ((us.take i).take j) ((cs.take j).map fun c => c ||| c * 2 ^ 2 ^ i)))) ⟨(e.write fd).write fa, by rw [upd_ne (Ne.symm na)]; exact upd_same, upd_same⟩ (fun j H2 _ ⟨_, h, _⟩ => h) (fun j kv H2 N hkv ⟨e2, h2, hacc2⟩ hN => ?_) (fun H2 ⟨e2, h2, hacc2⟩ => hC _ _ ⟨acc, rfl, e2, fa, ?_⟩)
        · obtain ⟨x, c, hx, hc, rfl⟩ := colD_get hkv
          have vx := colD_val tnd hx hc
          have ic := hC'.col j c hc
          walk_at "rd"
          refine ⟨wk_head, ?_⟩
          have nx : ¬ x ∈ (us.take i).take j := fun z => by
            obtain ⟨l, hl', el⟩ := List.getElem_of_mem z
            have hj := (List.getElem?_eq_some_iff.mp hx).1
            have e3 : (us.take i)[j] = x := (List.getElem?_eq_some_iff.mp hx).2
            rw [List.length_take] at hl'
            rw [List.getElem_take] at el
            exact List.pairwise_iff_getElem.mp tnd l j (by omega) hj (by omega) (el.trans e3.symm)
          have hj2 : j < cs.length := (List.getElem?_eq_some_iff.mp hc).1
          have ltj : ((us.take i).take j).length = ((cs.take j).map fun c => c ||| c * 2 ^ 2 ^ i).length := by
            rw [List.length_map, List.length_take, List.length_take, List.length_take]; rw [List.length_take] at lt; omega
          refine ⟨_, fz h2 vx, _, fz h2 vx, _, rfl, cp c ic.lt, _, rfl, _, DPut.k (k := Sum.inr x) hacc2 ?_, hN _ ⟨e2.write fa, by rw [upd_ne (Ne.symm na)]; exact h2, ?_⟩⟩
          · rw [colD_len ltj, List.length_take, List.length_take]; exact small1M (by omega)
          · rw [upd_same, putK_new _ (colD_none nx), sh, or_nat, take_snoc hx, take_snoc hc, List.map_append, List.map_cons, List.map_nil, colD_snoc ltj]
        · have t1 : (us.take i).take i = us.take i := by rw [List.take_take, Nat.min_self]
          have t2 : cs.take i = cs := List.take_of_length_le (by omega)
          rw [hacc2, lcol, t1, t2]
      rintro σa Ha ⟨d2, rfl, ea, fa, ha2⟩
      refine seq_then (fun σ' H2 => σ' = [some (.ref a), some (.ref d2), some (.int ((2 ^ i : Nat) : Int)), some (.int ((2 ^ 2 ^ i - 1 : Nat) : Int)), some (.str u)] ∧ Same H H2 ∧ H2 d2 = some (.dK (colD (us.take (i + 1)) (cs.map (fun c => c ||| c * 2 ^ 2 ^ i) ++ [(2 ^ (2 ^ i) - 1) * 2 ^ (2 ^ i)])))) ?_ ?_
      rotate_left
      · intro C hC
        walk_at "rd"
        refine ⟨cp _ ones, _, DPut.k (k := Sum.inr u) ha2 ?_, hC _ _ ⟨rfl, ea.write fa, ?_⟩⟩
        · rw [colD_len (by rw [List.length_map]; exact lt), List.length_take]; exact small1M (by omega)
        · rw [upd_same, putK_new _ (colD_none nu), sh, take_snoc eu, colD_snoc (by rw [List.length_map]; exact lt)]
      rintro σb Hb ⟨rfl, eb, hb⟩
      walk_at "rd"
      refine ⟨cp _ ones, .inl ⟨by decide, by decide⟩, ?_, ?_, eb, fa, _, hb, hC'.next⟩
      · rw [two_succ, Int.natCast_add]; omega
      · rw [sh, or_nat, ones_next, two_succ]
    · obtain ⟨d, cs, x4, rfl, e, fd, hd, hc⟩ := hp
      rw [List.length_map] at hc
      rw [List.length_map, List.take_length] at hd
      exact hC _ _ ⟨d, cs, x4, by rw [List.length_map], e, fd, hd, hc⟩
  rintro σ4 H4 ⟨d, cs, x4, rfl, e4, f4, h4, hc⟩
  walk_at "rd"
  exact ⟨by decide, fun p hp => q p d _ cs (e4.trans (same_new hp _)) (e4.free hp) f4 upd_same (same_new hp _ _ _ h4) hc⟩
end
set_option Elab.async false
set_option linter.all false
set_option maxRecDepth 100000
set_option maxHeartbeats 4000000
local macro_rules | `(tactic| walk_at "rd") => `(tactic| walk_at "rdx_3")
local macro_rules | `(tactic| walk_at "ri") => `(tactic| walk_at "rdx_4")
open PyProof.Rows
abbrev s_row_against : Stmt := top 10
theorem sc_row_against : FnScope ["wishes", "goal", "words", "columns", "everywhere", "against", "wish", "row"] ["wishes", "goal"] (defScope s_row_against) := ⟨rfl, rfl, rfl, by decide +kernel, rfl, by decide +kernel, by decide +kernel⟩
section
variable {P : Program} {w : World} {K : PySem.W.Frag} {mg : Str → Option Value} {base : Heap}
theorem ok_row_against {k : Nat} {T : Addr} {f_row_against : Addr} {fd_row_against : FuncData} (F_row_against : Fun K "row_against" "row_against" s_row_against f_row_against fd_row_against) {f_all_letters : Addr} {fd_all_letters : FuncData} (G_all_letters : FnOk P w K mg base CX0 k f_all_letters fd_all_letters ["some"] (sp_allL K)) (m_all_letters : mg "all_letters" = some (.ref f_all_letters)) (k_all_letters : PySem.W.keepIn K (.ref f_all_letters) = true) (b_all_letters : Binds K fd_all_letters ["some"] []) {f_columns_of : Addr} {fd_columns_of : FuncData} (G_columns_of : FnOk P w K mg base CX0 k f_columns_of fd_columns_of ["words"] (sp_columns K)) (m_columns_of : mg "columns_of" = some (.ref f_columns_of)) (k_columns_of : PySem.W.keepIn K (.ref f_columns_of) = true) (b_columns_of : Binds K fd_columns_of ["words"] []) {f_column : Addr} {fd_column : FuncData} (G_column : FnOk P w K mg base CX0 k f_column fd_column ["statement", "columns", "everywhere"] (sp_column K T ds_column)) (m_column : mg "column" = some (.ref f_column)) (k_column : PySem.W.keepIn K (.ref f_column) = true) (b_column : Binds K fd_column ["statement", "columns", "everywhere"] []) (m_enumerate : mg "enumerate" = none) : FnOk P w K mg base CX0 (k + 1) f_row_against fd_row_against ["wishes", "goal"] (sp_rowA K T ds_column) := by
  refine F_row_against.ok sc_row_against (fun vs H Q E h => ?_) (fun cdv A outer s H vs Q E hr h => ?_)
  · obtain ⟨wa, us, ts, g, t, ws, rfl, _⟩ := h
    rfl
  obtain ⟨wa, us, ts, g, t, ws, rfl, hwa, hU, hgT, hW, hwl, hts, tab, qn, qs⟩ := h
  have lu := Paired.length hU
  refine ⟨_, (pss_cons (ps_set (i := 2) sc_row_against.nd rfl (Or.inl rfl) (pe_call G_all_letters hr (by exact rfl) m_all_letters k_all_letters b_all_letters .nil pass0 (pa_cons (pe_op op_cat (pv 0) (pe_lst (pa_cons (pv 1) pa_nil))) pa_nil)))
  (pss_cons (ps_asg (pe_call G_columns_of hr (by exact rfl) m_columns_of k_columns_of b_columns_of .nil pass0 (pa_cons (pv 2) pa_nil)) (pg_tup rfl (pgs_cons (pg_name (i := 3) sc_row_against.nd rfl (Or.inl rfl)) (pgs_cons (pg_name (i := 4) sc_row_against.nd rfl (Or.inl rfl)) pgs_nil))))
  (pss_cons (ps_set (i := 5) sc_row_against.nd rfl (Or.inl rfl) (pe_op op_xor (pv 4) (pe_call G_column hr (by exact rfl) m_column k_column b_column .nil pass0 (pa_cons (pv 1) (pa_cons (pv 3) (pa_cons (pv 4) pa_nil))))))
  (pss_cons (ps_for PassesOwn.never rfl (pi_list (pv 0)) (pg_name (i := 6) sc_row_against.nd rfl (Or.inl rfl))
    (pss_one (ps_set (i := 5) sc_row_against.nd rfl (Or.inl rfl) (pe_op op_and (pv 5) (pe_call G_column hr (by exact rfl) m_column k_column b_column .nil pass0 (pa_cons (pv 6) (pa_cons (pv 3) (pa_cons (pv 4) pa_nil))))))))
  (pss_cons (ps_if (pt_cmpR (op_eq) (pv 5) pe_int (nomark _))
    (pss_one (ps_ret pe_non))
    pss_nil)
  (pss_cons (ps_set (i := 7) sc_row_against.nd rfl (Or.inr rfl) (pe_op op_sub (pe_bm0 PySem.F.plainAttrs_int PySem.F.slot_int_bit_length PySem.F.type_int_bit_length mt_bit_length (pv 5)) pe_int))
  (pss_one (ps_ret (pe_lcG (blkC (N' := ["place", "word", "row"]) (nt := 2) (ci := [7]) ["wishes", "goal", "words", "columns", "everywhere", "against", "wish", "row"] (defScope s_row_against) rfl rfl (by decide +kernel) rfl (by decide +kernel) (by decide +kernel) rfl (by decide +kernel)) rfl (pi_enum rfl m_enumerate (pa_cons (pv 2) pa_nil)) (fun _ _ _ _ => (pg_tupK (K := K) (n := 2) rfl rfl (pgs_cons (pg_name (i := 0) (show (["place", "word", "row"] : List Str).Nodup from by decide +kernel) rfl (Or.inl rfl)) (pgs_cons (pg_name (i := 1) (show (["place", "word", "row"] : List Str).Nodup from by decide +kernel) rfl (Or.inl rfl)) pgs_nil)) rfl rfl)) (fun _ _ => turn_L1 (tg2 := (.Name "" ⟨0, 0, 0, 0⟩)) (iter2 := (.Name "" ⟨0, 0, 0, 0⟩))) (fun _ _ _ _ _ => (pk_test (pt_truthK (K := K) rfl (pe_op op_and (pe_op op_shr (pv 2) (pv 0)) pe_int) (fun _ => rfl)) (pk_emitL (pv 1))))))))))))), ?_⟩
  refine seq_then (fun σ' H' => ∃ la ys, σ' = [some (.ref wa), some g, some (.ref la), none, none, none, none, none] ∧ Same H H' ∧ H' la = some (.lst (ys.map V.str)) ∧ ys.Nodup ∧ Rises ys ∧ ys.length ≤ 6 ∧ ∀ x, x ∈ ys ↔ ∃ s ∈ ts ++ [t], x ∈ s.ltrs) ?_ ?_
  rotate_left
  · intro C hC
    walk_at "rd"
    refine ⟨by decide, fun p hp => ?_⟩
    have s1 := same_new hp (HO.lst [g])
    refine ⟨us, s1 _ _ hwa, [g], upd_same, by rw [lu]; exact Nat.le_of_lt (small1M (by simp; omega)), fun p1 hp1 => ?_⟩
    have s2 := same_new hp1 (HO.lst (us ++ [g]))
    have S := s1.trans s2
    refine ⟨p1, us ++ [g], ts ++ [t], ws, rfl, upd_same, paired_app (Paired.mapP hU fun _ _ z => z.keep S.keepT) (.cons (hgT.keep S.keepT) .nil), hW, by omega, fun r H' ys e fr hr ynd ysr hy => hC _ _ ⟨r, ys, rfl, S.trans e, hr, ynd, sorted_pw ysr ynd, ?_, hy⟩⟩
    refine Nat.le_trans (len_le_sub ynd fun x hx => ?_) hwl
    obtain ⟨s', hs', hx'⟩ := (hy x).mp hx
    exact ltrs_inW (hW s' hs').1 x hx'
  rintro σ1 H1 ⟨la, ys, rfl, e1, h1, ynd, yr, yl, hy⟩
  refine seq_then (fun σ' H' => ∃ d cs, σ' = [some (.ref wa), some g, some (.ref la), some (.ref d), some (.int ((2 ^ 2 ^ ys.length - 1 : Nat) : Int)), none, none, none] ∧ Same H1 H' ∧ H' d = some (.dK (colD ys cs)) ∧ Cols ys.length cs) ?_ ?_
  rotate_left
  · intro C hC
    walk_at "rd"
    refine ⟨la, ys, rfl, SqL.of h1, ynd, yl, fun r d H' cs e fr fd hr hd hC' => ⟨r, rfl, _, .inl (.inl hr), rfl, _, _, rfl, _, _, rfl, rfl, hC _ _ ⟨d, cs, rfl, e, hd, hC'⟩⟩⟩
  rintro σ2 H2 ⟨d, cs, rfl, e2, h2, hCs⟩
  have E2 := e1.trans e2
  refine seq_then (fun σ' H' => ∃ c, σ' = [some (.ref wa), some g, some (.ref la), some (.ref d), some (.int ((2 ^ 2 ^ ys.length - 1 : Nat) : Int)), some (.int ((c : Nat) : Int)), none, none] ∧ SameU T H2 H' ∧ TabOk H' T ds_column ∧ IsCol (2 ^ ys.length) c (fun r => !pl (rowW ys r) t)) ?_ ?_
  rotate_left
  · intro C hC
    walk_at "rd"
    have hI : ∀ x ∈ t.ltrs, x ∈ ys := fun x hx => (hy x).mpr ⟨t, by simp, hx⟩
    refine ⟨g, t, d, ys, cs, rfl, hgT.keep E2.keepT, (hW t (by simp)).2, h2, ynd, hCs, hI, tab.keep E2, fun H' e tb => ⟨_, rfl, ?_⟩⟩
    have ic := colT_is ynd hCs t hI
    rw [xor_ones ic.lt]
    exact hC _ _ ⟨_, rfl, e, tb, ic.compl⟩
  rintro σ3 H3 ⟨c, rfl, e3, tb3, hc⟩
  refine seq_then (fun σ' H' => ∃ c x6, σ' = [some (.ref wa), some g, some (.ref la), some (.ref d), some (.int ((2 ^ 2 ^ ys.length - 1 : Nat) : Int)), some (.int ((c : Nat) : Int)), x6, none] ∧ SameU T H2 H' ∧ TabOk H' T ds_column ∧ IsCol (2 ^ ys.length) c (fun r => agst ts t (rowW ys r))) ?_ ?_
  rotate_left
  · intro C hC
    walk_at "ri"
    have hw3 : H3 wa = some (.lst us) := e3.toT wa (HO.lst us) (fun _ z => nomatch z) (E2 _ _ hwa)
    refine ⟨⟨_, SqL.of hw3⟩, ?_⟩
    refine for_list (D := { nx := C, rt := Q }) (xs := us) (fun i σ' H' => ∃ c x6, σ' = [some (.ref wa), some g, some (.ref la), some (.ref d), some (.int ((2 ^ 2 ^ ys.length - 1 : Nat) : Int)), some (.int ((c : Nat) : Int)), x6, none] ∧ SameU T H2 H' ∧ TabOk H' T ds_column ∧ IsCol (2 ^ ys.length) c (fun r => agst (ts.take i) t (rowW ys r))) ⟨c, none, rfl, e3, tb3, hc.congr fun r _ => ?_⟩ (fun i σ' H' _ ⟨_, _, _, e, _⟩ => SqL.of (e.toT wa (HO.lst us) (fun _ z => nomatch z) (E2 _ _ hwa))) (fun i x σ' H' hx hp => ?_) (fun σ' H' ⟨c, x6, g1, g2, g3, g4⟩ => hC _ _ ⟨c, x6, g1, g2, g3, by rw [lu, List.take_length] at g4; exact g4⟩)
    · show (!pl (rowW ys r) t) = (!pl (rowW ys r) t && true)
      rw [Bool.and_true]
    obtain ⟨c, x6, rfl, e, tb, hc'⟩ := hp
    obtain ⟨s', hs', hxT⟩ := paired_get hU hx
    have ms : s' ∈ ts ++ [t] := List.mem_append_left _ (List.mem_of_getElem? hs')
    have hI : ∀ x ∈ s'.ltrs, x ∈ ys := fun x hx => (hy x).mpr ⟨s', ms, hx⟩
    have hd' : H' d = some (.dK (colD ys cs)) := e.toT d (HO.dK (colD ys cs)) (fun _ z => nomatch z) h2
    walk_at "rd"
    refine ⟨x, s', d, ys, cs, rfl, (hxT.keep E2.keepT).keep (SameT.keepT e.toT), (hW s' ms).2, hd', ynd, hCs, hI, tb, fun H'' e' tb' => ⟨_, rfl, ?_⟩⟩
    rw [and_nat]
    refine ⟨_, rfl, e.trans e', tb', (hc'.both (colT_is ynd hCs s' hI)).congr fun r _ => ?_⟩
    rw [take_snoc hs']
    unfold agst
    rw [List.all_append, Bool.and_assoc]
    simp
  rintro σ4 H4 ⟨c, x6, rfl, e4, tb4, hc4⟩
  have E4 : SameU T H H4 := (Same.toU E2).trans e4
  refine seq_then (fun σ' H' => σ' = [some (.ref wa), some g, some (.ref la), some (.ref d), some (.int ((2 ^ 2 ^ ys.length - 1 : Nat) : Int)), some (.int ((c : Nat) : Int)), x6, none] ∧ H' = H4 ∧ c ≠ 0) ?_ ?_
  rotate_left
  · intro C hC
    walk_at "rd"
    by_cases c0 : c = 0
    · rw [if_pos (by omega)]
      refine qn _ E4 tb4 fun S => ?_
      obtain ⟨r, r1, r2⟩ := row_any ynd S
      have := hc4.bit r r1
      rw [c0, Nat.zero_testBit] at this
      rw [← agst_ltrs (L := rowW ys r) fun s hs x hx => r2 x ((hy x).mpr ⟨s, hs, hx⟩)]
      exact this.symm
    · rw [if_neg (by omega)]
      exact hC _ _ ⟨rfl, rfl, c0⟩
  rintro σ5 H5 ⟨rfl, rfl, c0⟩
  refine seq_then (fun σ' H' => σ' = [some (.ref wa), some g, some (.ref la), some (.ref d), some (.int ((2 ^ 2 ^ ys.length - 1 : Nat) : Int)), some (.int ((c : Nat) : Int)), x6, some (.int ((c.log2 : Nat) : Int))] ∧ H' = H5) ?_ ?_
  rotate_left
  · intro C hC
    walk_at "rd"
    refine ⟨rfl, ?_⟩
    rw [bits_len c0]
    exact hC _ _ ⟨rfl, rfl⟩
  rintro σ6 H6 ⟨rfl, rfl⟩
  walk_at "rd"
  have h6l : H6 la = some (.lst (ys.map V.str)) := e4.toT la (HO.lst (ys.map V.str)) (fun _ z => nomatch z) (e2 _ _ h1)
  refine ⟨⟨_, SqL.of h6l⟩, fun acc hacc => ?_⟩
  refine comp_enum (xs := ys.map V.str) (fun i H' => Same H6 H' ∧ H' acc = some (.lst ((rowI ys c.log2 i).map V.str))) ⟨same_new hacc _, upd_same⟩ (fun i H' _ ⟨e, _⟩ => SqL.of (e _ _ h6l)) (fun i x H' T0 N hx hT0 ⟨e, h⟩ hN => ?_) (fun H' ⟨e, h⟩ => ?_)
  · rw [List.getElem?_map] at hx
    cases ey : ys[i]? with
    | none => rw [ey] at hx; cases hx
    | some y =>
      rw [ey] at hx; cases hx
      have hi : i < ys.length := (List.getElem?_eq_some_iff.mp ey).1
      have sT := same_new hT0 (HO.tup [.int (i : Int), .str y])
      walk_at "rd"
      refine ⟨_, .inl (.inl upd_same), rfl, _, _, rfl, _, _, rfl, rfl, Wk.trans (wk_set (i := 0) rfl) (wk_set (i := 1) rfl), ?_⟩
      refine ⟨(i : Int), rfl, Int.natCast_nonneg _, c.log2.testBit i, (tru_bit _ _).symm, ?_⟩
      have hl := rowI_len ys c.log2 i
      by_cases hb : c.log2.testBit i = true
      · rw [if_pos hb]
        refine ⟨_, sT _ _ h, by rw [List.length_map]; exact small1M (by omega), hN _ ⟨(e.trans sT).write hacc, ?_⟩⟩
        rw [upd_same, rowI_succ, if_pos hb, ey, List.map_append]; rfl
      · rw [if_neg hb]
        refine hN _ ⟨e.trans sT, ?_⟩
        rw [sT _ _ h, rowI_succ, if_neg hb, List.append_nil]
  · rw [List.length_map] at h
    have hrow : rowI ys c.log2 ys.length = rowW ys c.log2 := rfl
    rw [hrow] at h
    have hlt : c.log2 < 2 ^ ys.length := (Nat.log2_lt c0).mpr hc4.lt
    have hb := hc4.bit _ hlt
    rw [Nat.testBit_log2 c0] at hb
    exact qs acc _ (rowW ys c.log2) (E4.trans (Same.toU e)) (tb4.keep e) (E4.free hacc) h (row_rises yr _) (fun x hx => (hy x).mp (row_sub hx)) (Nat.le_trans (row_len _ _) yl) hb.symm
end
set_option Elab.async false
set_option linter.all false
set_option maxRecDepth 100000
set_option maxHeartbeats 4000000
local macro_rules | `(tactic| walk_at "rd") => `(tactic| walk_at "rdx_1")
local macro_rules | `(tactic| walk_at "ri") => `(tactic| walk_at "rdx_2")
section
variable {P : Program} {w : World} {K : PySem.W.Frag} {mg : Str → Option Value} {base : Heap}
theorem ok__law_words {k : Nat} {f__law_words : Addr} {fd__law_words : FuncData} (F__law_words : Fun K "_law_words" "_law_words" s__law_words f__law_words fd__law_words) (m_range : mg "range" = none) : FnOk P w K mg base CX0 (k + 1) f__law_words fd__law_words ["_law_cell_here", "_law_many"] sp_words := by
  refine F__law_words.ok sc__law_words (fun vs H Q E h => ?_) (fun cdv A outer s H vs Q E hr h => ?_)
  · obtain ⟨c, m, rfl, _⟩ := h
    rfl
  obtain ⟨c, m, rfl, hc0, h0, h1, q⟩ := h
  refine ⟨_, (pss_cons (ps_set (i := 2) sc__law_words.nd rfl (Or.inl rfl) (pe_lst (pa_cons pe_str (pa_cons pe_str (pa_cons pe_str (pa_cons pe_str (pa_cons pe_str (pa_cons pe_str pa_nil))))))))
  (pss_cons (ps_if (pt_cmpR (op_eq) (pe_op op_mod (pv 0) pe_int) pe_int (nomark _))
    (pss_one (ps_setLC (i := 2) sc__law_words.nd rfl (Or.inl rfl) (blk0 (N' := ["_law_k"]) (by decide +kernel) (by decide +kernel) rfl (by decide +kernel)) rfl (pi_range1 rfl m_range (pa_cons pe_int pa_nil)) (fun _ _ _ _ => (pg_name (i := 0) (show (["_law_k"] : List Str).Nodup from by decide +kernel) rfl (Or.inl rfl))) (fun _ _ _ _ => (pe_op op_mulS pe_str (pe_op op_add pe_int (pv 0)))) rfl))
    pss_nil)
  (pss_cons (ps_if (pt_cmpR (op_eq) (pe_op op_mod (pv 0) pe_int) pe_int (nomark _))
    (pss_cons (ps_set (i := 3) sc__law_words.nd rfl (Or.inr rfl) (pe_op op_add pe_int (pe_op op_mod (pe_op op_fdiv (pv 0) pe_int) pe_int)))
  (pss_cons (ps_set (i := 4) sc__law_words.nd rfl (Or.inr rfl) (pe_op op_mod (pe_op op_fdiv (pv 0) pe_int) (pv 3)))
  (pss_one (ps_setLC (i := 2) sc__law_words.nd rfl (Or.inl rfl) (blkC (N' := ["_law_k", "_law_at", "_law_size"]) (nt := 1) (ci := [4, 3]) ["_law_cell_here", "_law_many", "_law_some", "_law_size", "_law_at", "_law_start"] (defScope s__law_words) rfl rfl (by decide +kernel) rfl (by decide +kernel) (by decide +kernel) rfl (by decide +kernel)) rfl (pi_range1 rfl m_range (pa_cons pe_int pa_nil)) (fun _ _ _ _ => (pg_name (i := 0) (show (["_law_k", "_law_at", "_law_size"] : List Str).Nodup from by decide +kernel) rfl (Or.inl rfl))) (fun _ _ _ _ => (pe_op op_add_str (pe_op op_add_str (pe_op op_mulS pe_str (pv 1)) (pe_ix ix_str pe_str (pv 0) (fun _ _ => rfl))) (pe_op op_mulS pe_str (pe_op op_sub (pe_op op_sub (pv 2) pe_int) (pv 1))))) rfl))))
    pss_nil)
  (pss_cons (ps_if (pt_cmpR (op_eq) (pe_op op_mod (pv 0) pe_int) pe_int (nomark _))
    (pss_one (ps_set (i := 2) sc__law_words.nd rfl (Or.inl rfl) (pe_lst (pa_cons pe_str (pa_cons pe_str (pa_cons pe_str (pa_cons pe_str (pa_cons pe_str (pa_cons pe_str pa_nil)))))))))
    pss_nil)
  (pss_cons (ps_set (i := 5) sc__law_words.nd rfl (Or.inl rfl) (pe_op op_mod (pe_op op_fdiv (pv 0) pe_int) pe_int))
  (pss_one (ps_ret (pe_slice sl_list (pe_op op_cat (pe_slice sl_list (pv 2) (po_some (pv 5)) po_none) (pe_slice sl_list (pv 2) po_none (po_some (pv 5)))) po_none (po_some (pv 1)))))))))), ?_⟩
  have lit : ∀ (ws : List Str) (H1 : Hp) (p : Addr), Same H H1 → H1 p = none → ws.length = 6 → (ws.all wordB) = true → Six H (upd H1 p (.lst (ws.map V.str))) p ws := fun ws H1 p e hp hl hw =>
    ⟨e.trans (same_new hp _), e.free hp, upd_same, hl, fun x hx => word_of (List.all_eq_true.mp hw x hx)⟩
  refine seq_then (fun σ' H' => ∃ p ws x3 x4, σ' = [some (.int c), some (.int m), some (.ref p), x3, x4, none] ∧ Six H H' p ws) ?_ ?_
  rotate_left
  · intro C hC
    walk_at "rd"
    exact ⟨by decide, fun p hp => hC _ _ ⟨p, ["a", "b", "c", "d", "e", "f"], none, none, rfl, lit ["a", "b", "c", "d", "e", "f"] H p (Same.refl H) hp rfl (by decide +kernel)⟩⟩
  rintro σ1 H1 ⟨p1, w1, x3, x4, rfl, S1⟩
  refine seq_then (fun σ' H' => ∃ p ws x3 x4, σ' = [some (.int c), some (.int m), some (.ref p), x3, x4, none] ∧ Six H H' p ws) ?_ ?_
  rotate_left
  · intro C hC
    walk_at "rd"
    refine ⟨by decide, ite2 (fun _ => ?_) (fun _ => hC _ _ ⟨p1, w1, x3, x4, rfl, S1⟩)⟩
    unfold tLC
    walk_at "rd"
    refine ⟨by decide, by decide, fun acc hacc => ?_⟩
    refine lcW_range (n := 6) (lo := 0) (fun i ys H2 => H2 = upd H1 acc (.lst ys) ∧ ∃ ws, ys = ws.map V.str ∧ ws.length = i ∧ ∀ x ∈ ws, Word x) ⟨rfl, [], rfl, rfl, by simp⟩ (fun i ys H2 hi ⟨e, ws, e2, e3, _⟩ => ?_) (fun i ys H2 hi ⟨e, ws, e2, e3, e4⟩ C' hC' => ?_) (fun ys H2 ⟨e, ws, e2, e3, e4⟩ => ?_)
    · subst e; subst e2
      refine ⟨upd_same, ?_⟩
      rw [List.length_map, e3]; exact small1000 (by omega)
    · subst e; subst e2
      walk_at "rd"
      refine ⟨wk_head, by decide, by omega, by omega, ?_⟩
      refine hC' _ _ upd_same ⟨by rw [upd_upd], ws ++ [Txt.mul "k" (1 + (0 + (i : Int)))], by rw [List.map_append]; rfl, by rw [List.length_append, e3]; rfl, fun x hx => ?_⟩
      rcases List.mem_append.mp hx with z | z
      · exact e4 x z
      · have z' : x = Txt.mul "k" (1 + (0 + (i : Int))) := by simpa using z
        rw [z']
        exact word_mul (c := 107) (by decide) (by decide) (by omega) (by omega)
    · subst e; subst e2
      exact hC _ _ ⟨acc, ws, x3, x4, rfl, S1.1.trans (same_new hacc _), S1.1.free hacc, upd_same, e3, e4⟩
  rintro σ2 H2 ⟨p2, w2, x3, x4, rfl, S2⟩
  refine seq_then (fun σ' H' => ∃ p ws x3 x4, σ' = [some (.int c), some (.int m), some (.ref p), x3, x4, none] ∧ Six H H' p ws) ?_ ?_
  rotate_left
  · intro C hC
    walk_at "rd"
    refine ⟨by decide, ite2 (fun _ => ?_) (fun _ => hC _ _ ⟨p2, w2, x3, x4, rfl, S2⟩)⟩
    refine ⟨⟨by decide, by decide⟩, by decide, ⟨by decide, by decide⟩, by omega, ?_⟩
    unfold tLC
    walk_at "rd"
    refine ⟨by decide, by decide, fun acc hacc => ?_⟩
    have a0 := Int.emod_nonneg (c / 32) (show 1 + c / 4 % 8 ≠ 0 by omega)
    have a1 := Int.emod_lt_of_pos (c / 32) (show 0 < 1 + c / 4 % 8 by omega)
    generalize ea : c / 32 % (1 + c / 4 % 8) = at' at a0 a1 ⊢
    generalize es : 1 + c / 4 % 8 = size at a1 ⊢
    have hs8 : size ≤ 8 := by omega
    refine lcW_range (n := 6) (lo := 0) (fun i ys H3 => H3 = upd H2 acc (.lst ys) ∧ ∃ ws, ys = ws.map V.str ∧ ws.length = i ∧ ∀ x ∈ ws, Word x) ⟨rfl, [], rfl, rfl, by simp⟩ (fun i ys H3 hi ⟨e, ws, e2, e3, _⟩ => ?_) (fun i ys H3 hi ⟨e, ws, e2, e3, e4⟩ C' hC' => ?_) (fun ys H3 ⟨e, ws, e2, e3, e4⟩ => ?_)
    · subst e; subst e2
      refine ⟨upd_same, ?_⟩
      rw [List.length_map, e3]; exact small1000 (by omega)
    · subst e; subst e2
      walk_at "rd"
      have hcd : ∃ d : Nat, atI ("aghmxz" : Str).cps.toList (0 + (i : Int)) = some d ∧ 97 ≤ d ∧ d ≤ 122 := by
        have : i = 0 ∨ i = 1 ∨ i = 2 ∨ i = 3 ∨ i = 4 ∨ i = 5 := by omega
        rcases this with rfl | rfl | rfl | rfl | rfl | rfl
        · exact ⟨97, rfl, by decide, by decide⟩
        · exact ⟨103, rfl, by decide, by decide⟩
        · exact ⟨104, rfl, by decide, by decide⟩
        · exact ⟨109, rfl, by decide, by decide⟩
        · exact ⟨120, rfl, by decide, by decide⟩
        · exact ⟨122, rfl, by decide, by decide⟩
      obtain ⟨d, hd, d1, d2⟩ := hcd
      have l1 : (Txt.mul "m" at').length ≤ 8 := by rw [show ("m" : Str) = ⟨#[109]⟩ from rfl, mul_len]; omega
      have l2 : (Txt.mul "m" (size - 1 - at')).length ≤ 8 := by rw [show ("m" : Str) = ⟨#[109]⟩ from rfl, mul_len]; omega
      have l3 : (⟨#[d]⟩ : Str).length = 1 := rfl
      have l4 : (Txt.mul "m" at' ++ (⟨#[d]⟩ : Str)).length ≤ 9 := by rw [strLen_append]; omega
      refine ⟨wk_head, by decide, by omega, by omega, by decide, d, hd, ?_, by decide, by omega, by omega, ?_, ?_⟩
      · exact Nat.le_of_lt (small1000 (by omega))
      · exact Nat.le_of_lt (small1000 (by omega))
      refine hC' _ _ upd_same ⟨by rw [upd_upd], ws ++ [Txt.mul "m" at' ++ (⟨#[d]⟩ : Str) ++ Txt.mul "m" (size - 1 - at')], by rw [List.map_append]; rfl, by rw [List.length_append, e3]; rfl, fun x hx => ?_⟩
      rcases List.mem_append.mp hx with z | z
      · exact e4 x z
      · have z' : x = Txt.mul "m" at' ++ (⟨#[d]⟩ : Str) ++ Txt.mul "m" (size - 1 - at') := by simpa using z
        rw [z']
        exact word_mid (c := 109) (by decide) (by decide) d1 d2 (by omega) (by omega) (by omega)
    · subst e; subst e2
      exact hC _ _ ⟨acc, ws, _, _, rfl, S2.1.trans (same_new hacc _), S2.1.free hacc, upd_same, e3, e4⟩
  rintro σ3 H3 ⟨p3, w3, x3, x4, rfl, S3⟩
  refine seq_then (fun σ' H' => ∃ p ws x3 x4, σ' = [some (.int c), some (.int m), some (.ref p), x3, x4, none] ∧ Six H H' p ws) ?_ ?_
  rotate_left
  · intro C hC
    walk_at "rd"
    refine ⟨by decide, ite2 (fun _ => ?_) (fun _ => hC _ _ ⟨p3, w3, x3, x4, rfl, S3⟩)⟩
    exact ⟨by decide, fun p hp => hC _ _ ⟨p, ["low", "one", "both", "then", "letter", "lows"], _, _, rfl, lit ["low", "one", "both", "then", "letter", "lows"] H3 p S3.1 hp rfl (by decide +kernel)⟩⟩
  rintro σ4 H4 ⟨p4, w4, x3, x4, rfl, S4⟩
  walk_at "rd"
  have b0 := Int.emod_nonneg (c / 256) (show (6 : Int) ≠ 0 by decide)
  have b1 := Int.emod_lt_of_pos (c / 256) (show (0 : Int) < 6 by decide)
  generalize c / 256 % 6 = st at b0 b1 ⊢
  obtain ⟨e4, f4, h4, l4, o4⟩ := S4
  refine ⟨⟨by decide, by decide⟩, by decide, w4.map V.str, .inl (.inl h4), fun q1 hq1 => ⟨w4.map V.str, ?_, fun q2 hq2 => ?_⟩⟩
  · exact sqL_ne (.inl (.inl h4)) (ne_of_none h4 hq1)
  have n21 : q2 ≠ q1 := fun z => by subst z; rw [upd_same] at hq2; cases hq2
  refine ⟨cutV (w4.map V.str) (some st) none, ?_, cutV (w4.map V.str) none (some st), upd_same, ?_, fun q3 hq3 => ⟨_, .inl (.inl upd_same), fun q4 hq4 => ?_⟩⟩
  · rw [upd_ne (Ne.symm n21), upd_same]
  · have z1 := cutV_length (w4.map V.str) (some st) none
    have z2 := cutV_length (w4.map V.str) none (some st)
    rw [List.length_map] at z1 z2
    exact Nat.le_of_lt (small1000 (by omega))
  rw [cut_map, cut_map, ← List.map_append] at hq4 ⊢
  rw [cut_map]
  have e3' : Same H4 (upd (upd (upd H4 q1 (.lst (cutV (w4.map V.str) (some st) none))) q2 (.lst (cutV (w4.map V.str) none (some st)))) q3 (.lst (cutV (w4.map V.str) (some st) none ++ cutV (w4.map V.str) none (some st)))) := ((same_new hq1 _).trans (same_new hq2 _)).trans (same_new hq3 _)
  rw [cut_map, cut_map, ← List.map_append] at e3'
  have eA := e4.trans e3'
  have hst : st = ((st.toNat : Nat) : Int) := by omega
  have hm : m = ((m.toNat : Nat) : Int) := by omega
  refine q _ _ _ (eA.trans (same_new hq4 _)) (eA.free hq4) upd_same ⟨?_, ?_, fun x hx => ?_⟩
  · rw [hst, hm]
    simp only [List.length_take, List.length_drop, List.length_append, HT.sIx_nat, HT.sIx_none, l4]
    omega
  · rw [hst, hm]
    simp only [List.length_take, List.length_drop, List.length_append, HT.sIx_nat, HT.sIx_none, l4]
    omega
  · have hx1 := List.mem_of_mem_drop (List.mem_of_mem_take hx)
    rcases List.mem_append.mp hx1 with z | z
    · exact o4 x (List.mem_of_mem_drop (List.mem_of_mem_take z))
    · exact o4 x (List.mem_of_mem_drop (List.mem_of_mem_take z))
end
set_option Elab.async false
set_option linter.all false
set_option maxRecDepth 100000
set_option maxHeartbeats 4000000
local macro_rules | `(tactic| walk_at "rd") => `(tactic| walk_at "rdx_3")
local macro_rules | `(tactic| walk_at "ri") => `(tactic| walk_at "rdx_4")
abbrev s_law : Stmt := top 24
theorem sc_law : FnScope ["_law_script", "_law_words_here", "_law_wishes", "_law_k", "_law_cell_here", "_law_goal_here", "_law_handed", "_law_some", "_law_found", "_law_again"] ["_law_script"] (defScope s_law) := ⟨rfl, rfl, rfl, by decide +kernel, rfl, by decide +kernel, by decide +kernel⟩
def sp_law16 (T : Addr) (K : PySem.W.Frag) : Sp := fun vs H Q _ => ∃ (a : Addr) (ns : List Int), vs = [.ref a] ∧ SqL K H a (ns.map V.int) ∧ ns.length ≤ 63 ∧ TabOk H T ds_column ∧ ∀ H', Q (.bl true) H'
section
variable {P : Program} {w : World} {K : PySem.W.Frag} {mg : Str → Option Value} {base : Heap}
theorem ok_law {k : Nat} {T : Addr} {f_law : Addr} {fd_law : FuncData} (F_law : Fun K "law" "law" s_law f_law fd_law) {f__law_words : Addr} {fd__law_words : FuncData} (G__law_words : FnOk P w K mg base CX0 k f__law_words fd__law_words ["_law_cell_here", "_law_many"] (sp_words)) (m__law_words : mg "_law_words" = some (.ref f__law_words)) (k__law_words : PySem.W.keepIn K (.ref f__law_words) = true) (b__law_words : Binds K fd__law_words ["_law_cell_here", "_law_many"] []) {f__law_statement : Addr} {fd__law_statement : FuncData} (G__law_statement : FnOk P w K mg base CX0 k f__law_statement fd__law_statement ["_law_cell_here", "_law_size", "_law_words_here"] (sp_stm K 47)) (m__law_statement : mg "_law_statement" = some (.ref f__law_statement)) (k__law_statement : PySem.W.keepIn K (.ref f__law_statement) = true) (b__law_statement : Binds K fd__law_statement ["_law_cell_here", "_law_size", "_law_words_here"] []) {f__law_cell : Addr} {fd__law_cell : FuncData} (G__law_cell : FnOk P w K mg base CX0 k f__law_cell fd__law_cell ["_law_script", "_law_k"] (sp_cell K)) (m__law_cell : mg "_law_cell" = some (.ref f__law_cell)) (k__law_cell : PySem.W.keepIn K (.ref f__law_cell) = true) (b__law_cell : Binds K fd__law_cell ["_law_script", "_law_k"] []) {f__law_mix : Addr} {fd__law_mix : FuncData} (G__law_mix : FnOk P w K mg base CX0 k f__law_mix fd__law_mix ["_law_cell_here", "_law_k"] (sp_mix)) (m__law_mix : mg "_law_mix" = some (.ref f__law_mix)) (k__law_mix : PySem.W.keepIn K (.ref f__law_mix) = true) (b__law_mix : Binds K fd__law_mix ["_law_cell_here", "_law_k"] []) {f__law_goal : Addr} {fd__law_goal : FuncData} (G__law_goal : FnOk P w K mg base CX0 k f__law_goal fd__law_goal ["_law_cell_here", "_law_wishes", "_law_words_here"] (sp_goalL K)) (m__law_goal : mg "_law_goal" = some (.ref f__law_goal)) (k__law_goal : PySem.W.keepIn K (.ref f__law_goal) = true) (b__law_goal : Binds K fd__law_goal ["_law_cell_here", "_law_wishes", "_law_words_here"] []) {f__law_all_letters : Addr} {fd__law_all_letters : FuncData} (G__law_all_letters : FnOk P w K mg base CX0 k f__law_all_letters fd__law_all_letters ["_law_some"] (sp_allLL K)) (m__law_all_letters : mg "_law_all_letters" = some (.ref f__law_all_letters)) (k__law_all_letters : PySem.W.keepIn K (.ref f__law_all_letters) = true) (b__law_all_letters : Binds K fd__law_all_letters ["_law_some"] []) {f_row_against : Addr} {fd_row_against : FuncData} (G_row_against : FnOk P w K mg base CX0 k f_row_against fd_row_against ["wishes", "goal"] (sp_rowA K T ds_column)) (m_row_against : mg "row_against" = some (.ref f_row_against)) (k_row_against : PySem.W.keepIn K (.ref f_row_against) = true) (b_row_against : Binds K fd_row_against ["wishes", "goal"] []) {f__law_good : Addr} {fd__law_good : FuncData} (G__law_good : FnOk P w K mg base CX0 k f__law_good fd__law_good ["_law_found", "_law_wishes", "_law_goal_here", "_law_words_here"] (sp_goodL K 30)) (m__law_good : mg "_law_good" = some (.ref f__law_good)) (k__law_good : PySem.W.keepIn K (.ref f__law_good) = true) (b__law_good : Binds K fd__law_good ["_law_found", "_law_wishes", "_law_goal_here", "_law_words_here"] []) (m_range : mg "range" = none) (m_list : mg "list" = none) : FnOk P w K mg base CX0 (k + 1) f_law fd_law ["_law_script"] (sp_law16 T K) := by
  refine F_law.ok sc_law (fun vs H Q E h => ?_) (fun cdv A outer s H vs Q E hr h => ?_)
  · obtain ⟨a, ns, rfl, _⟩ := h
    rfl
  obtain ⟨a, ns, rfl, hS, hl, tb0, q⟩ := h
  refine ⟨_, (pss_cons (ps_set (i := 1) sc_law.nd rfl (Or.inl rfl) (pe_call G__law_words hr (by exact rfl) m__law_words k__law_words b__law_words .nil pass0 (pa_cons (pe_call G__law_cell hr (by exact rfl) m__law_cell k__law_cell b__law_cell .nil pass0 (pa_cons (pv 0) (pa_cons pe_int pa_nil))) (pa_cons (pe_op op_add pe_int (pe_op op_mod (pe_call G__law_cell hr (by exact rfl) m__law_cell k__law_cell b__law_cell .nil pass0 (pa_cons (pv 0) (pa_cons pe_int pa_nil))) pe_int)) pa_nil))))
  (pss_cons (ps_set (i := 2) sc_law.nd rfl (Or.inl rfl) (pe_lst pa_nil))
  (pss_cons (ps_for PassesOwn.never rfl (pi_range1 rfl m_range (pa_cons (pe_op op_mod (pe_op op_fdiv (pe_call G__law_cell hr (by exact rfl) m__law_cell k__law_cell b__law_cell .nil pass0 (pa_cons (pv 0) (pa_cons pe_int pa_nil))) pe_int) pe_int) pa_nil)) (pg_name (i := 3) sc_law.nd rfl (Or.inl rfl))
    (pss_cons (ps_set (i := 4) sc_law.nd rfl (Or.inl rfl) (pe_call G__law_mix hr (by exact rfl) m__law_mix k__law_mix b__law_mix .nil pass0 (pa_cons (pe_call G__law_cell hr (by exact rfl) m__law_cell k__law_cell b__law_cell .nil pass0 (pa_cons (pv 0) (pa_cons (pe_op op_add pe_int (pv 3)) pa_nil))) (pa_cons (pe_op op_add (pv 3) pe_int) pa_nil))))
  (pss_one (ps_expr (pe_bm PySem.F.plainAttrs_list PySem.F.slot_list_append PySem.F.type_list_append mt_append (pv 2) (pa_cons (pe_call G__law_statement hr (by exact rfl) m__law_statement k__law_statement b__law_statement .nil pass0 (pa_cons (pv 4) (pa_cons (pe_op op_add pe_int (pe_op op_mod (pe_op op_fdiv (pv 4) pe_int) pe_int)) (pa_cons (pv 1) pa_nil)))) pa_nil))))))
  (pss_cons (ps_set (i := 5) sc_law.nd rfl (Or.inl rfl) (pe_call G__law_goal hr (by exact rfl) m__law_goal k__law_goal b__law_goal .nil pass0 (pa_cons (pe_call G__law_cell hr (by exact rfl) m__law_cell k__law_cell b__law_cell .nil pass0 (pa_cons (pv 0) (pa_cons pe_int pa_nil))) (pa_cons (pv 2) (pa_cons (pv 1) pa_nil)))))
  (pss_cons (ps_set (i := 6) sc_law.nd rfl (Or.inl rfl) (pe_callTy call_list_of (by exact rfl) m_list Ken.boot_list (pa_cons (pv 2) pa_nil)))
  (pss_cons (ps_set (i := 7) sc_law.nd rfl (Or.inl rfl) (pe_call G__law_all_letters hr (by exact rfl) m__law_all_letters k__law_all_letters b__law_all_letters .nil pass0 (pa_cons (pe_op op_cat (pv 2) (pe_lst (pa_cons (pv 5) pa_nil))) pa_nil)))
  (pss_cons (ps_set (i := 8) sc_law.nd rfl (Or.inl rfl) (pe_call G_row_against hr (by exact rfl) m_row_against k_row_against b_row_against .nil pass0 (pa_cons (pv 6) (pa_cons (pv 5) pa_nil))))
  (pss_cons (ps_if ((pw_or (pt_not (pt_val (pe_call G__law_good hr (by exact rfl) m__law_good k__law_good b__law_good .nil pass0 (pa_cons (pv 8) (pa_cons (pv 2) (pa_cons (pv 5) (pa_cons (pv 7) pa_nil))))))) (pw_or1 (pt_cmpR (op_neD (hu_150 hr)) (pv 6) (pv 2) (nomark _))))).pt
    (pss_one (ps_ret pe_bl))
    pss_nil)
  (pss_cons (ps_if (pt_cmpR (op_isN) (pv 8) pe_non (nomark _))
    (pss_one (ps_ret (pe_cmpR (op_isN) (pe_call G_row_against hr (by exact rfl) m_row_against k_row_against b_row_against .nil pass0 (pa_cons (pv 6) (pa_cons (pv 5) pa_nil))) pe_non (nomark _))))
    pss_nil)
  (pss_cons (ps_expr (pe_bm PySem.F.plainAttrs_list PySem.F.slot_list_append PySem.F.type_list_append mt_append (pv 8) (pa_cons pe_str pa_nil)))
  (pss_cons (ps_set (i := 9) sc_law.nd rfl (Or.inl rfl) (pe_call G_row_against hr (by exact rfl) m_row_against k_row_against b_row_against .nil pass0 (pa_cons (pv 6) (pa_cons (pv 5) pa_nil))))
  (pss_one (ps_ret (pe_and (pe_cmpR (op_notN) (pv 9) pe_non (nomark _)) (pe_one (pe_call G__law_good hr (by exact rfl) m__law_good k__law_good b__law_good .nil pass0 (pa_cons (pv 9) (pa_cons (pv 2) (pa_cons (pv 5) (pa_cons (pv 7) pa_nil)))))))))))))))))))), ?_⟩
  refine seq_then (fun σ' H' => ∃ wa us, σ' = [some (.ref a), some (.ref wa), none, none, none, none, none, none, none, none] ∧ Same H H' ∧ H' wa = some (.lst (us.map V.str)) ∧ Words us) ?_ ?_
  rotate_left
  · intro C hC
    walk_at "rd"
    refine ⟨a, ns, _, rfl, hS, hl, by decide, by decide, a, ns, _, rfl, hS, hl, by decide, by decide, _, rfl, by decide, _, _, rfl, cell_nn _ _, ?_, ?_, fun r H' ws e hr h hw => hC _ _ ⟨r, ws, rfl, e, h, hw⟩⟩
    · have := Int.emod_nonneg (cellOf ns 1) (show (5 : Int) ≠ 0 by decide)
      omega
    · have := Int.emod_lt_of_pos (cellOf ns 1) (show (0 : Int) < 5 by decide)
      omega
  rintro σ1 H1 ⟨wa, us, rfl, e1, h1, hu⟩
  have hu6 : us.length ≤ 6 := hu.2.1
  refine seq_then (fun σ' H' => ∃ lw, σ' = [some (.ref a), some (.ref wa), some (.ref lw), none, none, none, none, none, none, none] ∧ Same H1 H' ∧ H1 lw = none ∧ H' lw = some (.lst [])) ?_ ?_
  rotate_left
  · intro C hC
    walk_at "rd"
    exact ⟨by decide, fun p hp => hC _ _ ⟨p, rfl, same_new hp _, hp, upd_same⟩⟩
  rintro σ2 H2 ⟨lw, rfl, e2, f2, h2⟩
  refine seq_then (fun σ' H' => ∃ (x3 x4 : Option V) (vs : List V) (ts : List Tm), σ' = [some (.ref a), some (.ref wa), some (.ref lw), x3, x4, none, none, none, none, none] ∧ Same H1 H' ∧ H' lw = some (.lst vs) ∧ Paired (IsT K H') vs ts ∧ ts.length ≤ 3 ∧ ∀ s ∈ ts, s.inW us ∧ s.parts ≤ 12 ∧ s.deep ≤ 13) ?_ ?_
  rotate_left
  · intro C hC
    walk_at "ri"
    have b0 := Int.emod_nonneg (cellOf ns 1 / 5) (show (4 : Int) ≠ 0 by decide)
    have b1 := Int.emod_lt_of_pos (cellOf ns 1 / 5) (show (0 : Int) < 4 by decide)
    refine ⟨a, ns, _, rfl, (e1.trans e2).seq hS, hl, by decide, by decide, _, rfl, ⟨by decide, by decide⟩, by decide, by omega, by omega, ?_⟩
    refine for_range (D := { nx := C, rt := Q }) (n := (cellOf ns 1 / 5 % 4).toNat) (lo := 0) (fun i σ' H' => ∃ (x3 x4 : Option V) (vs : List V) (ts : List Tm), σ' = [some (.ref a), some (.ref wa), some (.ref lw), x3, x4, none, none, none, none, none] ∧ Same H1 H' ∧ H' lw = some (.lst vs) ∧ Paired (IsT K H') vs ts ∧ ts.length = i ∧ ∀ s ∈ ts, s.inW us ∧ s.parts ≤ 12 ∧ s.deep ≤ 13) ⟨none, none, [], [], rfl, e2, h2, .nil, rfl, fun s hs => by simp at hs⟩ (fun i σ' H' hi hp => ?_) (fun σ' H' ⟨x3, x4, vs, ts, g1, g2, g3, g4, g5, g6⟩ => hC _ _ ⟨x3, x4, vs, ts, g1, g2, g3, g4, by omega, g6⟩)
    obtain ⟨x3, x4, vs, ts, rfl, e, h, hV, lts, hts⟩ := hp
    have lv := Paired.length hV
    have E := e1.trans e
    walk_at "rd"
    refine ⟨a, ns, _, rfl, E.seq hS, hl, by omega, by omega, _, _, rfl, by omega, by omega, .inl ⟨rfl, _, SqL.of h⟩, _, rfl, ⟨by decide, by decide⟩, by decide, ?_⟩
    have q0 := Int.emod_nonneg (mix (cellOf ns (2 + (0 + (i : Int)))) (0 + (i : Int) + 79) / 11) (show (12 : Int) ≠ 0 by decide)
    have q1 := Int.emod_lt_of_pos (mix (cellOf ns (2 + (0 + (i : Int)))) (0 + (i : Int) + 79) / 11) (show (0 : Int) < 12 by decide)
    refine ⟨_, _, wa, us, rfl, mix_nn _ _, by omega, by omega, Nat.lt_of_le_of_lt (rk_le _) (by decide), SqL.of (e _ _ h1), hu, fun r H'' t e' m => ?_⟩
    have hB := e' _ _ h
    have sz : ∀ c : Int, 0 ≤ c → c < 12 → rk (1 + c) + 1 ≤ 13 := fun c h0 h1 => by unfold rk; rw [if_pos (by omega)]; omega
    have m1 := m.2.2.1
    have m2 := m.2.2.2
    have m3 := sz _ q0 q1
    refine ⟨_, hB, small1M (by omega), (e.trans e').write f2, _, upd_same, ts ++ [t], paired_app (Paired.mapP hV fun _ _ z => (z.keep e'.keepT).keep (keepT_lst hB)) (.cons (m.1.keep (keepT_lst hB)) .nil), by rw [List.length_append, List.length_singleton, lts], fun s hs => ?_⟩
    rcases List.mem_append.mp hs with z | z
    · exact hts s z
    · rw [List.mem_singleton.mp z]
      exact ⟨m.2.1, by omega, by omega⟩
  rintro σ3 H3 ⟨x3, x4, vs, ts, rfl, e3, h3, hV, lts, hts⟩
  have E3 := e1.trans e3
  refine seq_then (fun σ' H' => ∃ (g : V) (t : Tm), σ' = [some (.ref a), some (.ref wa), some (.ref lw), x3, x4, some g, none, none, none, none] ∧ Same H3 H' ∧ IsT K H' g t ∧ t.inW us ∧ t.parts ≤ 60 ∧ t.deep ≤ 25) ?_ ?_
  rotate_left
  · intro C hC
    walk_at "rd"
    refine ⟨a, ns, _, rfl, E3.seq hS, hl, by decide, by decide, _, lw, wa, vs, ts, us, rfl, cell_nn _ _, SqL.of h3, hV, SqL.of (e3 _ _ h1), hu, hts, fun r H' t e hT hin hp hd => hC _ _ ⟨r, t, rfl, e, hT, hin, hp, hd⟩⟩
  rintro σ4 H4 ⟨g, t, rfl, e4, hT, hin, hp, hd⟩
  have hV4 : Paired (IsT K H4) vs ts := Paired.mapP hV fun _ _ z => z.keep e4.keepT
  have lv := Paired.length hV
  have all : ∀ s ∈ ts ++ [t], s.inW us ∧ s.parts ≤ 300 ∧ s.deep ≤ 30 := fun s hs => by
    rcases List.mem_append.mp hs with z | z
    · obtain ⟨z1, z2, z3⟩ := hts s z
      exact ⟨z1, by omega, by omega⟩
    · rw [List.mem_singleton.mp z]
      exact ⟨hin, by omega, by omega⟩
  refine seq_then (fun σ' H' => ∃ lh, σ' = [some (.ref a), some (.ref wa), some (.ref lw), x3, x4, some g, some (.ref lh), none, none, none] ∧ Same H4 H' ∧ H' lh = some (.lst vs)) ?_ ?_
  rotate_left
  · intro C hC
    walk_at "rd"
    exact ⟨_, .inl (SqL.of (e4 _ _ h3)), fun l hl => hC _ _ ⟨l, rfl, same_new hl _, upd_same⟩⟩
  rintro σ5 H5 ⟨lh, rfl, e5, h5⟩
  have E5 := e4.trans e5
  refine seq_then (fun σ' H' => ∃ (ls : Addr) (S : List Str), σ' = [some (.ref a), some (.ref wa), some (.ref lw), x3, x4, some g, some (.ref lh), some (.ref ls), none, none] ∧ Same H5 H' ∧ H' ls = some (.lst (S.map V.str)) ∧ S.length ≤ 6 ∧ ∀ x, x ∈ S ↔ ∃ s ∈ ts ++ [t], x ∈ s.ltrs) ?_ ?_
  rotate_left
  · intro C hC
    walk_at "rd"
    refine ⟨by decide, fun p hp => ?_⟩
    have s1 := same_new hp (HO.lst [g])
    refine ⟨vs, s1 _ _ (E5 _ _ h3), [g], upd_same, Nat.le_of_lt (small1M (by simp; omega)), fun p1 hp1 => ?_⟩
    have s2 := same_new hp1 (HO.lst (vs ++ [g]))
    have S := s1.trans s2
    exact ⟨p1, vs ++ [g], ts ++ [t], us, rfl, SqL.of upd_same, paired_app (Paired.mapP hV4 fun _ _ z => z.keep (e5.trans S).keepT) (.cons (hT.keep (e5.trans S).keepT) .nil), fun s hs => ⟨(all s hs).1, (all s hs).2.1⟩, hu6, fun r H' ys e fr hr hyl hy => hC _ _ ⟨r, ys, rfl, S.trans e, hr, hyl, hy⟩⟩
  rintro σ6 H6 ⟨ls, S, rfl, e6, h6, hSl, hSm⟩
  have E6 := E5.trans e6
  have Sw : ∀ y ∈ S, Word y := fun y hy => by
    obtain ⟨s', hs', hx⟩ := (hSm y).mp hy
    exact ltrs_ok ((all s' hs').1.ok hu.2.2) y hx
  have tb6 : TabOk H6 T ds_column := tb0.keep (E3.trans E6)
  have h6h := e6 _ _ h5
  have h6w := E6 _ _ h3
  have hV6 : Paired (IsT K H6) vs ts := Paired.mapP hV fun _ _ z => z.keep E6.keepT
  have hT6 := hT.keep (e5.trans e6).keepT
  refine seq_then (fun σ' H' => ∃ f : V, σ' = [some (.ref a), some (.ref wa), some (.ref lw), x3, x4, some g, some (.ref lh), some (.ref ls), some f, none] ∧ SameU T H6 H' ∧ TabOk H' T ds_column ∧ ((f = .non ∧ ∀ S, agst ts t S = false) ∨ ∃ (b : Addr) (ys : List Str), f = .ref b ∧ H6 b = none ∧ H' b = some (.lst (ys.map V.str)) ∧ Rises ys ∧ (∀ y ∈ ys, y ∈ S) ∧ ys.length ≤ 6 ∧ agst ts t ys = true)) ?_ ?_
  rotate_left
  · intro C hC
    walk_at "rd"
    exact ⟨lh, vs, ts, g, t, us, rfl, h6h, hV6, hT6, fun s hs => ⟨(all s hs).1, (all s hs).2.1⟩, hu6, by omega, tb6, fun H' e tb hno => hC _ _ ⟨.non, rfl, e, tb, .inl ⟨rfl, hno⟩⟩, fun r H' ys e tb fr hr hR hx hyl hag => hC _ _ ⟨.ref r, rfl, e, tb, .inr ⟨r, ys, rfl, fr, hr, hR, fun y hy => (hSm y).mpr (hx y hy), hyl, hag⟩⟩⟩
  rintro σ7 H7 ⟨f, rfl, e7, tb7, hf⟩
  refine seq_then (fun σ' H' => σ' = [some (.ref a), some (.ref wa), some (.ref lw), x3, x4, some g, some (.ref lh), some (.ref ls), some f, none] ∧ Same H7 H') ?_ ?_
  rotate_left
  · intro C hC
    walk_at "rd"
    have h7w := e7.toT lw (HO.lst vs) (fun _ z => nomatch z) h6w
    have h7h := e7.toT lh (HO.lst vs) (fun _ z => nomatch z) h6h
    have h7s := e7.toT ls (HO.lst (S.map V.str)) (fun _ z => nomatch z) h6
    have k7 : KeepT K H6 H7 := SameT.keepT e7.toT
    have hV7 : Paired (IsT K H7) vs ts := Paired.mapP hV6 fun _ _ z => z.keep k7
    refine ⟨f, lw, vs, ts, g, t, ls, S, rfl, SqL.of h7w, hV7, hT6.keep k7, fun s hs => (all s hs).2.2, SqL.of h7s, hSl, Sw, hf.imp id (fun ⟨b, ys, z1, z2, z3⟩ => ⟨b, ys, z1, z3⟩), fun H' e => ⟨true, rfl, ?_⟩⟩
    rw [if_neg (by decide)]
    have tok : ∀ s ∈ ts, s.ok := fun s hs => (hts s hs).1.ok hu.2.2
    have hV' : Paired (IsT K H') vs ts := Paired.mapP hV7 fun _ _ z => z.keep e.keepT
    refine ⟨.list (ts.map Tm.data), ?_, .list (ts.map Tm.data), ?_, tms_lay tok, tms_lay tok, ?_, ?_⟩
    · rw [Dn]; exact ⟨lh, _, rfl, SqL.of (e _ _ h7h), tms_dn hV'⟩
    · rw [Dn]; exact ⟨lw, _, rfl, SqL.of (e _ _ h7w), tms_dn hV'⟩
    · exact Nat.le_trans (Nat.min_le_left _ _) (Nat.le_trans (tms_depth (n := 13) fun s hs => (hts s hs).2.2) (by decide))
    rw [if_pos trivial, tms_self, if_neg (by decide)]
    exact hC _ _ ⟨rfl, e⟩
  rintro σ8 H8 ⟨rfl, e8⟩
  have E8 : SameU T H6 H8 := e7.trans (Same.toU e8)
  walk_at "rd"
  rcases hf with ⟨rfl, hno⟩ | ⟨b, ys, rfl, fb, hb, hR, hys, hyl, hag⟩
  · rw [if_pos rfl]
    have k8 : KeepT K H6 H8 := SameT.keepT E8.toT
    refine ⟨lh, vs, ts, g, t, us, rfl, E8.toT lh (HO.lst vs) (fun _ z => nomatch z) h6h, Paired.mapP hV6 (fun _ _ z => z.keep k8), hT6.keep k8, fun s hs => ⟨(all s hs).1, (all s hs).2.1⟩, hu6, by omega, tb7.keep e8, fun H' e tb hno => ?_, fun r H' ys e tb fr hr hR hx hyl hag => ?_⟩
    · show Q (V.bl (decide (V.non = V.non))) H'
      rw [decide_eq_true rfl]; exact q _
    · rw [hno ys] at hag; cases hag
  · rw [if_neg (fun z => nomatch z)]
    have hb8 := e8 _ _ hb
    refine ⟨.inl ⟨rfl, _, SqL.of hb8⟩, b, rfl, _, hb8, by rw [List.length_map]; exact small1M (by omega), ?_⟩
    have E9 := E8.write (o := HO.lst (ys.map V.str ++ [V.str (Str.ofString "zzz")])) fb
    have tb9 : TabOk (upd H8 b (HO.lst (ys.map V.str ++ [V.str (Str.ofString "zzz")]))) T ds_column := Ken.TabOk.write (tb7.keep e8) hb8
    generalize upd H8 b (HO.lst (ys.map V.str ++ [V.str (Str.ofString "zzz")])) = H9 at E9 tb9 ⊢
    have k9 : KeepT K H6 H9 := SameT.keepT E9.toT
    refine ⟨lh, vs, ts, g, t, us, rfl, E9.toT lh (HO.lst vs) (fun _ z => nomatch z) h6h, Paired.mapP hV6 (fun _ _ z => z.keep k9), hT6.keep k9, fun s hs => ⟨(all s hs).1, (all s hs).2.1⟩, hu6, by omega, tb9, fun H' e tb hno => ?_, fun r H' ys2 e tb fr hr hR2 hx hyl2 hag2 => ?_⟩
    · rw [hno ys] at hag; cases hag
    · show if (!decide (V.ref r = V.non)) = true then sp_goodL K 30 [V.ref r, V.ref lw, g, V.ref ls] H' Q E0 else Q (V.bl false) H'
      rw [if_pos (by rfl)]
      have E10 := E9.trans e
      have k10 : KeepT K H6 H' := SameT.keepT E10.toT
      exact ⟨.ref r, lw, vs, ts, g, t, ls, S, rfl, SqL.of (E10.toT lw (HO.lst vs) (fun _ z => nomatch z) h6w), Paired.mapP hV6 (fun _ _ z => z.keep k10), hT6.keep k10, fun s hs => (all s hs).2.2, SqL.of (E10.toT ls (HO.lst (S.map V.str)) (fun _ z => nomatch z) h6), hSl, Sw, .inr ⟨r, ys2, rfl, hr, hR2, fun y hy => (hSm y).mpr (hx y hy), hyl2, hag2⟩, fun H'' _ => q _⟩
end
set_option Elab.async false
set_option linter.all false
set_option maxRecDepth 100000
set_option maxHeartbeats 4000000
theorem all_mk {l : PySem.W.OpenLaw} {w : World} {K0 K : PySem.W.Frag} {h : Heap} {mg : Str → Option Value} {fa bm T_column : Addr} (X : K0.In h) (G : h.Ns mainGlobals mg) (hfa : mg "law" = some (.ref fa)) (kle : ∀ a o, K0.lookup a = some o → K.lookup a = some o) (hblt : BltK K mg bm) (nT : ∀ p ∈ [T_column], bm ≠ p)
    {f__law_mix : Addr} {od__law_mix an__law_mix : Option Addr} {sl__law_mix : Array (Option Value)} {oc__law_mix kV__law_mix dc__law_mix pm__law_mix cd__law_mix ct__law_mix : Value}
    {f__law_cell : Addr} {od__law_cell an__law_cell : Option Addr} {sl__law_cell : Array (Option Value)} {oc__law_cell kV__law_cell dc__law_cell pm__law_cell cd__law_cell ct__law_cell : Value}
    {f__law_words : Addr} {od__law_words an__law_words : Option Addr} {sl__law_words : Array (Option Value)} {oc__law_words kV__law_words dc__law_words pm__law_words cd__law_words ct__law_words : Value}
    {f__law_leaf : Addr} {od__law_leaf an__law_leaf : Option Addr} {sl__law_leaf : Array (Option Value)} {oc__law_leaf kV__law_leaf dc__law_leaf pm__law_leaf cd__law_leaf ct__law_leaf : Value}
    {f__law_statement : Addr} {od__law_statement an__law_statement : Option Addr} {sl__law_statement : Array (Option Value)} {oc__law_statement kV__law_statement dc__law_statement pm__law_statement cd__law_statement ct__law_statement : Value}
    {f_within : Addr} {od_within an_within : Option Addr} {sl_within : Array (Option Value)} {oc_within kV_within dc_within pm_within cd_within ct_within : Value}
    {f_pieces : Addr} {od_pieces an_pieces : Option Addr} {sl_pieces : Array (Option Value)} {oc_pieces kV_pieces dc_pieces pm_pieces cd_pieces ct_pieces : Value}
    {f_folded : Addr} {od_folded an_folded : Option Addr} {sl_folded : Array (Option Value)} {oc_folded kV_folded dc_folded pm_folded cd_folded ct_folded : Value}
    {f_letters : Addr} {od_letters an_letters : Option Addr} {sl_letters : Array (Option Value)} {oc_letters kV_letters dc_letters pm_letters cd_letters ct_letters : Value}
    {f_all_letters : Addr} {od_all_letters an_all_letters : Option Addr} {sl_all_letters : Array (Option Value)} {oc_all_letters kV_all_letters dc_all_letters pm_all_letters cd_all_letters ct_all_letters : Value}
    {f_columns_of : Addr} {od_columns_of an_columns_of : Option Addr} {sl_columns_of : Array (Option Value)} {oc_columns_of kV_columns_of dc_columns_of pm_columns_of cd_columns_of ct_columns_of : Value}
    {f_column ca_column : Addr} {od_column an_column od2_column : Option Addr} {sl_column sl2_column : Array (Option Value)} {vs_column : Array Value} {oc_column kV_column dc_column pm_column ct_column : Value}
    {f_row_against : Addr} {od_row_against an_row_against : Option Addr} {sl_row_against : Array (Option Value)} {oc_row_against kV_row_against dc_row_against pm_row_against cd_row_against ct_row_against : Value}
    {f__law_within : Addr} {od__law_within an__law_within : Option Addr} {sl__law_within : Array (Option Value)} {oc__law_within kV__law_within dc__law_within pm__law_within cd__law_within ct__law_within : Value}
    {f__law_true : Addr} {od__law_true an__law_true : Option Addr} {sl__law_true : Array (Option Value)} {oc__law_true kV__law_true dc__law_true pm__law_true cd__law_true ct__law_true : Value}
    {f__law_against : Addr} {od__law_against an__law_against : Option Addr} {sl__law_against : Array (Option Value)} {oc__law_against kV__law_against dc__law_against pm__law_against cd__law_against ct__law_against : Value}
    {f__law_all_letters : Addr} {od__law_all_letters an__law_all_letters : Option Addr} {sl__law_all_letters : Array (Option Value)} {oc__law_all_letters kV__law_all_letters dc__law_all_letters pm__law_all_letters cd__law_all_letters ct__law_all_letters : Value}
    {f__law_any : Addr} {od__law_any an__law_any : Option Addr} {sl__law_any : Array (Option Value)} {oc__law_any kV__law_any dc__law_any pm__law_any cd__law_any ct__law_any : Value}
    {f__law_good : Addr} {od__law_good an__law_good : Option Addr} {sl__law_good : Array (Option Value)} {oc__law_good kV__law_good dc__law_good pm__law_good cd__law_good ct__law_good : Value}
    {f__law_goal : Addr} {od__law_goal an__law_goal : Option Addr} {sl__law_goal : Array (Option Value)} {oc__law_goal kV__law_goal dc__law_goal pm__law_goal cd__law_goal ct__law_goal : Value}
    {f_law : Addr} {od_law an_law : Option Addr} {sl_law : Array (Option Value)} {oc_law kV_law dc_law pm_law cd_law ct_law : Value}
    {aPAIRED : Addr} {od_PAIRED : Option Addr} {sl_PAIRED : Array (Option Value)} {n_PAIRED tk_PAIRED_0 tk_PAIRED_1 tk_PAIRED_2 : Nat}
    (a__law_mix : PySem.W.nsIn K0 mainGlobals "_law_mix" = some (some (.ref f__law_mix))) (l__law_mix : K0.lookup f__law_mix = some ⟨oc__law_mix, od__law_mix, .func (PySem.W.fnOf "_law_mix" "_law_mix" (defArgs s__law_mix) (defBody s__law_mix) (defScope s__law_mix) .none kV__law_mix dc__law_mix pm__law_mix an__law_mix cd__law_mix ct__law_mix), sl__law_mix⟩) (c__law_mix : PySem.W.codeIn K0 cd__law_mix "_law_mix" = true) (k__law_mix : PySem.W.keepIn K0 (.ref f__law_mix) = true)
    (a__law_cell : PySem.W.nsIn K0 mainGlobals "_law_cell" = some (some (.ref f__law_cell))) (l__law_cell : K0.lookup f__law_cell = some ⟨oc__law_cell, od__law_cell, .func (PySem.W.fnOf "_law_cell" "_law_cell" (defArgs s__law_cell) (defBody s__law_cell) (defScope s__law_cell) .none kV__law_cell dc__law_cell pm__law_cell an__law_cell cd__law_cell ct__law_cell), sl__law_cell⟩) (c__law_cell : PySem.W.codeIn K0 cd__law_cell "_law_cell" = true) (k__law_cell : PySem.W.keepIn K0 (.ref f__law_cell) = true)
    (a__law_words : PySem.W.nsIn K0 mainGlobals "_law_words" = some (some (.ref f__law_words))) (l__law_words : K0.lookup f__law_words = some ⟨oc__law_words, od__law_words, .func (PySem.W.fnOf "_law_words" "_law_words" (defArgs s__law_words) (defBody s__law_words) (defScope s__law_words) .none kV__law_words dc__law_words pm__law_words an__law_words cd__law_words ct__law_words), sl__law_words⟩) (c__law_words : PySem.W.codeIn K0 cd__law_words "_law_words" = true) (k__law_words : PySem.W.keepIn K0 (.ref f__law_words) = true)
    (a__law_leaf : PySem.W.nsIn K0 mainGlobals "_law_leaf" = some (some (.ref f__law_leaf))) (l__law_leaf : K0.lookup f__law_leaf = some ⟨oc__law_leaf, od__law_leaf, .func (PySem.W.fnOf "_law_leaf" "_law_leaf" (defArgs s__law_leaf) (defBody s__law_leaf) (defScope s__law_leaf) .none kV__law_leaf dc__law_leaf pm__law_leaf an__law_leaf cd__law_leaf ct__law_leaf), sl__law_leaf⟩) (c__law_leaf : PySem.W.codeIn K0 cd__law_leaf "_law_leaf" = true) (k__law_leaf : PySem.W.keepIn K0 (.ref f__law_leaf) = true)
    (a__law_statement : PySem.W.nsIn K0 mainGlobals "_law_statement" = some (some (.ref f__law_statement))) (l__law_statement : K0.lookup f__law_statement = some ⟨oc__law_statement, od__law_statement, .func (PySem.W.fnOf "_law_statement" "_law_statement" (defArgs s__law_statement) (defBody s__law_statement) (defScope s__law_statement) .none kV__law_statement dc__law_statement pm__law_statement an__law_statement cd__law_statement ct__law_statement), sl__law_statement⟩) (c__law_statement : PySem.W.codeIn K0 cd__law_statement "_law_statement" = true) (k__law_statement : PySem.W.keepIn K0 (.ref f__law_statement) = true)
    (a_within : PySem.W.nsIn K0 mainGlobals "within" = some (some (.ref f_within))) (l_within : K0.lookup f_within = some ⟨oc_within, od_within, .func (PySem.W.fnOf "within" "within" (defArgs s_within) (defBody s_within) (defScope s_within) .none kV_within dc_within pm_within an_within cd_within ct_within), sl_within⟩) (c_within : PySem.W.codeIn K0 cd_within "within" = true) (k_within : PySem.W.keepIn K0 (.ref f_within) = true)
    (a_pieces : PySem.W.nsIn K0 mainGlobals "pieces" = some (some (.ref f_pieces))) (l_pieces : K0.lookup f_pieces = some ⟨oc_pieces, od_pieces, .func (PySem.W.fnOf "pieces" "pieces" (defArgs s_pieces) (defBody s_pieces) (defScope s_pieces) .none kV_pieces dc_pieces pm_pieces an_pieces cd_pieces ct_pieces), sl_pieces⟩) (c_pieces : PySem.W.codeIn K0 cd_pieces "pieces" = true) (k_pieces : PySem.W.keepIn K0 (.ref f_pieces) = true)
    (a_folded : PySem.W.nsIn K0 mainGlobals "folded" = some (some (.ref f_folded))) (l_folded : K0.lookup f_folded = some ⟨oc_folded, od_folded, .func (PySem.W.fnOf "folded" "folded" (defArgs s_folded) (defBody s_folded) (defScope s_folded) .none kV_folded dc_folded pm_folded an_folded cd_folded ct_folded), sl_folded⟩) (c_folded : PySem.W.codeIn K0 cd_folded "folded" = true) (k_folded : PySem.W.keepIn K0 (.ref f_folded) = true)
    (a_letters : PySem.W.nsIn K0 mainGlobals "letters" = some (some (.ref f_letters))) (l_letters : K0.lookup f_letters = some ⟨oc_letters, od_letters, .func (PySem.W.fnOf "letters" "letters" (defArgs s_letters) (defBody s_letters) (defScope s_letters) .none kV_letters dc_letters pm_letters an_letters cd_letters ct_letters), sl_letters⟩) (c_letters : PySem.W.codeIn K0 cd_letters "letters" = true) (k_letters : PySem.W.keepIn K0 (.ref f_letters) = true)
    (a_all_letters : PySem.W.nsIn K0 mainGlobals "all_letters" = some (some (.ref f_all_letters))) (l_all_letters : K0.lookup f_all_letters = some ⟨oc_all_letters, od_all_letters, .func (PySem.W.fnOf "all_letters" "all_letters" (defArgs s_all_letters) (defBody s_all_letters) (defScope s_all_letters) .none kV_all_letters dc_all_letters pm_all_letters an_all_letters cd_all_letters ct_all_letters), sl_all_letters⟩) (c_all_letters : PySem.W.codeIn K0 cd_all_letters "all_letters" = true) (k_all_letters : PySem.W.keepIn K0 (.ref f_all_letters) = true)
    (a_columns_of : PySem.W.nsIn K0 mainGlobals "columns_of" = some (some (.ref f_columns_of))) (l_columns_of : K0.lookup f_columns_of = some ⟨oc_columns_of, od_columns_of, .func (PySem.W.fnOf "columns_of" "columns_of" (defArgs s_columns_of) (defBody s_columns_of) (defScope s_columns_of) .none kV_columns_of dc_columns_of pm_columns_of an_columns_of cd_columns_of ct_columns_of), sl_columns_of⟩) (c_columns_of : PySem.W.codeIn K0 cd_columns_of "columns_of" = true) (k_columns_of : PySem.W.keepIn K0 (.ref f_columns_of) = true)
    (a_column : PySem.W.nsIn K0 mainGlobals "column" = some (some (.ref f_column))) (l_column : K0.lookup f_column = some ⟨oc_column, od_column, .func (PySem.W.fnOf "column" "column" (defArgs s_column) (defBody s_column) (defScope s_column) .none kV_column dc_column pm_column an_column (.ref ca_column) ct_column), sl_column⟩) (c_column : PySem.W.codeIn K0 (.ref ca_column) "column" = true) (k_column : PySem.W.keepIn K0 (.ref f_column) = true) (e_column : K0.lookup ca_column = some ⟨.type "code", od2_column, .fields vs_column, sl2_column⟩) (x_column : CodeFs vs_column T_column) (n_column : ca_column ≠ T_column) (v_column : mainGlobals ≠ T_column)
    (a_row_against : PySem.W.nsIn K0 mainGlobals "row_against" = some (some (.ref f_row_against))) (l_row_against : K0.lookup f_row_against = some ⟨oc_row_against, od_row_against, .func (PySem.W.fnOf "row_against" "row_against" (defArgs s_row_against) (defBody s_row_against) (defScope s_row_against) .none kV_row_against dc_row_against pm_row_against an_row_against cd_row_against ct_row_against), sl_row_against⟩) (c_row_against : PySem.W.codeIn K0 cd_row_against "row_against" = true) (k_row_against : PySem.W.keepIn K0 (.ref f_row_against) = true)
    (a__law_within : PySem.W.nsIn K0 mainGlobals "_law_within" = some (some (.ref f__law_within))) (l__law_within : K0.lookup f__law_within = some ⟨oc__law_within, od__law_within, .func (PySem.W.fnOf "_law_within" "_law_within" (defArgs s__law_within) (defBody s__law_within) (defScope s__law_within) .none kV__law_within dc__law_within pm__law_within an__law_within cd__law_within ct__law_within), sl__law_within⟩) (c__law_within : PySem.W.codeIn K0 cd__law_within "_law_within" = true) (k__law_within : PySem.W.keepIn K0 (.ref f__law_within) = true)
    (a__law_true : PySem.W.nsIn K0 mainGlobals "_law_true" = some (some (.ref f__law_true))) (l__law_true : K0.lookup f__law_true = some ⟨oc__law_true, od__law_true, .func (PySem.W.fnOf "_law_true" "_law_true" (defArgs s__law_true) (defBody s__law_true) (defScope s__law_true) .none kV__law_true dc__law_true pm__law_true an__law_true cd__law_true ct__law_true), sl__law_true⟩) (c__law_true : PySem.W.codeIn K0 cd__law_true "_law_true" = true) (k__law_true : PySem.W.keepIn K0 (.ref f__law_true) = true)
    (a__law_against : PySem.W.nsIn K0 mainGlobals "_law_against" = some (some (.ref f__law_against))) (l__law_against : K0.lookup f__law_against = some ⟨oc__law_against, od__law_against, .func (PySem.W.fnOf "_law_against" "_law_against" (defArgs s__law_against) (defBody s__law_against) (defScope s__law_against) .none kV__law_against dc__law_against pm__law_against an__law_against cd__law_against ct__law_against), sl__law_against⟩) (c__law_against : PySem.W.codeIn K0 cd__law_against "_law_against" = true) (k__law_against : PySem.W.keepIn K0 (.ref f__law_against) = true)
    (a__law_all_letters : PySem.W.nsIn K0 mainGlobals "_law_all_letters" = some (some (.ref f__law_all_letters))) (l__law_all_letters : K0.lookup f__law_all_letters = some ⟨oc__law_all_letters, od__law_all_letters, .func (PySem.W.fnOf "_law_all_letters" "_law_all_letters" (defArgs s__law_all_letters) (defBody s__law_all_letters) (defScope s__law_all_letters) .none kV__law_all_letters dc__law_all_letters pm__law_all_letters an__law_all_letters cd__law_all_letters ct__law_all_letters), sl__law_all_letters⟩) (c__law_all_letters : PySem.W.codeIn K0 cd__law_all_letters "_law_all_letters" = true) (k__law_all_letters : PySem.W.keepIn K0 (.ref f__law_all_letters) = true)
    (a__law_any : PySem.W.nsIn K0 mainGlobals "_law_any" = some (some (.ref f__law_any))) (l__law_any : K0.lookup f__law_any = some ⟨oc__law_any, od__law_any, .func (PySem.W.fnOf "_law_any" "_law_any" (defArgs s__law_any) (defBody s__law_any) (defScope s__law_any) .none kV__law_any dc__law_any pm__law_any an__law_any cd__law_any ct__law_any), sl__law_any⟩) (c__law_any : PySem.W.codeIn K0 cd__law_any "_law_any" = true) (k__law_any : PySem.W.keepIn K0 (.ref f__law_any) = true)
    (a__law_good : PySem.W.nsIn K0 mainGlobals "_law_good" = some (some (.ref f__law_good))) (l__law_good : K0.lookup f__law_good = some ⟨oc__law_good, od__law_good, .func (PySem.W.fnOf "_law_good" "_law_good" (defArgs s__law_good) (defBody s__law_good) (defScope s__law_good) .none kV__law_good dc__law_good pm__law_good an__law_good cd__law_good ct__law_good), sl__law_good⟩) (c__law_good : PySem.W.codeIn K0 cd__law_good "_law_good" = true) (k__law_good : PySem.W.keepIn K0 (.ref f__law_good) = true)
    (a__law_goal : PySem.W.nsIn K0 mainGlobals "_law_goal" = some (some (.ref f__law_goal))) (l__law_goal : K0.lookup f__law_goal = some ⟨oc__law_goal, od__law_goal, .func (PySem.W.fnOf "_law_goal" "_law_goal" (defArgs s__law_goal) (defBody s__law_goal) (defScope s__law_goal) .none kV__law_goal dc__law_goal pm__law_goal an__law_goal cd__law_goal ct__law_goal), sl__law_goal⟩) (c__law_goal : PySem.W.codeIn K0 cd__law_goal "_law_goal" = true) (k__law_goal : PySem.W.keepIn K0 (.ref f__law_goal) = true)
    (a_law : PySem.W.nsIn K0 mainGlobals "law" = some (some (.ref f_law))) (l_law : K0.lookup f_law = some ⟨oc_law, od_law, .func (PySem.W.fnOf "law" "law" (defArgs s_law) (defBody s_law) (defScope s_law) .none kV_law dc_law pm_law an_law cd_law ct_law), sl_law⟩) (c_law : PySem.W.codeIn K0 cd_law "law" = true) (k_law : PySem.W.keepIn K0 (.ref f_law) = true)
    (g_PAIRED : PySem.W.nsIn K0 mainGlobals "PAIRED" = some (some (.ref aPAIRED))) (o_PAIRED : K0.lookup aPAIRED = some ⟨.type "tuple", od_PAIRED, .seq #[.str "both" tk_PAIRED_0, .str "one" tk_PAIRED_1, .str "then" tk_PAIRED_2] n_PAIRED, sl_PAIRED⟩)
    (z_len : PySem.W.nsIn K0 mainGlobals "len" = some none)
    (z_range : PySem.W.nsIn K0 mainGlobals "range" = some none)
    (z_sorted : PySem.W.nsIn K0 mainGlobals "sorted" = some none)
    (z_enumerate : PySem.W.nsIn K0 mainGlobals "enumerate" = some none)
    (z_isinstance : PySem.W.nsIn K0 mainGlobals "isinstance" = some none)
    (z_list : PySem.W.nsIn K0 mainGlobals "list" = some none)
    (z_set : PySem.W.nsIn K0 mainGlobals "set" = some none)
    (z_str : PySem.W.nsIn K0 mainGlobals "str" = some none)
    (z_reversed : PySem.W.nsIn K0 mainGlobals "reversed" = some none) :
    ∃ fd : FuncData, (∀ (s : Shared) (v : Value), BindsTo s fd ⟨[v], []⟩ [("_law_script", v)]) ∧ ∀ base : Heap, K.In base → base.Ns mainGlobals mg → FnOk l.prog w K mg base CX0 50 fa fd ["_law_script"] (sp_law16 T_column K) := by
  have e := hfa.symm.trans (PySem.W.mg_of X G a_law)
  cases e
  have l__law_mix := kle _ _ l__law_mix
  have c__law_mix := codeIn_le kle c__law_mix
  have k__law_mix := keepIn_fn l__law_mix
  have m__law_mix := PySem.W.mg_of X G a__law_mix
  have b__law_mix := (fun_mk (st := s__law_mix) l__law_mix c__law_mix k__law_mix).binds (ps := ["_law_cell_here", "_law_k"]) fun _ _ _ _ _ _ us hl => match us, hl with | [_, _], _ => rfl
  have F__law_mix := fun_mk (st := s__law_mix) l__law_mix c__law_mix k__law_mix
  have l__law_cell := kle _ _ l__law_cell
  have c__law_cell := codeIn_le kle c__law_cell
  have k__law_cell := keepIn_fn l__law_cell
  have m__law_cell := PySem.W.mg_of X G a__law_cell
  have b__law_cell := (fun_mk (st := s__law_cell) l__law_cell c__law_cell k__law_cell).binds (ps := ["_law_script", "_law_k"]) fun _ _ _ _ _ _ us hl => match us, hl with | [_, _], _ => rfl
  have F__law_cell := fun_mk (st := s__law_cell) l__law_cell c__law_cell k__law_cell
  have l__law_words := kle _ _ l__law_words
  have c__law_words := codeIn_le kle c__law_words
  have k__law_words := keepIn_fn l__law_words
  have m__law_words := PySem.W.mg_of X G a__law_words
  have b__law_words := (fun_mk (st := s__law_words) l__law_words c__law_words k__law_words).binds (ps := ["_law_cell_here", "_law_many"]) fun _ _ _ _ _ _ us hl => match us, hl with | [_, _], _ => rfl
  have F__law_words := fun_mk (st := s__law_words) l__law_words c__law_words k__law_words
  have l__law_leaf := kle _ _ l__law_leaf
  have c__law_leaf := codeIn_le kle c__law_leaf
  have k__law_leaf := keepIn_fn l__law_leaf
  have m__law_leaf := PySem.W.mg_of X G a__law_leaf
  have b__law_leaf := (fun_mk (st := s__law_leaf) l__law_leaf c__law_leaf k__law_leaf).binds (ps := ["_law_cell_here", "_law_words_here"]) fun _ _ _ _ _ _ us hl => match us, hl with | [_, _], _ => rfl
  have F__law_leaf := fun_mk (st := s__law_leaf) l__law_leaf c__law_leaf k__law_leaf
  have l__law_statement := kle _ _ l__law_statement
  have c__law_statement := codeIn_le kle c__law_statement
  have k__law_statement := keepIn_fn l__law_statement
  have m__law_statement := PySem.W.mg_of X G a__law_statement
  have b__law_statement := (fun_mk (st := s__law_statement) l__law_statement c__law_statement k__law_statement).binds (ps := ["_law_cell_here", "_law_size", "_law_words_here"]) fun _ _ _ _ _ _ us hl => match us, hl with | [_, _, _], _ => rfl
  have F__law_statement := fun_mk (st := s__law_statement) l__law_statement c__law_statement k__law_statement
  have l_within := kle _ _ l_within
  have c_within := codeIn_le kle c_within
  have k_within := keepIn_fn l_within
  have m_within := PySem.W.mg_of X G a_within
  have b_within := (fun_mk (st := s_within) l_within c_within k_within).binds (ps := ["statement"]) fun _ _ _ _ _ _ us hl => match us, hl with | [_], _ => rfl
  have F_within := fun_mk (st := s_within) l_within c_within k_within
  have l_pieces := kle _ _ l_pieces
  have c_pieces := codeIn_le kle c_pieces
  have k_pieces := keepIn_fn l_pieces
  have m_pieces := PySem.W.mg_of X G a_pieces
  have b_pieces := (fun_mk (st := s_pieces) l_pieces c_pieces k_pieces).binds (ps := ["statement"]) fun _ _ _ _ _ _ us hl => match us, hl with | [_], _ => rfl
  have F_pieces := fun_mk (st := s_pieces) l_pieces c_pieces k_pieces
  have l_folded := kle _ _ l_folded
  have c_folded := codeIn_le kle c_folded
  have k_folded := keepIn_fn l_folded
  have m_folded := PySem.W.mg_of X G a_folded
  have b_folded := (fun_mk (st := s_folded) l_folded c_folded k_folded).binds (ps := ["statement", "of_simple", "of_pair"]) fun _ _ _ _ _ _ us hl => match us, hl with | [_, _, _], _ => rfl
  have F_folded := fun_mk (st := s_folded) l_folded c_folded k_folded
  have l_letters := kle _ _ l_letters
  have c_letters := codeIn_le kle c_letters
  have k_letters := keepIn_fn l_letters
  have m_letters := PySem.W.mg_of X G a_letters
  have b_letters := (fun_mk (st := s_letters) l_letters c_letters k_letters).binds (ps := ["statement"]) fun _ _ _ _ _ _ us hl => match us, hl with | [_], _ => rfl
  have F_letters := fun_mk (st := s_letters) l_letters c_letters k_letters
  have l_all_letters := kle _ _ l_all_letters
  have c_all_letters := codeIn_le kle c_all_letters
  have k_all_letters := keepIn_fn l_all_letters
  have m_all_letters := PySem.W.mg_of X G a_all_letters
  have b_all_letters := (fun_mk (st := s_all_letters) l_all_letters c_all_letters k_all_letters).binds (ps := ["some"]) fun _ _ _ _ _ _ us hl => match us, hl with | [_], _ => rfl
  have F_all_letters := fun_mk (st := s_all_letters) l_all_letters c_all_letters k_all_letters
  have l_columns_of := kle _ _ l_columns_of
  have c_columns_of := codeIn_le kle c_columns_of
  have k_columns_of := keepIn_fn l_columns_of
  have m_columns_of := PySem.W.mg_of X G a_columns_of
  have b_columns_of := (fun_mk (st := s_columns_of) l_columns_of c_columns_of k_columns_of).binds (ps := ["words"]) fun _ _ _ _ _ _ us hl => match us, hl with | [_], _ => rfl
  have F_columns_of := fun_mk (st := s_columns_of) l_columns_of c_columns_of k_columns_of
  have m_column := PySem.W.mg_of X G a_column
  have l_column := kle _ _ l_column
  have c_column := codeIn_le kle c_column
  have k_column := keepIn_fn l_column
  have e_column := kle _ _ e_column
  have b_column := (fun_mk (st := s_column) l_column c_column k_column).binds (ps := ["statement", "columns", "everywhere"]) fun _ _ _ _ _ _ us hl => match us, hl with | [_, _, _], _ => rfl
  have F_column := funT_mk (st := s_column) l_column c_column k_column (codeHd_of e_column x_column n_column)
  have hB_column := fun h k => hblt.at (nT T_column (by simp)) h k
  have l_row_against := kle _ _ l_row_against
  have c_row_against := codeIn_le kle c_row_against
  have k_row_against := keepIn_fn l_row_against
  have m_row_against := PySem.W.mg_of X G a_row_against
  have b_row_against := (fun_mk (st := s_row_against) l_row_against c_row_against k_row_against).binds (ps := ["wishes", "goal"]) fun _ _ _ _ _ _ us hl => match us, hl with | [_, _], _ => rfl
  have F_row_against := fun_mk (st := s_row_against) l_row_against c_row_against k_row_against
  have l__law_within := kle _ _ l__law_within
  have c__law_within := codeIn_le kle c__law_within
  have k__law_within := keepIn_fn l__law_within
  have m__law_within := PySem.W.mg_of X G a__law_within
  have b__law_within := (fun_mk (st := s__law_within) l__law_within c__law_within k__law_within).binds (ps := ["_law_statement_here"]) fun _ _ _ _ _ _ us hl => match us, hl with | [_], _ => rfl
  have F__law_within := fun_mk (st := s__law_within) l__law_within c__law_within k__law_within
  have l__law_true := kle _ _ l__law_true
  have c__law_true := codeIn_le kle c__law_true
  have k__law_true := keepIn_fn l__law_true
  have m__law_true := PySem.W.mg_of X G a__law_true
  have b__law_true := (fun_mk (st := s__law_true) l__law_true c__law_true k__law_true).binds (ps := ["_law_statement_here", "_law_trues"]) fun _ _ _ _ _ _ us hl => match us, hl with | [_, _], _ => rfl
  have F__law_true := fun_mk (st := s__law_true) l__law_true c__law_true k__law_true
  have l__law_against := kle _ _ l__law_against
  have c__law_against := codeIn_le kle c__law_against
  have k__law_against := keepIn_fn l__law_against
  have m__law_against := PySem.W.mg_of X G a__law_against
  have b__law_against := (fun_mk (st := s__law_against) l__law_against c__law_against k__law_against).binds (ps := ["_law_wishes", "_law_goal_here", "_law_trues"]) fun _ _ _ _ _ _ us hl => match us, hl with | [_, _, _], _ => rfl
  have F__law_against := fun_mk (st := s__law_against) l__law_against c__law_against k__law_against
  have l__law_all_letters := kle _ _ l__law_all_letters
  have c__law_all_letters := codeIn_le kle c__law_all_letters
  have k__law_all_letters := keepIn_fn l__law_all_letters
  have m__law_all_letters := PySem.W.mg_of X G a__law_all_letters
  have b__law_all_letters := (fun_mk (st := s__law_all_letters) l__law_all_letters c__law_all_letters k__law_all_letters).binds (ps := ["_law_some"]) fun _ _ _ _ _ _ us hl => match us, hl with | [_], _ => rfl
  have F__law_all_letters := fun_mk (st := s__law_all_letters) l__law_all_letters c__law_all_letters k__law_all_letters
  have l__law_any := kle _ _ l__law_any
  have c__law_any := codeIn_le kle c__law_any
  have k__law_any := keepIn_fn l__law_any
  have m__law_any := PySem.W.mg_of X G a__law_any
  have b__law_any := (fun_mk (st := s__law_any) l__law_any c__law_any k__law_any).binds (ps := ["_law_wishes", "_law_goal_here", "_law_words_here"]) fun _ _ _ _ _ _ us hl => match us, hl with | [_, _, _], _ => rfl
  have F__law_any := fun_mk (st := s__law_any) l__law_any c__law_any k__law_any
  have l__law_good := kle _ _ l__law_good
  have c__law_good := codeIn_le kle c__law_good
  have k__law_good := keepIn_fn l__law_good
  have m__law_good := PySem.W.mg_of X G a__law_good
  have b__law_good := (fun_mk (st := s__law_good) l__law_good c__law_good k__law_good).binds (ps := ["_law_found", "_law_wishes", "_law_goal_here", "_law_words_here"]) fun _ _ _ _ _ _ us hl => match us, hl with | [_, _, _, _], _ => rfl
  have F__law_good := fun_mk (st := s__law_good) l__law_good c__law_good k__law_good
  have l__law_goal := kle _ _ l__law_goal
  have c__law_goal := codeIn_le kle c__law_goal
  have k__law_goal := keepIn_fn l__law_goal
  have m__law_goal := PySem.W.mg_of X G a__law_goal
  have b__law_goal := (fun_mk (st := s__law_goal) l__law_goal c__law_goal k__law_goal).binds (ps := ["_law_cell_here", "_law_wishes", "_law_words_here"]) fun _ _ _ _ _ _ us hl => match us, hl with | [_, _, _], _ => rfl
  have F__law_goal := fun_mk (st := s__law_goal) l__law_goal c__law_goal k__law_goal
  have l_law := kle _ _ l_law
  have c_law := codeIn_le kle c_law
  have k_law := keepIn_fn l_law
  have F_law := fun_mk (st := s_law) l_law c_law k_law
  have m_PAIRED := PySem.W.mg_of X G g_PAIRED
  have o_PAIRED := kle _ _ o_PAIRED
  have t_PAIRED : ∀ H, SqT K H aPAIRED [.str "both", .str "one", .str "then"] := fun H => .inr ⟨_, _, _, o_PAIRED, rfl, rfl, (show 3 ≤ sizeLine by decide), .cons ⟨_, rfl⟩ (.cons ⟨_, rfl⟩ (.cons ⟨_, rfl⟩ (.nil)))⟩
  have m_len := PySem.W.mg_none_of X G z_len
  have m_range := PySem.W.mg_none_of X G z_range
  have m_sorted := PySem.W.mg_none_of X G z_sorted
  have m_enumerate := PySem.W.mg_none_of X G z_enumerate
  have m_isinstance := PySem.W.mg_none_of X G z_isinstance
  have m_list := PySem.W.mg_none_of X G z_list
  have m_set := PySem.W.mg_none_of X G z_set
  have m_str := PySem.W.mg_none_of X G z_str
  have m_reversed := PySem.W.mg_none_of X G z_reversed
  refine ⟨PySem.W.fnOf "law" "law" (defArgs s_law) (defBody s_law) (defScope s_law) .none kV_law dc_law pm_law an_law cd_law ct_law, fun s v => .of_eq rfl, fun base _ _ => ?_⟩
  have G__law_mix := ok__law_mix (P := l.prog) (w := w) (K := K) (mg := mg) (base := base) (k := 0) F__law_mix
  have G__law_cell := ok__law_cell (P := l.prog) (w := w) (K := K) (mg := mg) (base := base) (k := 1) F__law_cell (G__law_mix.mono (by decide)) m__law_mix k__law_mix b__law_mix m_len
  have G__law_words := ok__law_words (P := l.prog) (w := w) (K := K) (mg := mg) (base := base) (k := 0) F__law_words m_range
  have G__law_leaf := ok__law_leaf (P := l.prog) (w := w) (K := K) (mg := mg) (base := base) (k := 0) F__law_leaf m_len
  have G__law_statement := all__law_statement (P := l.prog) (w := w) (K := K) (mg := mg) (base := base) F__law_statement m__law_statement b__law_statement (fun k => ok__law_mix F__law_mix) m__law_mix k__law_mix b__law_mix (fun k => ok__law_leaf F__law_leaf m_len) m__law_leaf k__law_leaf b__law_leaf 47
  have G_within := ok_within (P := l.prog) (w := w) (K := K) (mg := mg) (base := base) (k := 0) F_within m_PAIRED t_PAIRED
  have G_pieces := ok_pieces (P := l.prog) (w := w) (K := K) (mg := mg) (base := base) (k := 1) F_pieces (G_within.mono (by decide)) m_within k_within b_within
  have G_folded := True.intro
  have G_letters := ok_letters (P := l.prog) (w := w) (K := K) (mg := mg) (base := base) (k := 2) F_letters (G_pieces.mono (by decide)) m_pieces k_pieces b_pieces m_sorted
  have G_all_letters := ok_all_letters (P := l.prog) (w := w) (K := K) (mg := mg) (base := base) (k := 3) F_all_letters (G_letters.mono (by decide)) m_letters k_letters b_letters m_sorted
  have G_columns_of := ok_columns_of (P := l.prog) (w := w) (K := K) (mg := mg) (base := base) (k := 0) F_columns_of
  have G_column := ok_column (P := l.prog) (w := w) (K := K) (mg := mg) (base := base) (j := 2) F_column hB_column v_column m_folded k_folded b_folded (fun K' base' H0 Pz tf f1 f2 fd1 fd2 kle G1 k1 b1 G2 k2 b2 => ok_foldedV (P := l.prog) (w := w) (K := K') (mg := mg) (base := base') (k := 3) (F_folded.le kle) (FnOk.mono (ok_pieces (P := l.prog) (w := w) (K := K') (mg := mg) (base := base') (k := 1) (F_pieces.le kle) (ok_within (P := l.prog) (w := w) (K := K') (mg := mg) (base := base') (k := 0) (F_within.le kle) m_PAIRED (fun H => (t_PAIRED H).le kle)) m_within (F_within.le kle).kp (b_within.le kle)) (by decide)) m_pieces (F_pieces.le kle).kp (b_pieces.le kle) m_PAIRED (fun H => (t_PAIRED H).le kle) m_reversed G1 k1 b1 G2 k2 b2)
  have G_row_against := ok_row_against (P := l.prog) (w := w) (K := K) (mg := mg) (base := base) (k := 5) F_row_against (G_all_letters.mono (by decide)) m_all_letters k_all_letters b_all_letters (G_columns_of.mono (by decide)) m_columns_of k_columns_of b_columns_of (G_column.mono (by decide)) m_column k_column b_column m_enumerate
  have G__law_within := ok__law_within (P := l.prog) (w := w) (K := K) (mg := mg) (base := base) (k := 0) F__law_within m_len
  have G__law_true := all__law_true (P := l.prog) (w := w) (K := K) (mg := mg) (base := base) F__law_true m__law_true b__law_true 30
  have G__law_against := ok__law_against (P := l.prog) (w := w) (K := K) (mg := mg) (base := base) (k := 31) F__law_against (G__law_true.mono (by decide)) m__law_true k__law_true b__law_true
  have G__law_all_letters := ok__law_all_letters (P := l.prog) (w := w) (K := K) (mg := mg) (base := base) (k := 1) F__law_all_letters (G__law_within.mono (by decide)) m__law_within k__law_within b__law_within m_sorted
  have G__law_any := ok__law_any (P := l.prog) (w := w) (K := K) (mg := mg) (base := base) (k := 32) F__law_any (G__law_against.mono (by decide)) m__law_against k__law_against b__law_against
  have G__law_good := ok__law_good (P := l.prog) (w := w) (K := K) (mg := mg) (base := base) (k := 33) F__law_good (G__law_against.mono (by decide)) m__law_against k__law_against b__law_against (G__law_any.mono (by decide)) m__law_any k__law_any b__law_any m_isinstance m_list m_sorted m_set m_str
  have G__law_goal := ok__law_goal (P := l.prog) (w := w) (K := K) (mg := mg) (base := base) (k := 48) F__law_goal (G__law_statement.mono (by decide)) m__law_statement k__law_statement b__law_statement (G__law_mix.mono (by decide)) m__law_mix k__law_mix b__law_mix
  have G_law := ok_law (P := l.prog) (w := w) (K := K) (mg := mg) (base := base) (k := 49) F_law (G__law_words.mono (by decide)) m__law_words k__law_words b__law_words (G__law_statement.mono (by decide)) m__law_statement k__law_statement b__law_statement (G__law_cell.mono (by decide)) m__law_cell k__law_cell b__law_cell (G__law_mix.mono (by decide)) m__law_mix k__law_mix b__law_mix (G__law_goal.mono (by decide)) m__law_goal k__law_goal b__law_goal (G__law_all_letters.mono (by decide)) m__law_all_letters k__law_all_letters b__law_all_letters (G_row_against.mono (by decide)) m_row_against k_row_against b_row_against (G__law_good.mono (by decide)) m__law_good k__law_good b__law_good m_range m_list
  exact G_law
theorem walk {T_column : Addr} {l : PySem.W.OpenLaw} {q : Program} {loose : List Str} {XP : (Str → Option Value) → Heap → Prop} {d : DefRec} {as : List Addr} {K : Params → PySem.W.Frag} {ee : ∀ (P : Params), as = List.map (fun x => x.fst) (K P)} (hn : l.most = some 63) (hdf : d.params.defaults = []) (hts : ∀ p ∈ [T_column], p ∉ as)
    (hct : ∀ (w : World) (h : Heap), (K w.params).In h → ∀ p ∈ [T_column], isCodeTable h p)
    (F : ∀ (w : World) (mg : Str → Option Value) (fa : Addr) (h : Heap) (K' : PySem.W.Frag) (bm : Addr), (K w.params).In h → h.Ns mainGlobals mg → mg d.name = some (.ref fa) → (∀ a o, (K w.params).lookup a = some o → K'.lookup a = some o) → BltK K' mg bm → (∀ p ∈ [T_column], bm ≠ p) →
      ∃ fd : FuncData, (∀ (s : Shared) (u : Value), BindsTo s fd ⟨[u], []⟩ [("_law_script", u)]) ∧ ∀ base : Heap, K'.In base → base.Ns mainGlobals mg → FnOk l.prog w K' mg base CX0 50 fa fd ["_law_script"] (sp_law16 T_column K')) :
    PySem.W.WalkO q loose XP (PySem.W.kmHook K as ee [T_column]).says l.row.toRowW d [] (fun f vs => PySem.call f vs) :=
  L2.walk_ofT (n := 63) (k := 50) (x := "_law_script") (CX := CX0) (sp := fun K => sp_law16 T_column K) hn (by decide) hdf ⟨rfl, by decide, by decide⟩ hts hct F (fun _ _ a ns hl hO hS => ⟨a, ns, rfl, hS, hl, TabOk.new (hO _ (by simp)), fun _ => rfl⟩) fun _ _ _ _ z => z
end KLaw
open PySem PySem.W PyProof.Rows
set_option maxRecDepth 100000 in
set_option maxHeartbeats 0 in
theorem PySem.Challenge.cw_ken_k16_row_against_holds : PySem.Challenge.rw_ken_k16_row_against.Holds := by
  w_on; o_law; k_head; (case hw => w_witness2)
  k_fill
  refine KLaw.walk (l := PySem.Challenge.rw_ken_k16_row_against) rfl rfl (by decide) ?T ?F
  case T =>
    intro w h KX p hp
    obtain rfl : p = _ := List.mem_singleton.mp hp
    refine' L2.isTable_of (x := "column") KX ?ta ?tl ?te ?tv
    (case ta => k_is)
    (case tl => k_is)
    (case te => k_is)
    (case tv => rfl)
  case F =>
    intro w mg fa h K' bm KX G hmg kle hb nT
    refine' KLaw.all_mk KX G hmg kle hb nT ?a__law_mix ?l__law_mix ?c__law_mix ?k__law_mix ?a__law_cell ?l__law_cell ?c__law_cell ?k__law_cell ?a__law_words ?l__law_words ?c__law_words ?k__law_words ?a__law_leaf ?l__law_leaf ?c__law_leaf ?k__law_leaf ?a__law_statement ?l__law_statement ?c__law_statement ?k__law_statement ?a_within ?l_within ?c_within ?k_within ?a_pieces ?l_pieces ?c_pieces ?k_pieces ?a_folded ?l_folded ?c_folded ?k_folded ?a_letters ?l_letters ?c_letters ?k_letters ?a_all_letters ?l_all_letters ?c_all_letters ?k_all_letters ?a_columns_of ?l_columns_of ?c_columns_of ?k_columns_of ?a_column ?l_column ?c_column ?k_column ?e_column ?x_column ?n_column ?v_column ?a_row_against ?l_row_against ?c_row_against ?k_row_against ?a__law_within ?l__law_within ?c__law_within ?k__law_within ?a__law_true ?l__law_true ?c__law_true ?k__law_true ?a__law_against ?l__law_against ?c__law_against ?k__law_against ?a__law_all_letters ?l__law_all_letters ?c__law_all_letters ?k__law_all_letters ?a__law_any ?l__law_any ?c__law_any ?k__law_any ?a__law_good ?l__law_good ?c__law_good ?k__law_good ?a__law_goal ?l__law_goal ?c__law_goal ?k__law_goal ?a_law ?l_law ?c_law ?k_law ?g_PAIRED ?o_PAIRED ?z_len ?z_range ?z_sorted ?z_enumerate ?z_isinstance ?z_list ?z_set ?z_str ?z_reversed
    (case a__law_mix => k_is)
    (case l__law_mix => k_is)
    (case c__law_mix => k_is)
    (case k__law_mix => k_is)
    (case a__law_cell => k_is)
    (case l__law_cell => k_is)
    (case c__law_cell => k_is)
    (case k__law_cell => k_is)
    (case a__law_words => k_is)
    (case l__law_words => k_is)
    (case c__law_words => k_is)
    (case k__law_words => k_is)
    (case a__law_leaf => k_is)
    (case l__law_leaf => k_is)
    (case c__law_leaf => k_is)
    (case k__law_leaf => k_is)
    (case a__law_statement => k_is)
    (case l__law_statement => k_is)
    (case c__law_statement => k_is)
    (case k__law_statement => k_is)
    (case a_within => k_is)
    (case l_within => k_is)
    (case c_within => k_is)
    (case k_within => k_is)
    (case a_pieces => k_is)
    (case l_pieces => k_is)
    (case c_pieces => k_is)
    (case k_pieces => k_is)
    (case a_folded => k_is)
    (case l_folded => k_is)
    (case c_folded => k_is)
    (case k_folded => k_is)
    (case a_letters => k_is)
    (case l_letters => k_is)
    (case c_letters => k_is)
    (case k_letters => k_is)
    (case a_all_letters => k_is)
    (case l_all_letters => k_is)
    (case c_all_letters => k_is)
    (case k_all_letters => k_is)
    (case a_columns_of => k_is)
    (case l_columns_of => k_is)
    (case c_columns_of => k_is)
    (case k_columns_of => k_is)
    (case a_column => k_is)
    (case l_column => k_is)
    (case c_column => k_is)
    (case k_column => k_is)
    (case e_column => k_is)
    (case x_column => exact ⟨rfl, rfl, ⟨_, _, rfl⟩, ⟨_, _, rfl⟩, ⟨_, rfl⟩, ⟨_, _, rfl⟩⟩)
    (case n_column => decide)
    (case v_column => decide)
    (case a_row_against => k_is)
    (case l_row_against => k_is)
    (case c_row_against => k_is)
    (case k_row_against => k_is)
    (case a__law_within => k_is)
    (case l__law_within => k_is)
    (case c__law_within => k_is)
    (case k__law_within => k_is)
    (case a__law_true => k_is)
    (case l__law_true => k_is)
    (case c__law_true => k_is)
    (case k__law_true => k_is)
    (case a__law_against => k_is)
    (case l__law_against => k_is)
    (case c__law_against => k_is)
    (case k__law_against => k_is)
    (case a__law_all_letters => k_is)
    (case l__law_all_letters => k_is)
    (case c__law_all_letters => k_is)
    (case k__law_all_letters => k_is)
    (case a__law_any => k_is)
    (case l__law_any => k_is)
    (case c__law_any => k_is)
    (case k__law_any => k_is)
    (case a__law_good => k_is)
    (case l__law_good => k_is)
    (case c__law_good => k_is)
    (case k__law_good => k_is)
    (case a__law_goal => k_is)
    (case l__law_goal => k_is)
    (case c__law_goal => k_is)
    (case k__law_goal => k_is)
    (case a_law => k_is)
    (case l_law => k_is)
    (case c_law => k_is)
    (case k_law => k_is)
    (case g_PAIRED => k_is)
    (case o_PAIRED => k_is)
    (case z_len => k_is)
    (case z_range => k_is)
    (case z_sorted => k_is)
    (case z_enumerate => k_is)
    (case z_isinstance => k_is)
    (case z_list => k_is)
    (case z_set => k_is)
    (case z_str => k_is)
    (case z_reversed => k_is)
