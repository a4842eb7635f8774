import PyProof.Rows.All
import Wide.All
import OpenK.AllK
import Wide.FinOn
import Lean
import PyProof.EqAt
import PyProof.EqKinds
import PyProof.TupleCall
import PyProof.NeData
import PyProof.P3In
import PyProof.ZipIter
import PyProof.Rows.ZipGen
import KE.KRevIter
import PyProof.CollectIter
import PyProof.ListRange
import PyProof.EnumMake
import PyProof.EnumFor
import PyProof.EnumStmt
import PyProof.Draws
import PyProof.Rows.SortStr
import KE.KDictList
import KE.KSortTup
import KE.KSortAsk
import PyProof.SumAny
import PyProof.WalksMore
import KE.KTupSum
import PyProof.FactsAll.set
import PyProof.Rows.SetFrom
import PyProof.InstStoreFacts
import PyProof.Rows.Range3
import PyProof.FactsAll.tuple_2
import KE.KxText
import PySem.Challenge.RW_ken_k04_no_text
set_option Elab.async false
set_option linter.all false
set_option maxRecDepth 100000
namespace L2
open PySem PySem.Spec PyProof.Rows
noncomputable abbrev Key := Sum Int Str
noncomputable def keyIs : Key → Value → Bool
  | .inl k, v => Value.isInt k v
  | .inr x, v => Value.isStrOf x v
noncomputable def keyH (w : World) : Key → Int
  | .inl k => hashInt k
  | .inr x => hashStr w x
theorem keyIs_shape : ∀ {k : Key} {v : Value}, keyIs k v = true → (∃ i t, k = Sum.inl i ∧ v = Value.int i t) ∨ (∃ x t, k = Sum.inr x ∧ v = Value.str x t)
  | .inl i, v, h => by
    obtain ⟨t, e⟩ := Value.isInt_shape (k := i) (v := v) h
    exact .inl ⟨i, t, rfl, e⟩
  | .inr x, v, h => by
    obtain ⟨t, e⟩ := Value.isStrOf_shape (x := x) (v := v) h
    exact .inr ⟨x, t, rfl, e⟩
theorem keyIs_int (i : Int) (t : Tok) : keyIs (.inl i) (.int i t) = true := by simp [keyIs, Value.isInt]
theorem keyIs_str (x : Str) (t : Tok) : keyIs (.inr x) (.str x t) = true := by simp [keyIs, Value.isStrOf]
theorem key_ll (a b : Int) : decide ((Sum.inl a : Key) = Sum.inl b) = (a == b) := by
  by_cases e : a = b
  · subst e; simp
  · have h : ¬ (Sum.inl a : Key) = Sum.inl b := fun q => e (Sum.inl.inj q)
    rw [decide_eq_false h]
    exact (beq_eq_false_iff_ne.mpr e).symm
theorem key_rr (a b : Str) : decide ((Sum.inr a : Key) = Sum.inr b) = decide (a = b) := by
  by_cases e : a = b
  · subst e; simp
  · have h : ¬ (Sum.inr a : Key) = Sum.inr b := fun q => e (Sum.inr.inj q)
    rw [decide_eq_false h, decide_eq_false e]
theorem key_lr (a : Int) (b : Str) : decide ((Sum.inl a : Key) = Sum.inr b) = false := decide_eq_false (fun q => nomatch q)
theorem key_rl (a : Str) (b : Int) : decide ((Sum.inr a : Key) = Sum.inl b) = false := decide_eq_false (fun q => nomatch q)
noncomputable def mixKind (prog : Program) (w : World) : PySem.KeyKind prog w Key where
  is := keyIs
  hash := keyH w
  inj := fun v a b ha hb => by
    rcases keyIs_shape ha with ⟨i, t, rfl, rfl⟩ | ⟨x, t, rfl, rfl⟩
    · rcases keyIs_shape hb with ⟨j, u, rfl, e⟩ | ⟨y, u, rfl, e⟩
      · injection e with e1 _; rw [e1]
      · exact nomatch e
    · rcases keyIs_shape hb with ⟨j, u, rfl, e⟩ | ⟨y, u, rfl, e⟩
      · exact nomatch e
      · injection e with e1 _; rw [e1]
  byValue := fun k v h => by
    rcases keyIs_shape h with ⟨i, t, rfl, rfl⟩ | ⟨x, t, rfl, rfl⟩ <;> rfl
  pyHash := fun hv h => by
    rcases keyIs_shape hv with ⟨i, t, rfl, rfl⟩ | ⟨x, t, rfl, rfl⟩
    · exact wpAny_pyHash_int h
    · exact wpAny_pyHash_str h
  eqBool := fun hu hv h => by
    rcases keyIs_shape hu with ⟨i, t, rfl, rfl⟩ | ⟨x, t, rfl, rfl⟩
    · rcases keyIs_shape hv with ⟨j, u, rfl, rfl⟩ | ⟨y, u, rfl, rfl⟩
      · rw [key_ll] at h; exact wpAny_eqBool_int h
      · rw [key_lr] at h; exact SeqAt.EqAt.int_str i t y u _ _ _ _ h
    · rcases keyIs_shape hv with ⟨j, u, rfl, rfl⟩ | ⟨y, u, rfl, rfl⟩
      · rw [key_rl] at h; exact SeqAt.EqAt.str_int x t j u _ _ _ _ h
      · rw [key_rr] at h; exact wpAny_eqBool_str h
  «strs» := fun k x t v h => by
    rcases keyIs_shape h with ⟨i, u, rfl, e⟩ | ⟨y, u, rfl, e⟩
    · exact nomatch e
    · injection e with e1 _
      subst e1
      cases v <;> rfl
theorem mixKind_int (prog : Program) (w : World) (i : Int) (t : Tok) : (mixKind prog w).is (.inl i) (.int i t) = true := keyIs_int i t
theorem mixKind_str (prog : Program) (w : World) (x : Str) (t : Tok) : (mixKind prog w).is (.inr x) (.str x t) = true := keyIs_str x t
end L2
namespace L2
open PySem PySem.Spec PyProof.Rows
inductive V where
  | non | bl (b : Bool) | int (i : Int) | str (x : Str) | byt (b : Array UInt8) | flt (b : UInt64) | ref (a : Addr) | ty (n : String)
  deriving DecidableEq
noncomputable def RelV : V → Value → Prop
  | .non, u => u = Value.none
  | .bl b, u => u = Value.bool b
  | .int i, u => ∃ t, u = Value.int i t
  | .str x, u => ∃ t, u = Value.str x t
  | .byt b, u => ∃ t, u = Value.bytes b t
  | .flt b, u => ∃ t, u = Value.float b t
  | .ref a, u => u = Value.ref a
  | .ty n, u => u = Value.type n
noncomputable abbrev Vals : List V → List Value → Prop := Paired RelV
theorem Vals.length {xs : List V} {us : List Value} (r : Vals xs us) : xs.length = us.length := Paired.length r
theorem Vals.get : ∀ {xs : List V} {us : List Value} {i : Nat} {x : V}, Vals xs us → xs[i]? = some x → ∃ u, us[i]? = some u ∧ RelV x u
  | _, _, _, _, .nil, e => by simp at e
  | _, _, 0, _, .cons r _, e => by simp at e; subst e; exact ⟨_, rfl, r⟩
  | _, _, i + 1, x, .cons _ t, e => by
    obtain ⟨u, h1, h2⟩ := Vals.get (i := i) (x := x) t (by simpa using e)
    exact ⟨u, by simpa using h1, h2⟩
theorem Vals.set {x : V} {u : Value} (r : RelV x u) : ∀ {xs : List V} {us : List Value} (i : Nat), Vals xs us → Vals (xs.set i x) (us.set i u)
  | _, _, _, .nil => .nil
  | _, _, 0, .cons _ t => .cons r t
  | _, _, i + 1, .cons q t => .cons q (Vals.set r i t)
theorem Vals.append : ∀ {xs ys : List V} {us ws : List Value}, Vals xs us → Vals ys ws → Vals (xs ++ ys) (us ++ ws)
  | _, _, _, _, .nil, s => s
  | _, _, _, _, .cons r t, s => .cons r (Vals.append t s)
theorem Vals.take : ∀ {xs : List V} {us : List Value} (n : Nat), Vals xs us → Vals (xs.take n) (us.take n)
  | _, _, 0, _ => .nil
  | _, _, _ + 1, .nil => .nil
  | _, _, n + 1, .cons r t => .cons r (Vals.take n t)
theorem Vals.drop : ∀ {xs : List V} {us : List Value} (n : Nat), Vals xs us → Vals (xs.drop n) (us.drop n)
  | _, _, 0, r => r
  | _, _, _ + 1, .nil => .nil
  | _, _, n + 1, .cons _ t => Vals.drop n t
noncomputable def RelO : Option V → Option Value → Prop
  | some v, some u => RelV v u
  | none, none => True
  | _, _ => False
noncomputable def KV {κ : Type} : List (κ × V) → List (κ × Value) → Prop := Paired fun (p : κ × V) (q : κ × Value) => p.1 = q.1 ∧ RelV p.2 q.2
noncomputable def kV : Key → V
  | .inl i => .int i
  | .inr x => .str x
inductive HO where
  /-- a list -/
  | lst (xs : List V)
  /-- a tuple (never changes) -/
  | tup (xs : List V)
  /-- a dict whose keys are ints and texts; one whose keys are tuples of ints and texts (the empty one is both) -/
  | dK (kvs : List (Key × V)) | dT (kvs : List (List Key × V))
  /-- a set of ints: its members, its size -/
  | set (S : Int → Bool) (n : Nat)
  /-- an instance of the class at C, its dict at dx, its attributes -/
  | ins (C dx : Addr) (fs : List (Str × V))
  /-- the dict of the instance at x -/
  | own (x : Addr)
  /-- the dict of an exception -/
  | xd (fs : List (Str × V))
  /-- a bound method, f of x -/
  | met (f x : Addr)
  /-- a range object lo, lo + 1, .. below hi -/
  | rng (lo hi : Int)
  /-- a thing that is known to the object (the script; a dict while a loop walks it): read, never written while it is so -/
  | frz (o : Obj) (u : HO)
  /-- a code object's table -/
  | tbl (ps : Array Value)
  /-- any other thing, by what is true of its one object (a def of one's own: SetO a S n := HO.ext fun h => ..) -/
  | ext (φ : Heap → Prop)
noncomputable abbrev Hp := Addr → Option HO
noncomputable def upd (H : Hp) (a : Addr) (o : HO) : Hp := fun b => if b = a then some o else H b
theorem upd_same {H : Hp} {a : Addr} {o : HO} : upd H a o a = some o := by unfold upd; rw [if_pos rfl]
theorem upd_ne {H : Hp} {a b : Addr} {o : HO} (h : b ≠ a) : upd H a o b = H b := by unfold upd; rw [if_neg h]
theorem upd_upd {H : Hp} {a : Addr} {o u : HO} : upd (upd H a o) a u = upd H a u := by
  funext b; unfold upd; split <;> rfl
theorem ne_of {H : Hp} {a b : Addr} {o u : HO} (h : H a = some o) (h' : H b = some u) (d : o ≠ u) : a ≠ b := by
  intro e; subst e; rw [h] at h'; exact d (Option.some.inj h')
theorem ne_of_none {H : Hp} {a b : Addr} {o : HO} (h : H a = some o) (h' : H b = none) : a ≠ b := by
  intro e; subst e; rw [h] at h'; cases h'
section
variable (P : Program) (w : World)
noncomputable def ObjOk (H : Hp) (h : Heap) (a : Addr) : HO → Prop
  | .lst xs => xs.length ≤ sizeLine ∧ ∃ (its : List Value) (n : Nat), Vals xs its ∧ h.get? a = some { cls := .type "list", data := .seq its.toArray n }
  | .tup xs => xs.length ≤ sizeLine ∧ ∃ its : List Value, Vals xs its ∧ IsTup h a its.toArray
  | .dK kvs => kvs.length ≤ sizeLine ∧ (a == sysModules) = false ∧ ∃ vs, KV kvs vs ∧ h.DictOf (mixKind P w) a vs
  | .dT kvs => kvs.length ≤ sizeLine ∧ (a == sysModules) = false ∧ ∃ xs : List (List Key × Addr × Value),
      Paired (fun (p : List Key × V) (q : List Key × Addr × Value) => p.1 = q.1 ∧ H q.2.1 = some (.tup (p.1.map kV)) ∧ RelV p.2 q.2.2) kvs xs ∧
      ∃ o es ep, h.get? a = some o ∧ o.ExactDict ∧ o.data = .dict es ep ∧ es.toList = xs.map (entryOfKey (tupleKind (mixKind P w))) ∧ (xs.map (·.1)).Nodup
  | .set S n => h.SetOf (intKind P w) a S n
  | .ins C dx fs => H dx = some (.own a) ∧ fs.length ≤ 1000 ∧ dx ≠ a ∧ h.get? a = some (PySem.W.instObj C dx) ∧
      ∃ mA, h.Ns1 dx mA ∧ (∀ f, RelO (fs.lookup f) (mA f)) ∧ PySem.Within mA (fs.map (·.1))
  | .own _ => ∃ o, h.get? a = some o
  | .xd fs => ∃ mA, h.Ns1 a mA ∧ ∀ f, RelO (fs.lookup f) (mA f)
  | .rng lo hi => ∃ t u v, h.get? a = some { cls := .type "range", data := .fields #[.int lo t, .int hi u, .int 1 v] }
  | .frz o u => h.get? a = some o ∧ ObjOk H h a u
  | .tbl ps => h.get? a = some { cls := .none, data := .fields ps }
  | .met f x => h.get? a = some (PySem.W.methodObj (.ref f) (.ref x))
  | .ext φ => φ h ∧ (∃ o, h.get? a = some o) ∧ ∀ h1 h2 : Heap, φ h1 → (∀ o, h1.get? a = some o → h2.get? a = some o) → φ h2
noncomputable def HOk (H : Hp) (h : Heap) : Prop := ∀ a o, H a = some o → ObjOk P w H h a o
end
section
variable {P : Program} {w : World} {H H' : Hp} {h h' : Heap} {a : Addr} {o : HO}
theorem ObjOk.lt (x : ObjOk P w H h a o) : a < h.objs.size := by
  cases o with
  | lst xs => obtain ⟨_, _, _, _, e⟩ := x; exact Heap.lt_size e
  | tup xs => obtain ⟨_, _, _, p⟩ := x; exact p.lt
  | dK kvs => obtain ⟨_, _, _, _, o, _, _, e, _⟩ := x; exact Heap.lt_size e
  | dT kvs => obtain ⟨_, _, _, _, o, _, _, e, _⟩ := x; exact Heap.lt_size e
  | set S n => obtain ⟨o, _, _, _, e, _⟩ := x; exact Heap.lt_size e
  | ins C dx fs => obtain ⟨_, _, _, e, _⟩ := x; exact Heap.lt_size e
  | own y => obtain ⟨_, e⟩ := x; exact Heap.lt_size e
  | xd fs => obtain ⟨_, ⟨_, _, _, e, _⟩, _⟩ := x; exact Heap.lt_size e
  | rng lo hi => obtain ⟨_, _, _, e⟩ := x; exact Heap.lt_size e
  | frz ob u => obtain ⟨e, _⟩ := x; exact Heap.lt_size e
  | tbl ps => exact Heap.lt_size (show h.get? a = some _ from x)
  | met f y => exact Heap.lt_size (show h.get? a = some _ from x)
  | ext φ => obtain ⟨_, ⟨_, e⟩, _⟩ := x; exact Heap.lt_size e
theorem Paired.mapP {α β : Type} {F G : α → β → Prop} : ∀ {l₁ : List α} {l₂ : List β}, Paired F l₁ l₂ → (∀ a b, F a b → G a b) → Paired G l₁ l₂
  | _, _, .nil, _ => .nil
  | _, _, .cons r t, f => .cons (f _ _ r) (Paired.mapP t f)
theorem ObjOk.stay (x : ObjOk P w H h a o) (k : ∀ b u, (b = a ∨ H b = some (.own a)) → h.get? b = some u → h'.get? b = some u)
    (ho : ∀ b, H b = some (.own a) → H' b = some (.own a)) (ht : ∀ b xs, H b = some (.tup xs) → H' b = some (.tup xs)) : ObjOk P w H' h' a o := by
  induction o with
  | lst xs => obtain ⟨z, its, n, r, e⟩ := x; exact ⟨z, its, n, r, k _ _ (.inl rfl) e⟩
  | tup xs => obtain ⟨z, its, r, ob, e, c⟩ := x; exact ⟨z, its, r, ob, k _ _ (.inl rfl) e, c⟩
  | dK kvs => obtain ⟨z, y, vs, r, ob, es, ep, e, c⟩ := x; exact ⟨z, y, vs, r, ob, es, ep, k _ _ (.inl rfl) e, c⟩
  | dT kvs =>
    obtain ⟨z, y, xs, r, ob, es, ep, e, c⟩ := x
    exact ⟨z, y, xs, Paired.mapP r fun p q z => ⟨z.1, ht _ _ z.2.1, z.2.2⟩, ob, es, ep, k _ _ (.inl rfl) e, c⟩
  | set S n => obtain ⟨ob, es, ep, t, e, c⟩ := x; exact ⟨ob, es, ep, t, k _ _ (.inl rfl) e, c⟩
  | ins C dx fs =>
    obtain ⟨d, z, ne, e, mA, ⟨od, es, ep, e2, c⟩, r⟩ := x
    exact ⟨ho _ d, z, ne, k _ _ (.inl rfl) e, mA, ⟨od, es, ep, k _ _ (.inr d) e2, c⟩, r⟩
  | own y => obtain ⟨ob, e⟩ := x; exact ⟨ob, k _ _ (.inl rfl) e⟩
  | xd fs => obtain ⟨mA, ⟨od, es, ep, e, c⟩, r⟩ := x; exact ⟨mA, ⟨od, es, ep, k _ _ (.inl rfl) e, c⟩, r⟩
  | rng lo hi => obtain ⟨t, u, v, e⟩ := x; exact ⟨t, u, v, k _ _ (.inl rfl) e⟩
  | frz ob u ih => obtain ⟨e, q⟩ := x; exact ⟨k _ _ (.inl rfl) e, ih q⟩
  | tbl ps =>
    have e : h.get? a = some { cls := .none, data := .fields ps } := x
    show h'.get? a = some { cls := .none, data := .fields ps }
    exact k a _ (.inl rfl) e
  | met f y =>
    have e : h.get? a = some (PySem.W.methodObj (.ref f) (.ref y)) := x
    show h'.get? a = some (PySem.W.methodObj (.ref f) (.ref y))
    exact k a _ (.inl rfl) e
  | ext φ => obtain ⟨p, ⟨o, e⟩, st⟩ := x; exact ⟨st _ _ p fun o q => k _ _ (.inl rfl) q, ⟨o, k _ _ (.inl rfl) e⟩, st⟩
theorem HOk.lt (x : HOk P w H h) (e : H a = some o) : a < h.objs.size := (x a o e).lt
theorem HOk.fresh (x : HOk P w H h) (e : h.objs.size ≤ a) : H a = none := by
  cases q : H a with
  | none => rfl
  | some u => exact absurd (Nat.lt_of_lt_of_le (x.lt q) e) (Nat.lt_irrefl _)
theorem HOk.kept (x : HOk P w H h) (k : ∀ b u, h.get? b = some u → h'.get? b = some u) : HOk P w H h' := fun a o e =>
  (x a o e).stay (fun b u _ q => k b u q) (fun _ q => q) fun _ _ q => q
theorem HOk.laid (x : HOk P w H h) (k : ∀ b u, h.get? b = some u → h'.get? b = some u) (hp : h.objs.size ≤ a) (new : ObjOk P w (upd H a o) h' a o) : HOk P w (upd H a o) h' := fun b u e => by
  have hn := x.fresh hp
  by_cases hb : b = a
  · subst hb; rw [upd_same] at e; cases e; exact new
  · rw [upd_ne hb] at e
    exact (x b u e).stay (fun c v _ q => k c v q) (fun c q => by rw [upd_ne (ne_of_none q hn)]; exact q) fun c xs q => by rw [upd_ne (ne_of_none q hn)]; exact q
end
noncomputable def Rd (H : Hp) (a : Addr) (u : HO) : Prop := H a = some u ∨ ∃ o, H a = some (.frz o u)
theorem Rd.ok {P : Program} {w : World} {H : Hp} {h : Heap} {a : Addr} {u : HO} (r : Rd H a u) (x : HOk P w H h) : ObjOk P w H h a u := by
  rcases r with r | ⟨o, r⟩
  · exact x a u r
  · obtain ⟨_, q⟩ := x a _ r
    exact q
noncomputable def Mut : Option HO → Prop
  | some (.lst _) => True
  | some (.dK _) => True
  | some (.dT _) => True
  | some (.set _ _) => True
  | some (.ins _ _ _) => True
  | some (.ext _) => True
  | _ => False
section
variable {P : Program} {w : World} {H : Hp} {h h' : Heap} {x e : Addr} {o' : HO}
theorem HOk.write (ok : HOk P w H h) (mu : Mut (H x)) (he : e = x ∨ H e = some (.own x)) (k : ∀ b u, b ≠ e → h.get? b = some u → h'.get? b = some u) (heo : ∃ u, h'.get? e = some u)
    (new : ObjOk P w (upd H x o') h' x o') : HOk P w (upd H x o') h' := fun b u q => by
  have nown : ∀ c y, H c = some (.own y) → c ≠ x := fun c y r z => by subst z; rw [r] at mu; exact mu
  have ntup : ∀ c xs, H c = some (.tup xs) → c ≠ x := fun c xs r z => by subst z; rw [r] at mu; exact mu
  by_cases hb : b = x
  · subst hb; rw [upd_same] at q; cases q; exact new
  · rw [upd_ne hb] at q
    by_cases hbe : b = e
    · have q' : H b = some (.own x) := by
        rcases he with z | z
        · exact absurd (hbe.trans z) hb
        · rw [hbe]; exact z
      rw [q] at q'; cases q'
      obtain ⟨v, hv⟩ := heo
      exact ⟨v, by rw [hbe]; exact hv⟩
    · refine (ok b u q).stay (fun c v hc r => k c v ?_ r) (fun c r => by rw [upd_ne (nown c b r)]; exact r) fun c xs r => by rw [upd_ne (ntup c xs r)]; exact r
      rcases hc with rfl | hc
      · exact hbe
      · rintro rfl
        rcases he with z | z
        · exact nown c b hc z
        · rw [hc] at z; cases z; exact hb rfl
end
structure Un (fs ex : List Addr) (H H' : Hp) (h h' : Heap) : Prop where
  keep : ∀ b o, h.get? b = some o → H b = none → b ∉ fs → b ∉ ex → h'.get? b = some o
  slot : ∀ b o, h.get? b = some o → H b = none → b ∈ fs → b ∉ ex → ∃ sl, h'.get? b = some { o with slots := sl }
  free : ∀ b o, h.get? b = some o → H b = none → b ∉ ex → H' b = none
  there : ∀ b o, h.get? b = some o → b ∉ ex → ∃ o', h'.get? b = some o'
  tups : ∀ b xs, H b = some (.tup xs) → H' b = some (.tup xs)
  frzs : ∀ b o u, H b = some (.frz o u) → H' b = some (.frz o u)
  tbls : ∀ b ps, H b = some (.tbl ps) → ∃ more, H' b = some (.tbl (ps ++ more))
section
variable {fs fs' ex ex' : List Addr} {H H1 H2 : Hp} {h h1 h2 h' : Heap} {a x e : Addr} {o : HO}
theorem Un.any (u : Un fs ex H H1 h h1) {b : Addr} {ob : Obj} (q : h.get? b = some ob) (n : H b = none) (hx : b ∉ ex) : ∃ sl, h1.get? b = some { ob with slots := sl } := by
  by_cases hb : b ∈ fs
  · exact u.slot b ob q n hb hx
  · exact ⟨ob.slots, u.keep b ob q n hb hx⟩
theorem Un.kept (k : ∀ b u, h.get? b = some u → h'.get? b = some u) : Un fs ex H H h h' :=
  ⟨fun b ob q _ _ _ => k b ob q, fun b ob q _ _ _ => ⟨ob.slots, k b ob q⟩, fun _ _ _ n _ => n, fun b ob q _ => ⟨ob, k b ob q⟩, fun _ _ q => q, fun _ _ _ q => q, fun _ ps q => ⟨#[], by rw [q]; simp⟩⟩
theorem Un.refl : Un fs ex H H h h := Un.kept fun _ _ q => q
theorem Un.laid (k : ∀ b u, h.get? b = some u → h'.get? b = some u) (hp : h.objs.size ≤ a) (hn : H a = none) : Un fs ex H (upd H a o) h h' where
  keep := fun b u q _ _ _ => k b u q
  slot := fun b u q _ _ _ => ⟨u.slots, k b u q⟩
  free := fun b u q n _ => by rw [upd_ne (Nat.ne_of_lt (Nat.lt_of_lt_of_le (Heap.lt_size q) hp))]; exact n
  there := fun b u q _ => ⟨u, k b u q⟩
  tups := fun b xs q => by rw [upd_ne (ne_of_none q hn)]; exact q
  frzs := fun b u xs q => by rw [upd_ne (ne_of_none q hn)]; exact q
  tbls := fun b ps q => ⟨#[], by rw [upd_ne (ne_of_none q hn), q]; simp⟩
theorem Un.write (mu : Mut (H x)) (he : e = x ∨ H e = some (.own x)) (k : ∀ b u, b ≠ e → h.get? b = some u → h'.get? b = some u) (heo : ∃ u, h'.get? e = some u) : Un fs ex H (upd H x o) h h' := by
  have hx : ∀ b, H b = none → b ≠ x := fun b n z => by subst z; rw [n] at mu; exact mu
  have hb : ∀ b, H b = none → b ≠ e := fun b n z => by
    subst z
    rcases he with r | r
    · exact hx b n r
    · rw [n] at r; cases r
  have hm : ∀ b u, H b = some u → ¬ Mut (some u) → b ≠ x := fun b u q nm z => by subst z; rw [q] at mu; exact nm mu
  refine ⟨fun b u q n _ _ => k b u (hb b n) q, fun b u q n _ _ => ⟨u.slots, k b u (hb b n) q⟩, fun b u q n _ => by rw [upd_ne (hx b n)]; exact n, fun b u q _ => ?_,
    fun b xs q => by rw [upd_ne (hm b _ q fun z => z)]; exact q, fun b u xs q => by rw [upd_ne (hm b _ q fun z => z)]; exact q, fun b ps q => ⟨#[], by rw [upd_ne (hm b _ q fun z => z), q]; simp⟩⟩
  by_cases hbe : b = e
  · subst hbe; exact heo
  · exact ⟨u, k b u hbe q⟩
end
noncomputable def trk (h : Heap) (H : Hp) : List Addr := (List.range h.objs.size).filter fun a => (H a).isSome
noncomputable def hidT (h : Heap) (H : Hp) : Heap := PySem.W.hideAll h (trk h H)
theorem hidT_size (h : Heap) (H : Hp) : (hidT h H).objs.size = h.objs.size := PySem.W.hideAll_size _ _
theorem hidT_get {h : Heap} {H : Hp} {b : Addr} {o : Obj} (e : h.get? b = some o) (n : H b = none) : (hidT h H).get? b = some o :=
  PySem.W.hideAll_get _ e fun hm => by
    have q : (H b).isSome = true := (List.mem_filter.mp hm).2
    rw [n] at q; simp at q
theorem of_hidT {h : Heap} {H : Hp} {b : Addr} {o : Obj} (e : (hidT h H).get? b = some o) : h.get? b = some o ∧ H b = none := by
  have e' : h.get? b = some o := PySem.W.of_hideAll (trk h H) e
  refine ⟨e', ?_⟩
  cases q : H b with
  | none => rfl
  | some x =>
    have hm : b ∈ trk h H := List.mem_filter.mpr ⟨List.mem_range.mpr (Heap.lt_size e'), by simp [q]⟩
    have z : (hidT h H).get? b = none := PySem.W.hideAll_none (trk h H) hm
    rw [z] at e; cases e
end L2
namespace L2
open PySem PySem.Spec PyProof.Rows
structure Mod (K : PySem.W.Frag) (mg : Str → Option Value) (base : Heap) : Prop where
  kin : K.In base
  glob : base.Ns mainGlobals mg
  blt : ∃ mb, base.Ns builtinsNs mb ∧ ∀ x : Str, x ≠ "__name__" → mb x = bootBuiltins x
  nolimit : base.NoLimit
structure Cx where
  prog : Program
  w : World
  K : PySem.W.Frag
  mg : Str → Option Value
  base : Heap
  A : Around
  N : List Str
  s₀ : Shared
  H₀ : Hp
  env : Env
  outer : List Env
  stack : List Env
  ex : List Addr
  fn : Str → Bool
  calm : Bool
  pn : List (Addr × Obj)
  xe : Value → Shared → Prop
noncomputable def frs (l : List Env) : List Addr := l.filterMap (·.frame)
noncomputable abbrev Cx.fs (X : Cx) : List Addr := frs X.outer
noncomputable def Vis (sc : Scope) (x : Str) : Prop := sc.names.lookup x = some .local ∨ sc.names.lookup x = some .cell ∨ sc.names.lookup x = some .free
noncomputable def Loc (sc : Scope) (x : Str) : Prop := sc.names.lookup x = some .local ∨ sc.names.lookup x = some .cell
noncomputable def Look (env : Env) (h : Heap) (m : Str → Option Value) (x : Str) (u : Value) : Prop :=
  (env.kindOf x = some .local ∧ m x = some u) ∨ ((env.kindOf x = some .cell ∨ env.kindOf x = some .free) ∧ ∃ c, env.cells.lookup x = some c ∧ h.IsCell c (some u))
structure Cx.Ok (X : Cx) : Prop where
  mod : Mod X.K X.mg X.base
  kind : X.env.scope.kind = .function
  glob : X.env.globals = mainGlobals
  blt : X.env.builtins = builtinsNs
  above : X.s₀.heap.objs.size ≤ X.env.locals
  inj : ∀ x y c, X.env.cells.lookup x = some c → X.env.cells.lookup y = some c → x = y
  has : ∀ x, (X.env.kindOf x = some .cell ∨ X.env.kindOf x = some .free) → ∃ c, X.env.cells.lookup x = some c
  cab : ∀ x c, X.fn x = true → X.env.cells.lookup x = some c → X.s₀.heap.objs.size ≤ c
  hd : X.calm = true → X.A.handled = none
  frames : X.A.frames = some X.stack
  stk : X.stack = X.outer ∨ (X.stack = X.env :: X.outer ∧ X.env.frame = some X.env.locals)
  exf : ∀ b ∈ X.ex, b ≠ X.env.locals ∧ ∀ x c, X.env.cells.lookup x = some c → c ≠ b
  bs : ∀ b o, X.base.get? b = some o → X.s₀.heap.get? b = some o ∧ X.H₀ b = none
  bsz : X.base.objs.size ≤ X.s₀.heap.objs.size
  noex : ∀ b o, X.base.get? b = some o → b ∉ X.ex
  exfs : ∀ b ∈ X.ex, b ∉ X.fs
  funs : X.s₀.heap.FunFrames X.base X.outer
  frf : ∀ b ∈ X.fs, X.H₀ b = none
structure Inv (X : Cx) (pins : List (Addr × Obj)) (σ : List (Option V)) (H : Hp) (s : Shared) : Prop where
  ok : X.Ok
  os : s.os = X.s₀.os
  bare : AllBare s.gens
  base : Un X.fs X.ex X.H₀ H X.s₀.heap s.heap
  loc : ∃ m, s.heap.Ns X.env.locals m ∧ ∀ (i : Nat) (x : Str) (v : V), X.N[i]? = some x → σ[i]? = some (some v) → Vis X.env.scope x → ∃ u, RelV v u ∧ Look X.env s.heap m x u
  cell : ∀ x c, X.env.cells.lookup x = some c → ∃ v, s.heap.IsCell c v
  free : H X.env.locals = none
  freeC : ∀ x c, X.env.cells.lookup x = some c → H c = none
  pin : ∀ p ∈ X.pn ++ pins, s.heap.get? p.1 = some p.2 ∧ H p.1 = none ∧ p.1 ≠ X.env.locals ∧ p.1 ∉ X.fs ∧ ∀ v, p.2.data ≠ .cell v
  hok : HOk X.prog X.w H s.heap
  len : σ.length = X.N.length
section
variable {X : Cx} {pins : List (Addr × Obj)} {σ : List (Option V)} {H H' : Hp} {s : Shared} {h' : Heap}
theorem Cx.Ok.nofr (ok : X.Ok) {b : Addr} {o : Obj} (e : X.base.get? b = some o) : b ∉ X.fs := fun hb => by
  have := (ok.funs.mem hb).1
  rw [e] at this; cases this
theorem Inv.bs (I : Inv X pins σ H s) : ∀ b o, X.base.get? b = some o → s.heap.get? b = some o ∧ H b = none := fun b o e =>
  ⟨I.base.keep b o (I.ok.bs b o e).1 (I.ok.bs b o e).2 (I.ok.nofr e) (I.ok.noex b o e), I.base.free b o (I.ok.bs b o e).1 (I.ok.bs b o e).2 (I.ok.noex b o e)⟩
theorem Inv.bk (I : Inv X pins σ H s) : ∀ b o, X.base.get? b = some o → s.heap.get? b = some o := fun b o e => (I.bs b o e).1
theorem Inv.mod (I : Inv X pins σ H s) : Mod X.K X.mg X.base := I.ok.mod
theorem Inv.kIn (I : Inv X pins σ H s) : X.K.In s.heap := I.ok.mod.kin.keeps I.bk
theorem Inv.lt (I : Inv X pins σ H s) : X.env.locals < s.heap.objs.size := let ⟨_, hn, _⟩ := I.loc; hn.lt
theorem Inv.sz (I : Inv X pins σ H s) : X.s₀.heap.objs.size ≤ s.heap.objs.size := Nat.le_trans I.ok.above (Nat.le_of_lt I.lt)
theorem Inv.nofs (I : Inv X pins σ H s) {a : Addr} (h : s.heap.objs.size ≤ a) : a ∉ X.fs := fun hb => by
  obtain ⟨_, o, ho, _⟩ := I.ok.funs.mem hb
  exact absurd (Nat.lt_of_lt_of_le (Heap.lt_size ho) (Nat.le_trans I.sz h)) (Nat.lt_irrefl _)
theorem Inv.cne (I : Inv X pins σ H s) : ∀ x c, X.env.cells.lookup x = some c → c ≠ X.env.locals := fun x c e z => by
  obtain ⟨v, o, ho, hd⟩ := I.cell x c e
  obtain ⟨m, ⟨o', es, ep, ho', hd', _⟩, _⟩ := I.loc
  rw [z, ho'] at ho; cases ho; rw [hd'] at hd; cases hd
theorem Inv.funs (I : Inv X pins σ H s) : s.heap.FunFrames X.base X.outer := by
  have all : ∀ (l : List Env), (∀ b ∈ frs l, b ∈ X.fs) → X.s₀.heap.FunFrames X.base l → s.heap.FunFrames X.base l := by
    intro l
    induction l with
    | nil => intro _ _; trivial
    | cons env r ih =>
      intro hs hl
      obtain ⟨hk, ⟨L, o, hf, hn, ho, hd⟩, hr⟩ := hl
      have hL : L ∈ X.fs := hs L (by unfold frs; rw [List.filterMap_cons, hf]; exact List.mem_cons_self)
      obtain ⟨sl, e⟩ := I.base.slot L o ho (I.ok.frf L hL) hL fun z => I.ok.exfs L z hL
      exact ⟨hk, ⟨L, _, hf, hn, e, hd⟩, ih (fun b hb => hs b (by unfold frs; rw [List.filterMap_cons, hf]; exact List.mem_cons_of_mem _ hb)) hr⟩
  exact all X.outer (fun _ hb => hb) I.ok.funs
theorem Inv.stack (I : Inv X pins σ H s) : s.heap.FunFrames X.base X.stack := by
  rcases I.ok.stk with e | ⟨e, hf⟩
  · rw [e]; exact I.funs
  · rw [e]
    obtain ⟨m, hn, _⟩ := I.loc
    refine .cons (by rw [I.ok.kind]; decide) hf hn ?_ I.funs
    exact Heap.get?_none_of_le (Nat.le_trans I.ok.bsz I.ok.above)
theorem Inv.stkSub (I : Inv X pins σ H s) : ∀ b ∈ frs X.stack, b ∈ X.env.locals :: X.fs := fun b hb => by
  rcases I.ok.stk with e | ⟨e, hf⟩
  · rw [e] at hb; exact List.mem_cons_of_mem _ hb
  · rw [e] at hb
    unfold frs at hb
    rw [List.filterMap_cons, hf] at hb
    exact hb
theorem Inv.stkFree (I : Inv X pins σ H s) : ∀ b ∈ frs X.stack, H b = none := fun b hb => by
  rcases List.mem_cons.mp (I.stkSub b hb) with e | hb
  · rw [e]; exact I.free
  · obtain ⟨_, o, ho, _⟩ := I.ok.funs.mem hb
    exact I.base.free b o ho (I.ok.frf b hb) fun z => I.ok.exfs b z hb
theorem Inv.step {g' : Array GenState} {t' : Nat} {d' : Drawn} {ch : List Addr} (I : Inv X pins σ H s)
    (hch : ∀ b ∈ ch, (b ∈ X.ex ∨ X.s₀.heap.objs.size ≤ b) ∧ b ≠ X.env.locals ∧ (∀ x c, X.env.cells.lookup x = some c → c ≠ b) ∧ ∀ p ∈ X.pn ++ pins, p.1 ≠ b)
    (keep : ∀ b o, b ≠ X.env.locals → b ∉ X.fs → b ∉ ch → s.heap.get? b = some o → H b = none → h'.get? b = some o)
    (slot : ∀ b o, b ≠ X.env.locals → b ∈ X.fs → b ∉ ch → s.heap.get? b = some o → H b = none → ∃ sl, h'.get? b = some { o with slots := sl }) (free : ∀ b o, b ∉ ch → s.heap.get? b = some o → H b = none → H' b = none)
    (there : ∀ b o, b ∉ ch → s.heap.get? b = some o → ∃ o', h'.get? b = some o')
    (tups : ∀ b xs, H b = some (.tup xs) → H' b = some (.tup xs)) (frzs : ∀ b o u, H b = some (.frz o u) → H' b = some (.frz o u)) (tbls : ∀ b ps, H b = some (.tbl ps) → ∃ more, H' b = some (.tbl (ps ++ more)))
    (ns : ∀ m, s.heap.Ns X.env.locals m → h'.Ns X.env.locals m) (hok : HOk X.prog X.w H' h') (hg : AllBare g') :
    Inv X pins σ H' { s with heap := h', gens := g', drawn := d', toks := t' } := by
  have neL : ∀ b o, X.s₀.heap.get? b = some o → b ≠ X.env.locals := fun b o e => Nat.ne_of_lt (Nat.lt_of_lt_of_le (Heap.lt_size e) I.ok.above)
  have neC : ∀ b o, X.s₀.heap.get? b = some o → b ∉ X.ex → b ∉ ch := fun b o e hx hb => by
    rcases (hch b hb).1 with z | z
    · exact hx z
    · exact absurd (Nat.lt_of_lt_of_le (Heap.lt_size e) z) (Nat.lt_irrefl _)
  have cellK : ∀ x c, X.env.cells.lookup x = some c → ∀ v, s.heap.IsCell c v → h'.IsCell c v := fun x c e v ⟨o, ho, hd⟩ => by
    have nch : c ∉ ch := fun z => (hch c z).2.2.1 x c e rfl
    by_cases hc : c ∈ X.fs
    · obtain ⟨sl, q⟩ := slot c o (I.cne x c e) hc nch ho (I.freeC x c e)
      exact ⟨_, q, hd⟩
    · exact ⟨o, keep c o (I.cne x c e) hc nch ho (I.freeC x c e), hd⟩
  refine ⟨I.ok, I.os, hg, ⟨fun b o e n hb hx => ?_, fun b o e n hb hx => ?_, fun b o e n hx => ?_, fun b o e hx => ?_, fun b xs e => tups b xs (I.base.tups b xs e), fun b o xs e => frzs b o xs (I.base.frzs b o xs e), fun b ps e => ?_⟩, ?_, fun x c e => ?_, ?_, fun x c e => ?_, fun p hp => ?_, hok, I.len⟩
  · exact keep b o (neL b o e) hb (neC b o e hx) (I.base.keep b o e n hb hx) (I.base.free b o e n hx)
  · obtain ⟨sl, e1⟩ := I.base.slot b o e n hb hx
    obtain ⟨sl', e2⟩ := slot b _ (neL b o e) hb (neC b o e hx) e1 (I.base.free b o e n hx)
    exact ⟨sl', e2⟩
  · obtain ⟨o', e1⟩ := I.base.there b o e hx
    exact free b o' (neC b o e hx) e1 (I.base.free b o e n hx)
  · obtain ⟨o', e1⟩ := I.base.there b o e hx
    exact there b o' (neC b o e hx) e1
  · obtain ⟨m1, e1⟩ := I.base.tbls b ps e
    obtain ⟨m2, e2⟩ := tbls b _ e1
    exact ⟨m1 ++ m2, by rw [e2, Array.append_assoc]⟩
  · obtain ⟨m, hn, hl⟩ := I.loc
    refine ⟨m, ns m hn, fun i x v e1 e2 e3 => ?_⟩
    obtain ⟨u, r, l⟩ := hl i x v e1 e2 e3
    refine ⟨u, r, ?_⟩
    rcases l with l | ⟨k, c, e, z⟩
    · exact .inl l
    · exact .inr ⟨k, c, e, cellK x c e _ z⟩
  · obtain ⟨v, z⟩ := I.cell x c e
    exact ⟨v, cellK x c e v z⟩
  · obtain ⟨m, ⟨o, _, _, ho, _⟩, _⟩ := I.loc
    exact free _ o (fun z => (hch _ z).2.1 rfl) ho I.free
  · obtain ⟨v, o, ho, hd⟩ := I.cell x c e
    exact free c o (fun z => (hch c z).2.2.1 x c e rfl) ho (I.freeC x c e)
  · obtain ⟨e, n, ne, nf, d⟩ := I.pin p hp
    have nch : p.1 ∉ ch := fun z => (hch p.1 z).2.2.2 p hp rfl
    exact ⟨keep p.1 p.2 ne nf nch e n, free p.1 p.2 nch e n, ne, nf, d⟩
theorem Inv.un {t' : Nat} (I : Inv X pins σ H s) (u : Un X.fs [] H H' s.heap h') (hok : HOk X.prog X.w H' h') : Inv X pins σ H' { s with heap := h', toks := t' } := by
  obtain ⟨m, ⟨o, es, ep, ho, r⟩, _⟩ := id I.loc
  obtain ⟨sl, hL⟩ := u.any ho I.free (by simp)
  exact I.step (g' := s.gens) (d' := s.drawn) (ch := []) (fun _ z => nomatch z) (fun b o _ hb _ e n => u.keep b o e n hb (by simp)) (fun b o _ hb _ e n => u.slot b o e n hb (by simp)) (fun b o _ e n => u.free b o e n (by simp)) (fun b o _ e => u.there b o e (by simp)) u.tups u.frzs u.tbls (fun m' hm => by
    obtain ⟨o', es', ep', ho', r'⟩ := hm
    rw [ho] at ho'; cases ho'
    exact ⟨_, es', ep', hL, r'⟩) hok I.bare
theorem Inv.call {g' : Array GenState} {t' : Nat} {d' : Drawn} {ch : List Addr} (I : Inv X pins σ H s) (u : Un (frs X.stack) ch H H' s.heap h') (hok : HOk X.prog X.w H' h') (hg : AllBare g')
    (hch : ∀ b ∈ ch, (b ∈ X.ex ∨ X.s₀.heap.objs.size ≤ b) ∧ b ≠ X.env.locals ∧ (∀ x c, X.env.cells.lookup x = some c → c ≠ b) ∧ ∀ p ∈ X.pn ++ pins, p.1 ≠ b) :
    Inv X pins σ H' { s with heap := h', gens := g', drawn := d', toks := t' } := by
  obtain ⟨m, ⟨o, es, ep, ho, r⟩, _⟩ := id I.loc
  obtain ⟨sl, hL⟩ := u.any ho I.free fun z => (hch _ z).2.1 rfl
  exact I.step (ch := ch) hch (fun b o hL hb hc e n => u.keep b o e n (fun z => (List.mem_cons.mp (I.stkSub b z)).elim hL hb) hc) (fun b o _ _ hc e n => u.any e n hc) (fun b o hc e n => u.free b o e n hc) (fun b o hc e => u.there b o e hc) u.tups u.frzs u.tbls (fun m' hm => by
    obtain ⟨o', es', ep', ho', r'⟩ := hm
    rw [ho] at ho'; cases ho'
    exact ⟨_, es', ep', hL, r'⟩) hok hg
theorem Inv.turned {t' : Nat} {it : Addr} (I : Inv X pins σ H s) (k : ∀ b o, b ≠ it → s.heap.get? b = some o → h'.get? b = some o) (hn : H it = none) (hL : it ≠ X.env.locals)
    (h1 : it ∈ X.ex ∨ X.s₀.heap.objs.size ≤ it) (h2 : ∀ x c, X.env.cells.lookup x = some c → c ≠ it) (h3 : ∀ p ∈ X.pn ++ pins, p.1 ≠ it) : Inv X pins σ H { s with heap := h', toks := t' } := by
  have nit : ∀ b u, H b = some u → b ≠ it := fun b u e z => by rw [z, hn] at e; cases e
  refine I.step (g' := s.gens) (d' := s.drawn) (ch := [it]) (fun b hb => ?_) (fun b o _ _ hc e _ => k b o (fun z => hc (by simp [z])) e) (fun b o _ _ hc e _ => ⟨o.slots, k b o (fun z => hc (by simp [z])) e⟩) (fun _ _ _ _ n => n)
    (fun b o hc e => ⟨o, k b o (fun z => hc (by simp [z])) e⟩) (fun _ _ e => e) (fun _ _ _ e => e) (fun b ps e => ⟨#[], by rw [e]; simp⟩) (fun m hm => ?_) (fun b u e => ?_) I.bare
  · have e : b = it := by simpa using hb
    subst e
    exact ⟨h1, hL, h2, h3⟩
  · obtain ⟨o, es, ep, ho, r⟩ := hm
    exact ⟨o, es, ep, k _ o (Ne.symm hL) ho, r⟩
  · refine (I.hok b u e).stay (fun c v hc q => k c v ?_ q) (fun _ q => q) fun _ _ q => q
    rcases hc with z | z
    · rw [z]; exact nit b u e
    · exact nit c _ z
theorem Inv.tok (I : Inv X pins σ H s) (t : Nat) : Inv X pins σ H { s with toks := t } := I.un (h' := s.heap) (t' := t) Un.refl I.hok
theorem Inv.kept {t' : Nat} (I : Inv X pins σ H s) (k : ∀ b u, s.heap.get? b = some u → h'.get? b = some u) : Inv X pins σ H { s with heap := h', toks := t' } := I.un (Un.kept k) (I.hok.kept k)
theorem Inv.laid {a : Addr} {o : HO} {t' : Nat} (I : Inv X pins σ H s) (k : ∀ b u, s.heap.get? b = some u → h'.get? b = some u) (hp : s.heap.objs.size ≤ a) (new : ObjOk X.prog X.w (upd H a o) h' a o) :
    Inv X pins σ (upd H a o) { s with heap := h', toks := t' } := I.un (Un.laid k hp (I.hok.fresh hp)) (I.hok.laid k hp new)
theorem Inv.write {x e : Addr} {o : HO} {t' : Nat} (I : Inv X pins σ H s) (mu : Mut (H x)) (he : e = x ∨ H e = some (.own x)) (k : ∀ b u, b ≠ e → s.heap.get? b = some u → h'.get? b = some u) (heo : ∃ u, h'.get? e = some u)
    (new : ObjOk X.prog X.w (upd H x o) h' x o) : Inv X pins σ (upd H x o) { s with heap := h', toks := t' } := I.un (Un.write mu he k heo) (I.hok.write mu he k heo new)
theorem Inv.weak {σ' : List (Option V)} (I : Inv X pins σ H s) (hl : σ'.length = σ.length) (w : ∀ (i : Nat) v, σ'[i]? = some (some v) → σ[i]? = some (some v)) : Inv X pins σ' H s :=
  ⟨I.ok, I.os, I.bare, I.base, let ⟨m, hn, hl'⟩ := I.loc; ⟨m, hn, fun i x v e1 e2 e3 => hl' i x v e1 (w i v e2) e3⟩, I.cell, I.free, I.freeC, I.pin, I.hok, hl.trans I.len⟩
theorem Inv.pins_of {pins' : List (Addr × Obj)} (I : Inv X pins σ H s) (h : ∀ p ∈ pins', s.heap.get? p.1 = some p.2 ∧ H p.1 = none ∧ p.1 ≠ X.env.locals ∧ p.1 ∉ X.fs ∧ ∀ v, p.2.data ≠ .cell v) : Inv X pins' σ H s :=
  ⟨I.ok, I.os, I.bare, I.base, I.loc, I.cell, I.free, I.freeC, fun p hp => (List.mem_append.mp hp).elim (fun z => I.pin p (List.mem_append_left _ z)) (h p), I.hok, I.len⟩
theorem nodup_ix {N : List Str} (hN : N.Nodup) {i j : Nat} {x : Str} (a : N[i]? = some x) (b : N[j]? = some x) : i = j := by
  obtain ⟨h1, e1⟩ := List.getElem?_eq_some_iff.mp a
  obtain ⟨h2, e2⟩ := List.getElem?_eq_some_iff.mp b
  exact (List.getElem_inj hN).mp (e1.trans e2.symm)
theorem store_ok2 {M : Model} {A : Around} {E : Value → Shared → Prop} {i : Nat} {x : Str} {v : V} {u : Value} {Q : Unit → Shared → Prop} (I : Inv X pins σ H s) (hN : X.N.Nodup) (hi : X.N[i]? = some x) (hx : Loc X.env.scope x) (r : RelV v u)
    (h : ∀ s', Inv X pins (σ.set i (some v)) H s' → (∃ a, Heap.SameBut a s.heap s'.heap ∧ (a = X.env.locals ∨ X.env.cells.lookup x = some a)) → Q () s') (hf : X.fn x = true ∨ X.env.scope.names.lookup x = some .local := by first | exact .inl rfl | exact .inr rfl | assumption) : wpAny M A (storeName X.env x u) Q E s := by
  obtain ⟨m, hn, hl⟩ := id I.loc
  have hcls : (X.env.scope.kind == .class || (X.env.scope.kind == .module && X.env.locals != X.env.globals)) = false := by rw [I.ok.kind]; rfl
  have hiσ : i < σ.length := by rw [I.len]; exact (List.getElem?_eq_some_iff.mp hi).1
  have cne := I.cne
  have tracked : ∀ {a : Addr} {h' : Heap}, (∃ o, s.heap.get? a = some o ∧ H a = none) → Heap.SameBut a s.heap h' → HOk X.prog X.w H h' := fun {a h'} ha hs b ob e => by
    obtain ⟨_, _, hfree⟩ := ha
    refine (I.hok b ob e).stay (fun c w' hc q => (hs.2 c ?_).trans q) (fun _ q => q) fun _ _ q => q
    rintro rfl
    rcases hc with rfl | hc
    · rw [hfree] at e; cases e
    · rw [hfree] at hc; cases hc
  rcases hx with hk | hk
  · refine wpAny_storeName_local hk hn (fun h' hn' hs => ?_) hcls
    obtain ⟨oL, _, _, hoL, _⟩ := id hn
    refine h _ ⟨I.ok, I.os, I.bare, ⟨fun b o e n hb hx => ?_, fun b o e n hb hx => ?_, I.base.free, fun b o e hx => ?_, I.base.tups, I.base.frzs, I.base.tbls⟩, ⟨_, hn', fun j y v' e1 e2 e3 => ?_⟩, fun y c e => ?_, I.free, I.freeC, fun p hp => ?_, tracked ⟨oL, hoL, I.free⟩ hs, by simpa using I.len⟩ ⟨_, hs, .inl rfl⟩
    · exact (hs.2 b (Nat.ne_of_lt (Nat.lt_of_lt_of_le (Heap.lt_size e) I.ok.above))).trans (I.base.keep b o e n hb hx)
    · obtain ⟨sl, e1⟩ := I.base.slot b o e n hb hx
      exact ⟨sl, (hs.2 b (Nat.ne_of_lt (Nat.lt_of_lt_of_le (Heap.lt_size e) I.ok.above))).trans e1⟩
    · obtain ⟨o', e1⟩ := I.base.there b o e hx
      exact ⟨o', (hs.2 b (Nat.ne_of_lt (Nat.lt_of_lt_of_le (Heap.lt_size e) I.ok.above))).trans e1⟩
    · by_cases hj : j = i
      · subst hj
        rw [hi] at e1; cases e1
        rw [List.getElem?_set_self hiσ] at e2
        cases e2
        exact ⟨u, r, .inl ⟨hk, by simp⟩⟩
      · rw [List.getElem?_set_ne (Ne.symm hj)] at e2
        obtain ⟨u', r', q⟩ := hl j y v' e1 e2 e3
        refine ⟨u', r', ?_⟩
        rcases q with ⟨k, e⟩ | ⟨k, c, e, z⟩
        · refine .inl ⟨k, ?_⟩
          have : y ≠ x := fun e => hj (nodup_ix hN e1 (e ▸ hi))
          simp [this, e]
        · exact .inr ⟨k, c, e, z.sameBut hs (cne y c e)⟩
    · obtain ⟨w', z⟩ := I.cell y c e
      exact ⟨w', z.sameBut hs (cne y c e)⟩
    · obtain ⟨e, n, ne, nf, d⟩ := I.pin p hp
      exact ⟨(hs.2 p.1 ne).trans e, n, ne, nf, d⟩
  · have hfn : X.fn x = true := by
      rcases hf with z | z
      · exact z
      · rw [z] at hk; cases hk
    obtain ⟨c, hc⟩ := I.ok.has x (.inl hk)
    obtain ⟨w', z⟩ := I.cell x c hc
    refine wpAny_storeName_cell I.ok.kind hk hc z (fun h' hc' hs => ?_)
    obtain ⟨oc, hoc, hocd⟩ := id z
    refine h { s with heap := h' } ⟨I.ok, I.os, I.bare, ⟨fun b o e n hb hx => ?_, fun b o e n hb hx => ?_, I.base.free, fun b o e hx => ?_, I.base.tups, I.base.frzs, I.base.tbls⟩, ⟨m, hn.sameBut hs (Ne.symm (cne x c hc)), fun j y v' e1 e2 e3 => ?_⟩, fun y c' e => ?_, I.free, I.freeC, fun p hp => ?_, tracked ⟨oc, hoc, I.freeC x c hc⟩ hs, by simpa using I.len⟩ ⟨c, hs, .inr hc⟩
    · exact (hs.2 b (Nat.ne_of_lt (Nat.lt_of_lt_of_le (Heap.lt_size e) (I.ok.cab x c hfn hc)))).trans (I.base.keep b o e n hb hx)
    · obtain ⟨sl, e1⟩ := I.base.slot b o e n hb hx
      exact ⟨sl, (hs.2 b (Nat.ne_of_lt (Nat.lt_of_lt_of_le (Heap.lt_size e) (I.ok.cab x c hfn hc)))).trans e1⟩
    · obtain ⟨o', e1⟩ := I.base.there b o e hx
      exact ⟨o', (hs.2 b (Nat.ne_of_lt (Nat.lt_of_lt_of_le (Heap.lt_size e) (I.ok.cab x c hfn hc)))).trans e1⟩
    · by_cases hj : j = i
      · subst hj
        rw [hi] at e1; cases e1
        rw [List.getElem?_set_self hiσ] at e2
        cases e2
        exact ⟨u, r, .inr ⟨.inl hk, c, hc, hc'⟩⟩
      · rw [List.getElem?_set_ne (Ne.symm hj)] at e2
        obtain ⟨u', r', q⟩ := hl j y v' e1 e2 e3
        refine ⟨u', r', ?_⟩
        rcases q with q | ⟨k, c', e, z'⟩
        · exact .inl q
        · refine .inr ⟨k, c', e, z'.sameBut hs ?_⟩
          rintro rfl
          exact hj (nodup_ix hN e1 (I.ok.inj _ _ _ e hc ▸ hi))
    · by_cases hcc : c' = c
      · subst hcc; exact ⟨_, hc'⟩
      · obtain ⟨w2, z2⟩ := I.cell y c' e
        exact ⟨w2, z2.sameBut hs hcc⟩
    · obtain ⟨e, n, ne, nf, d⟩ := I.pin p hp
      refine ⟨(hs.2 p.1 ?_).trans e, n, ne, nf, d⟩
      intro q
      rw [q, hoc] at e
      have q' : oc = p.2 := Option.some.inj e
      exact d w' (by rw [← q']; exact hocd)
theorem store_ok {M : Model} {A : Around} {E : Value → Shared → Prop} {i : Nat} {x : Str} {v : V} {u : Value} {Q : Unit → Shared → Prop} (I : Inv X pins σ H s) (hN : X.N.Nodup) (hi : X.N[i]? = some x) (hx : Loc X.env.scope x) (r : RelV v u)
    (h : ∀ s', Inv X pins (σ.set i (some v)) H s' → Q () s') (hf : X.fn x = true ∨ X.env.scope.names.lookup x = some .local := by first | exact .inl rfl | exact .inr rfl | assumption) : wpAny M A (storeName X.env x u) Q E s :=
  store_ok2 I hN hi hx r (fun s' I' _ => h s' I') hf
theorem Inv.call' {s' : Shared} {ch : List Addr} (I : Inv X pins σ H s) (ho : s'.os = s.os) (u : Un (frs X.stack) ch H H' s.heap s'.heap) (hok : HOk X.prog X.w H' s'.heap) (hg : AllBare s'.gens)
    (hch : ∀ b ∈ ch, (b ∈ X.ex ∨ X.s₀.heap.objs.size ≤ b) ∧ b ≠ X.env.locals ∧ (∀ x c, X.env.cells.lookup x = some c → c ≠ b) ∧ ∀ p ∈ X.pn ++ pins, p.1 ≠ b) : Inv X pins σ H' s' := by
  obtain ⟨h', g', d', t', o'⟩ := s'
  have e : o' = s.os := ho
  subst e
  exact I.call (g' := g') (t' := t') (d' := d') u hok hg hch
end
noncomputable abbrev XK := Value → Option Addr → Hp → Prop
noncomputable abbrev St := List (Option V)
noncomputable abbrev VK := V → Hp → Prop
noncomputable abbrev TE := St → Hp → VK → Prop
noncomputable abbrev TT := St → Hp → (Bool → Hp → Prop) → Prop
noncomputable abbrev TA := St → Hp → (List V → Hp → Prop) → Prop
structure Ends where
  nx : St → Hp → Prop
  rt : VK
  bk : St → Hp → Prop := fun _ _ => False
  ct : St → Hp → Prop := fun _ _ => False
noncomputable abbrev TS := Ends → St → Hp → Prop
noncomputable def EP (X : Cx) (pins : List (Addr × Obj)) (σ : St) (Q : VK) (u : Value) (s' : Shared) : Prop := ∃ v H', Inv X pins σ H' s' ∧ RelV v u ∧ Q v H'
noncomputable def TP (X : Cx) (pins : List (Addr × Obj)) (σ : St) (Q : Bool → Hp → Prop) (b : Bool) (s' : Shared) : Prop := ∃ H', Inv X pins σ H' s' ∧ Q b H'
noncomputable def AP (X : Cx) (pins : List (Addr × Obj)) (σ : St) (Q : List V → Hp → Prop) (us : List Value) (s' : Shared) : Prop := ∃ vs H', Inv X pins σ H' s' ∧ Vals vs us ∧ Q vs H'
noncomputable def SP (X : Cx) (pins : List (Addr × Obj)) (D : Ends) (f : Flow) (s' : Shared) : Prop :=
  match f with
  | .next => ∃ σ' H', Inv X pins σ' H' s' ∧ D.nx σ' H'
  | .brk => ∃ σ' H', Inv X pins σ' H' s' ∧ D.bk σ' H'
  | .cont => ∃ σ' H', Inv X pins σ' H' s' ∧ D.ct σ' H'
  | .ret u => ∃ v σ' H', Inv X pins σ' H' s' ∧ RelV v u ∧ D.rt v H'
noncomputable def PE (X : Cx) (e : Expr) (t : TE) : Prop :=
  ∀ (pins : List (Addr × Obj)) (s : Shared) (σ : St) (H : Hp) (Q : VK), Inv X pins σ H s → t σ H Q → wpAny (model X.prog X.w) X.A (eval e X.env) (EP X pins σ Q) X.xe s
noncomputable def PT (X : Cx) (e : Expr) (t : TT) : Prop :=
  ∀ (pins : List (Addr × Obj)) (s : Shared) (σ : St) (H : Hp) (Q : Bool → Hp → Prop), Inv X pins σ H s → t σ H Q → wpAny (model X.prog X.w) X.A (isTrue e X.env (eval e X.env)) (TP X pins σ Q) X.xe s
noncomputable def PW (X : Cx) (e : Expr) (t : TT) : Prop :=
  ∀ (whole : Sem Value) (pins : List (Addr × Obj)) (s : Shared) (σ : St) (H : Hp) (Q : Bool → Hp → Prop), Inv X pins σ H s → t σ H Q → wpAny (model X.prog X.w) X.A (isTrue e X.env whole) (TP X pins σ Q) X.xe s
theorem PW.pt {X : Cx} {e : Expr} {t : TT} (h : PW X e t) : PT X e t := h _
noncomputable def PA (X : Cx) (es : List Expr) (t : TA) : Prop :=
  ∀ (pos : Pos) (pins : List (Addr × Obj)) (s : Shared) (σ : St) (H : Hp) (Q : List V → Hp → Prop), Inv X pins σ H s → t σ H Q → wpAny (model X.prog X.w) X.A (spliced (backTo pos (starEach es X.env))) (AP X pins σ Q) X.xe s
noncomputable def PS (X : Cx) (st : Stmt) (t : TS) : Prop :=
  ∀ (pins : List (Addr × Obj)) (s : Shared) (σ : St) (H : Hp) (D : Ends), Inv X pins σ H s → t D σ H → wpAny (model X.prog X.w) X.A (exec st X.env) (SP X pins D) X.xe s
noncomputable def PSs (X : Cx) (st : List Stmt) (t : TS) : Prop :=
  ∀ (pins : List (Addr × Obj)) (s : Shared) (σ : St) (H : Hp) (D : Ends), Inv X pins σ H s → t D σ H → wpAny (model X.prog X.w) X.A (execs st X.env) (SP X pins D) X.xe s
theorem thn {α : Type} {t : Sem α} {Q Q' : α → Shared → Prop} {M : Model} {A : Around} {E : Value → Shared → Prop} {s : Shared} (h : wpAny M A t Q E s) (hQ : ∀ a s, Q a s → Q' a s) : wpAny M A t Q' E s := wpAny_mono h hQ fun _ _ x => x
end L2
namespace L2
open PySem PySem.Spec PyProof.Rows
section
variable {X : Cx}
noncomputable def tVar (i : Nat) : TE := fun σ H Q => ∃ v, σ[i]? = some (some v) ∧ Q v H
noncomputable def tC (v : V) : TE := fun _ H Q => Q v H
theorem pe_var {i : Nat} {x : Str} {pos : Pos} (hN : X.N[i]? = some x) (hv : Vis X.env.scope x) (hd : (x == ("__debug__" : Str)) = false := by decide) (hcd : (x == ("__classdict__" : Str)) = false := by decide) : PE X (.Name x pos) (tVar i) := by
  intro pins s σ H Q I h
  obtain ⟨v, e, h⟩ := h
  obtain ⟨m, hn, hl⟩ := I.loc
  obtain ⟨u, r, l⟩ := hl i x v hN e hv
  have fin : EP X pins σ Q u s := ⟨v, H, I, r, h⟩
  rcases l with ⟨hk, hm⟩ | ⟨hk, c, hc, hcell⟩
  · exact wpAny_Name (wpAny_loadName_local I.ok.kind hk hn hm fin) hd
  · rcases hk with hk | hk
    · exact wpAny_Name (wpAny_loadName_cell I.ok.kind hk hc hcell fin) hd
    · exact wpAny_Name (wpAny_loadName_free I.ok.kind hk hc hcell fin hcd) hd
theorem pe_int {i j pos} : PE X (.Constant (.int i) j pos) (tC (.int i)) := fun _ _ _ H _ I h => wpAny_Constant_int ⟨.int i, H, I.tok _, ⟨_, rfl⟩, h⟩
theorem pe_bl {b j pos} : PE X (.Constant (.bool b) j pos) (tC (.bl b)) := fun _ _ _ H _ I h => Constant_bool ⟨.bl b, H, I, rfl, h⟩
theorem pe_non {j pos} : PE X (.Constant .none j pos) (tC .non) := fun _ _ _ H _ I h => Constant_none ⟨.non, H, I, rfl, h⟩
theorem pe_str {x j pos} : PE X (.Constant (.str x) j pos) (tC (.str x)) := fun _ _ _ H _ I h => Calls.Constant_str ⟨.str x, H, I.tok _, ⟨_, rfl⟩, h⟩
noncomputable def Gl (X : Cx) (x : Str) : Prop := X.env.kindOf x = some .globalImplicit
theorem ld_glob {E : Value → Shared → Prop} {pins : List (Addr × Obj)} {s : Shared} {σ : St} {H : Hp} {x : Str} {u : Value} {pos : Pos} {Q : Value → Shared → Prop} (I : Inv X pins σ H s) (hg : Gl X x) (hm : X.mg x = some u) (h : Q u s)
    (hd : (x == ("__debug__" : Str)) = false := by decide) : wpAny (model X.prog X.w) X.A (eval (.Name x pos) X.env) Q E s :=
  Calls.Name_function_global I.ok.kind hg (Calls.loadGlobal_global (by rw [I.ok.glob]; exact I.mod.glob.keeps I.bk) hm h) hd
theorem ld_blt {E : Value → Shared → Prop} {pins : List (Addr × Obj)} {s : Shared} {σ : St} {H : Hp} {x : Str} {u : Value} {pos : Pos} {Q : Value → Shared → Prop} (I : Inv X pins σ H s) (hg : Gl X x) (hm : X.mg x = none) (hv : bootBuiltins x = some u) (h : Q u s)
    (hn : x ≠ "__name__" := by decide) (hd : (x == ("__debug__" : Str)) = false := by decide) : wpAny (model X.prog X.w) X.A (eval (.Name x pos) X.env) Q E s := by
  obtain ⟨mb, h1, h2⟩ := I.mod.blt
  exact Calls.Name_function_global I.ok.kind hg (Calls.loadGlobal_builtin (by rw [I.ok.glob]; exact I.mod.glob.keeps I.bk) hm (by rw [I.ok.blt]; exact h1.keeps I.bk) ((h2 x hn).trans hv) h) hd
theorem pe_glob {x : Str} {v : V} {u : Value} {pos : Pos} (hg : Gl X x) (hm : X.mg x = some u) (r : RelV v u) (hd : (x == ("__debug__" : Str)) = false := by decide) : PE X (.Name x pos) (tC v) :=
  fun _ _ _ H _ I h => ld_glob I hg hm ⟨v, H, I, r, h⟩ hd
theorem pe_bltn {x : Str} {v : V} {u : Value} {pos : Pos} (hg : Gl X x) (hm : X.mg x = none) (hv : bootBuiltins x = some u) (r : RelV v u) (hn : x ≠ "__name__" := by decide) (hd : (x == ("__debug__" : Str)) = false := by decide) : PE X (.Name x pos) (tC v) :=
  fun _ _ _ H _ I h => ld_blt I hg hm hv ⟨v, H, I, r, h⟩ hn hd
variable {a b : Expr} {ta tb : TE} {pos : Pos}
noncomputable def PC (X : Cx) (op : CmpOp) (a b : Expr) (t : TE) : Prop :=
  ∀ (pins : List (Addr × Obj)) (s : Shared) (σ : St) (H : Hp) (Q : VK), Inv X pins σ H s → t σ H Q →
    wpAny (model X.prog X.w) X.A (eval a X.env) (fun v s₁ => wpAny (model X.prog X.w) X.A (eval b X.env) (fun u s₂ => wpAny (model X.prog X.w) X.A (compareOp op v u) (EP X pins σ Q) X.xe s₂) X.xe s₁) X.xe s
noncomputable def tB (t : TE) : TT := fun σ H Q => t σ H fun x H1 => ∃ c, x = .bl c ∧ Q c H1
theorem pt_cmp {op : CmpOp} {t : TE} (h : PC X op a b t) (h1 : behindInMarks op b = false := by first | exact nobehind _ (by decide) (by decide) | rfl) : PT X (.Compare a [op] [b] pos) (tB t) := by
  intro pins s σ H Q I hw
  refine wpAny_isTrue_Compare1 (thn (h pins s σ H _ I hw) fun v s1 h1 => thn h1 fun u s2 h2 => thn h2 fun c s3 ⟨x, H1, I1, r1, q1⟩ => ?_) h1
  obtain ⟨d, rfl, q⟩ := q1
  cases r1
  exact wpAny_truthy_bool ⟨H1, I1, q⟩
theorem pt_val {e : Expr} {t : TE} (h : PE X e t) (he : ∀ whole, isTrue e X.env whole = (do let v ← whole; standAt e.pos; holding [v] (truthy v)) := by intro _; rfl) : PT X e (tB t) := by
  intro pins s σ H Q I hw
  refine isTrue_plain (thn (h pins s σ H _ I hw) fun v s1 ⟨x, H1, I1, r1, q1⟩ => ?_) (he _)
  obtain ⟨d, rfl, q⟩ := q1
  cases r1
  exact wpAny_truthy_bool ⟨H1, I1, q⟩
variable {tA tB' : TT} {rest : List Expr}
noncomputable def tAnd (t u : TT) : TT := fun σ H Q => t σ H fun c H1 => if c = true then u σ H1 Q else Q false H1
noncomputable def tOr (t u : TT) : TT := fun σ H Q => t σ H fun c H1 => if c = true then Q true H1 else u σ H1 Q
noncomputable def tNot (t : TT) : TT := fun σ H Q => t σ H fun c H1 => Q (!c) H1
theorem pw_and1 (ha : PT X a tA) : PW X (.BoolOp .And [a] pos) tA := by
  intro wh pins s σ H Q I h
  refine isTrue_and (thn (ha pins s σ H Q I h) fun c s1 e => ?_)
  cases c with
  | true => exact isTrue_and_nil e
  | false => exact e
theorem pw_or1 (ha : PT X a tA) : PW X (.BoolOp .Or [a] pos) tA := by
  intro wh pins s σ H Q I h
  refine isTrue_or (thn (ha pins s σ H Q I h) fun c s1 e => ?_)
  cases c with
  | false => exact isTrue_or_nil e
  | true => exact e
theorem pw_and (ha : PT X a tA) (hb : PW X (.BoolOp .And (b :: rest) pos) tB') : PW X (.BoolOp .And (a :: b :: rest) pos) (tAnd tA tB') := by
  intro wh pins s σ H Q I h
  refine isTrue_and (thn (ha pins s σ H _ I h) fun c s1 ⟨H1, I1, q1⟩ => ?_)
  cases c with
  | true => exact hb wh pins s1 σ H1 Q I1 q1
  | false => exact ⟨H1, I1, q1⟩
theorem pw_or (ha : PT X a tA) (hb : PW X (.BoolOp .Or (b :: rest) pos) tB') : PW X (.BoolOp .Or (a :: b :: rest) pos) (tOr tA tB') := by
  intro wh pins s σ H Q I h
  refine isTrue_or (thn (ha pins s σ H _ I h) fun c s1 ⟨H1, I1, q1⟩ => ?_)
  cases c with
  | true => exact ⟨H1, I1, q1⟩
  | false => exact hb wh pins s1 σ H1 Q I1 q1
theorem pt_not (ha : PT X a tA) : PT X (.UnaryOp .Not a pos) (tNot tA) := by
  intro pins s σ H Q I h
  exact isTrue_not (ha pins s σ H (fun c H1 => Q (!c) H1) I h)
noncomputable def tAndV (ta tb : TE) : TE := fun σ H Q => ta σ H fun x H1 => ∃ c, x = .bl c ∧ if c = true then tb σ H1 Q else Q (.bl false) H1
theorem pe_one {op} {t : TE} (h : PE X a t) : PE X (.BoolOp op [a] pos) t := fun pins s σ H Q I hw => BoolOp_one (h pins s σ H Q I hw)
theorem pe_and (ha : PE X a ta) (hb : PE X (.BoolOp .And (b :: rest) pos) tb) : PE X (.BoolOp .And (a :: b :: rest) pos) (tAndV ta tb) := by
  intro pins s σ H Q I h
  refine BoolOp_and (thn (ha pins s σ H _ I h) fun v s1 ⟨x, H1, I1, r1, q1⟩ => ?_)
  obtain ⟨c, rfl, q1⟩ := q1
  cases r1
  refine wpAny_truthy_bool ?_
  cases c with
  | true => exact hb pins s1 σ H1 Q I1 q1
  | false => exact ⟨.bl false, H1, I1, rfl, q1⟩
end
end L2
namespace L2
open PySem PySem.Spec PyProof.Rows
noncomputable def SqL (K : PySem.W.Frag) (H : Hp) (a : Addr) (xs : List V) : Prop :=
  Rd H a (.lst xs) ∨
    ∃ (o : Obj) (its : Array Value) (n : Nat), K.lookup a = some o ∧ o.cls = .type "list" ∧ o.dict = none ∧ o.data = .seq its n ∧ its.size ≤ sizeLine ∧ Vals xs its.toList
noncomputable def SqT (K : PySem.W.Frag) (H : Hp) (a : Addr) (xs : List V) : Prop :=
  Rd H a (.tup xs) ∨
    ∃ (o : Obj) (its : Array Value) (n : Nat), K.lookup a = some o ∧ o.cls = .type "tuple" ∧ o.data = .seq its n ∧ its.size ≤ sizeLine ∧ Vals xs its.toList
noncomputable def absV : Value → Option V
  | .none => some .non
  | .bool b => some (.bl b)
  | .int i _ => some (.int i)
  | .str x _ => some (.str x)
  | .bytes b _ => some (.byt b)
  | .float b _ => some (.flt b)
  | .ref a => some (.ref a)
  | .type n => some (.ty n)
  | _ => none
theorem RelV.abs {x : V} {u : Value} (r : RelV x u) : absV u = some x := by
  cases x with
  | non => cases r; rfl
  | bl _ => cases r; rfl
  | int _ => obtain ⟨t, rfl⟩ := r; rfl
  | str _ => obtain ⟨t, rfl⟩ := r; rfl
  | byt _ => obtain ⟨t, rfl⟩ := r; rfl
  | flt _ => obtain ⟨t, rfl⟩ := r; rfl
  | ref _ => cases r; rfl
  | ty _ => cases r; rfl
theorem RelV.inj {x y : V} {u : Value} (r : RelV x u) (q : RelV y u) : x = y := Option.some.inj (r.abs.symm.trans q.abs)
theorem Vals.inj : ∀ {xs ys : List V} {us : List Value}, Vals xs us → Vals ys us → xs = ys
  | _, _, _, .nil, .nil => rfl
  | _, _, _, .cons r t, .cons r' t' => by rw [r.inj r', Vals.inj t t']
section
variable {X : Cx} {pins : List (Addr × Obj)} {σ : St} {H : Hp} {s : Shared} {a : Addr} {xs ys : List V}
theorem SqL.of {K : PySem.W.Frag} (h : H a = some (.lst xs)) : SqL K H a xs := .inl (.inl h)
theorem Inv.list (I : Inv X pins σ H s) (h : SqL X.K H a xs) : ∃ its : List Value, Vals xs its ∧ PlainL s.heap a its.toArray ∧ xs.length ≤ sizeLine := by
  rcases h with h | ⟨o, its, n, hk, hc, hd, hs, hz, r⟩
  · obtain ⟨z, its, n, r, e⟩ := h.ok I.hok
    exact ⟨its, r, ⟨_, n, e, rfl, rfl, rfl⟩, z⟩
  · refine ⟨its.toList, r, ⟨o, n, I.kIn a o hk, hc, hd, by simpa using hs⟩, ?_⟩
    have e := r.length
    simp only [Array.length_toList] at e
    omega
theorem Inv.tuple (I : Inv X pins σ H s) (h : SqT X.K H a xs) : ∃ its : List Value, Vals xs its ∧ IsTup s.heap a its.toArray ∧ xs.length ≤ sizeLine := by
  rcases h with h | ⟨o, its, n, hk, hc, hs, hz, r⟩
  · obtain ⟨z, its, r, p⟩ := h.ok I.hok
    exact ⟨its, r, p, z⟩
  · refine ⟨its.toList, r, ⟨o, I.kIn a o hk, hc, n, by simpa using hs⟩, ?_⟩
    have e := r.length
    simp only [Array.length_toList] at e
    omega
theorem Inv.list_inj (I : Inv X pins σ H s) (h : SqL X.K H a xs) (h' : SqL X.K H a ys) : xs = ys := by
  obtain ⟨its, r, ⟨o, n, e, _, _, d⟩, _⟩ := I.list h
  obtain ⟨its', r', ⟨o', n', e', _, _, d'⟩, _⟩ := I.list h'
  rw [e] at e'; cases e'
  rw [d] at d'
  injection d' with d1 _
  have : its = its' := by simpa using congrArg Array.toList d1
  subst this
  exact r.inj r'
end
noncomputable abbrev Cx.wish (X : Cx) (E : Value → Shared → Prop) : Cx := { X with xe := E }
noncomputable abbrev Cx.nox (X : Cx) : Cx := X.wish fun _ _ => False
theorem Cx.Ok.wish {X : Cx} (ok : X.Ok) (E : Value → Shared → Prop) : (X.wish E).Ok :=
  ⟨ok.mod, ok.kind, ok.glob, ok.blt, ok.above, ok.inj, ok.has, ok.cab, ok.hd, ok.frames, ok.stk, ok.exf, ok.bs, ok.bsz, ok.noex, ok.exfs, ok.funs, ok.frf⟩
theorem Cx.Ok.unwish {X : Cx} {E : Value → Shared → Prop} (ok : (X.wish E).Ok) : X.Ok :=
  ⟨ok.mod, ok.kind, ok.glob, ok.blt, ok.above, ok.inj, ok.has, ok.cab, ok.hd, ok.frames, ok.stk, ok.exf, ok.bs, ok.bsz, ok.noex, ok.exfs, ok.funs, ok.frf⟩
section
variable {X : Cx} {pins : List (Addr × Obj)} {σ : St} {H : Hp} {s : Shared} {E : Value → Shared → Prop}
theorem Inv.wish (I : Inv X pins σ H s) (E : Value → Shared → Prop) : Inv (X.wish E) pins σ H s := ⟨I.ok.wish E, I.os, I.bare, I.base, I.loc, I.cell, I.free, I.freeC, I.pin, I.hok, I.len⟩
theorem Inv.unwish (I : Inv (X.wish E) pins σ H s) : Inv X pins σ H s := ⟨I.ok.unwish, I.os, I.bare, I.base, I.loc, I.cell, I.free, I.freeC, I.pin, I.hok, I.len⟩
theorem SP.unwish {D : Ends} {f : Flow} {s' : Shared} (h : SP (X.wish E) pins D f s') : SP X pins D f s' := by
  cases f with
  | next => obtain ⟨σ', H', I, q⟩ := h; exact ⟨σ', H', I.unwish, q⟩
  | brk => obtain ⟨σ', H', I, q⟩ := h; exact ⟨σ', H', I.unwish, q⟩
  | cont => obtain ⟨σ', H', I, q⟩ := h; exact ⟨σ', H', I.unwish, q⟩
  | ret u => obtain ⟨v, σ', H', I, r, q⟩ := h; exact ⟨v, σ', H', I.unwish, r, q⟩
theorem PSs.nox {st : List Stmt} {t : TS} (h : PSs X.nox st t) : PSs X st t := fun pins s σ H D I hw =>
  wpAny_mono (h pins s σ H D (I.wish _) hw) (fun _ _ q => q.unwish) fun _ _ z => False.elim z
end
section
variable {X : Cx} {st : Stmt} {rest : List Stmt} {t u : TS} {e : Expr} {te : TE} {pos : Pos}
noncomputable def tNext : TS := fun D σ H => D.nx σ H
noncomputable def tSeq (t u : TS) : TS := fun D σ H => t { D with nx := u D } σ H
theorem pss_nil : PSs X [] tNext := fun _ _ σ H _ I h => wpAny_execs_nil ⟨σ, H, I, h⟩
theorem pss_cons (h1 : PS X st t) (h2 : PSs X rest u) : PSs X (st :: rest) (tSeq t u) := by
  intro pins s σ H D I h
  refine wpAny_execs_cons (thn (h1 pins s σ H { D with nx := u D } I h) fun f s1 q => ?_)
  cases f with
  | next =>
    obtain ⟨σ', H', I', q⟩ := q
    exact h2 pins s1 σ' H' D I' q
  | ret v => exact q
  | brk => exact q
  | cont => exact q
theorem pss_one (h1 : PS X st t) : PSs X [st] t := by
  intro pins s σ H D I h
  refine wpAny_execs_cons (thn (h1 pins s σ H D I h) fun f s1 q => ?_)
  cases f with
  | next => exact wpAny_execs_nil q
  | ret v => exact q
  | brk => exact q
  | cont => exact q
theorem Inv.quiet {pins : List (Addr × Obj)} {σ : St} {H : Hp} {s : Shared} (I : Inv X pins σ H s) : interactive X.env = false := by simp [interactive, I.ok.kind]
noncomputable def tDrop (te : TE) : TS := fun D σ H => te σ H fun _ H1 => D.nx σ H1
theorem ps_expr (he : PE X e te) (hs : swapsWith e none pos.line X.env = pure false := by rfl) : PS X (.Expr e pos) (tDrop te) := by
  intro pins s σ H D I h
  exact wpAny_Expr_any (thn (he pins s σ H _ I h) fun v s1 ⟨x, H1, I1, r1, q1⟩ => ⟨σ, H1, I1, q1⟩) I.quiet hs
noncomputable def tRet (te : TE) : TS := fun D σ H => te σ H D.rt
theorem ps_ret (he : PE X e te) : PS X (.Return (some e) pos) (tRet te) := by
  intro pins s σ H D I h
  exact wpAny_Return_some (thn (he pins s σ H _ I h) fun v s1 ⟨x, H1, I1, r1, q1⟩ => ⟨x, σ, H1, I1, r1, q1⟩)
noncomputable def tIfS (c : TT) (t u : TS) : TS := fun D σ H => c σ H fun b H1 => if b = true then t D σ H1 else u D σ H1
theorem ps_if {c : Expr} {a b : List Stmt} {tc : TT} (hc : PT X c tc) (ha : PSs X a t) (hb : PSs X b u) : PS X (.If c a b pos) (tIfS tc t u) := by
  intro pins s σ H D I h
  refine wpAny_If (thn (hc pins s σ H _ I h) fun d s1 ⟨H1, I1, q1⟩ => ?_)
  cases d with
  | true => exact ha pins s1 σ H1 D I1 q1
  | false => exact hb pins s1 σ H1 D I1 q1
end
noncomputable abbrev TG := V → St → Hp → (St → Hp → Prop) → Prop
noncomputable abbrev TGs := List V → St → Hp → (St → Hp → Prop) → Prop
noncomputable def PG (X : Cx) (target : Expr) (t : TG) : Prop :=
  ∀ (pins : List (Addr × Obj)) (s : Shared) (σ : St) (H : Hp) (v : V) (u : Value) (Q : St → Hp → Prop), Inv X pins σ H s → RelV v u → t v σ H Q →
    wpAny (model X.prog X.w) X.A (assign target X.env u) (fun _ s' => ∃ σ' H', Inv X pins σ' H' s' ∧ Q σ' H') X.xe s
noncomputable def PGs (X : Cx) (ts : List Expr) (t : TGs) : Prop :=
  ∀ (pins : List (Addr × Obj)) (s : Shared) (σ : St) (H : Hp) (vs : List V) (us : List Value) (Q : St → Hp → Prop), Inv X pins σ H s → Vals vs us → t vs σ H Q →
    wpAny (model X.prog X.w) X.A (assignInOrder ((assignEach ts X.env).map (·.2)) us) (fun _ s' => ∃ σ' H', Inv X pins σ' H' s' ∧ Q σ' H') X.xe s
noncomputable abbrev TSet := V → V → V → Hp → (Hp → Prop) → Prop
noncomputable def PSet (X : Cx) (t : TSet) : Prop :=
  ∀ (pins : List (Addr × Obj)) (s : Shared) (σ : St) (H : Hp) (o i v : V) (ov iv u : Value) (Q : Hp → Prop), Inv X pins σ H s → RelV o ov → RelV i iv → RelV v u → t o i v H Q →
    wpAny (model X.prog X.w) X.A (setItem ov iv u) (fun _ s' => ∃ H', Inv X pins σ H' s' ∧ Q H') X.xe s
noncomputable abbrev TIp := V → V → Hp → VK → Prop
noncomputable def PIp (X : Cx) (op : Operator) (t : TIp) : Prop :=
  ∀ (pins : List (Addr × Obj)) (s : Shared) (σ : St) (H : Hp) (x y : V) (v u : Value) (Q : VK), Inv X pins σ H s → RelV x v → RelV y u → t x y H Q →
    wpAny (model X.prog X.w) X.A (inplaceOp op v u) (EP X pins σ Q) X.xe s
section
variable {X : Cx} {pos : Pos}
noncomputable def gName (i : Nat) : TG := fun v σ H Q => Q (σ.set i (some v)) H
theorem pg_name {i : Nat} {x : Str} (hN : X.N.Nodup) (hi : X.N[i]? = some x) (hx : Loc X.env.scope x) (hf : X.fn x = true ∨ X.env.scope.names.lookup x = some .local := by first | exact .inl rfl | exact .inr rfl | assumption) : PG X (.Name x pos) (gName i) := by
  intro pins s σ H v u Q I r h
  exact wpAny_assign_Name (store_ok I hN hi hx r (fun s' I' => ⟨_, H, I', h⟩) hf)
noncomputable def gNil : TGs := fun vs σ H Q => vs = [] ∧ Q σ H
noncomputable def gCons (t : TG) (u : TGs) : TGs := fun vs σ H Q => ∃ v r, vs = v :: r ∧ t v σ H fun σ' H' => u r σ' H' Q
theorem pgs_nil : PGs X [] gNil := by
  intro pins s σ H vs us Q I r h
  obtain ⟨e, h⟩ := h
  subst e
  cases r
  exact assignInOrder_nil ⟨σ, H, I, h⟩
theorem pgs_cons {e : Expr} {es : List Expr} {t : TG} {u : TGs} (h1 : PG X e t) (h2 : PGs X es u)
    (hs : (assignEach (e :: es) X.env).map (·.2) = assign e X.env :: (assignEach es X.env).map (·.2) := by rfl) : PGs X (e :: es) (gCons t u) := by
  intro pins s σ H vs us Q I r h
  obtain ⟨v, vr, e1, h⟩ := h
  subst e1
  cases r with
  | cons r rr =>
    rw [hs]
    refine assignInOrder_cons (thn (h1 pins s σ H _ _ _ I r h) fun _ s1 ⟨σ1, H1, I1, q1⟩ => ?_)
    exact h2 pins s1 σ1 H1 _ _ Q I1 rr q1
noncomputable def gTup (K : PySem.W.Frag) (n : Nat) (t : TGs) : TG := fun v σ H Q => ∃ a xs, v = .ref a ∧ SqT K H a xs ∧ xs.length = n ∧ t xs σ H Q
theorem pg_tup {es : List Expr} {k : Nat} {t : TGs} {n : Nat} (hc : X.calm = true) (h : PGs X es t)
    (hn : (assignEach es X.env).length = n := by rfl) (hst : (assignEach es X.env).findIdx? (·.1) = none := by rfl) : PG X (.Tuple es k pos) (gTup X.K n t) := by
  intro pins s σ H v u Q I r hw
  obtain ⟨a, xs, e1, hq, hl, hw⟩ := hw
  subst e1
  cases r
  obtain ⟨its, rv, ht, hz⟩ := I.tuple hq
  refine assign_Tuple_tuple (I.ok.hd hc) ht (by simp [hn, ← hl, rv.length]) hst fun h' hx => ?_
  have I1 : Inv X pins σ H { s with heap := h' } := I.kept (t' := s.toks) fun b o e => hx b o (Nat.ne_of_lt (Heap.lt_size e)) e
  exact h pins _ σ H xs _ Q I1 (by simpa using rv) hw
noncomputable def gSub (to ti : TE) (t : TSet) : TG := fun v σ H Q => to σ H fun o H1 => ti σ H1 fun i H2 => t o i v H2 fun H3 => Q σ H3
theorem pg_sub {o i : Expr} {to ti : TE} {t : TSet} (ho : PE X o to) (hi : PE X i ti) (hs : PSet X t)
    (ha : ∀ v, assign (.Subscript o i pos) X.env v = (do
      let ov ← holding [v] (eval o X.env)
      let iv ← holding [v, ov] (eval i X.env)
      standAt pos
      holding [v, ov, iv] (setItem ov iv v)
      release [v, ov, iv] []) := by intro _; rfl) : PG X (.Subscript o i pos) (gSub to ti t) := by
  intro pins s σ H v u Q I r h
  rw [ha]
  refine wpAny_bind (wpAny_holding (thn (ho pins s σ H _ I h) fun ov s1 ⟨x, H1, I1, r1, q1⟩ => ?_))
  refine wpAny_bind (wpAny_holding (thn (hi pins s1 σ H1 _ I1 q1) fun iv s2 ⟨y, H2, I2, r2, q2⟩ => ?_))
  refine wpAny_bind (wpAny_standAt (wpAny_bind (wpAny_holding (thn (hs pins s2 σ H2 x y v ov iv u _ I2 r1 r2 r q2) fun _ s3 ⟨H3, I3, q3⟩ => ?_))))
  exact wpAny_release ⟨σ, H3, I3, q3⟩
noncomputable def tAsg (te : TE) (g : TG) : TS := fun D σ H => te σ H fun x H1 => g x σ H1 D.nx
theorem ps_asg {tg e : Expr} {te : TE} {g : TG} (he : PE X e te) (hg : PG X tg g) (hs : swapsWithSole [tg] e pos.line X.env = pure false := by rfl) (hw : swappedStores [tg] e X.env = pure none := by rfl)
    (h1 : (assignEach [tg] X.env).map (·.2) = [assign tg X.env] := by rfl) : PS X (.Assign [tg] e pos) (tAsg te g) := by
  intro pins s σ H D I h
  refine wpAny_Assign_stores (thn (he pins s σ H _ I h) fun v s1 ⟨x, H1, I1, r1, q1⟩ => ?_) hs hw
  rw [h1]
  exact thn (hg pins s1 σ H1 x v _ I1 r1 q1) fun _ s2 q => q
theorem ps_set {i : Nat} {x : Str} {e : Expr} {te : TE} {pos' : Pos} (hN : X.N.Nodup) (hi : X.N[i]? = some x) (hx : Loc X.env.scope x) (he : PE X e te) (hs : swapsWith e (some (.Name x pos')) pos.line X.env = pure false := by rfl) (hf : X.fn x = true ∨ X.env.scope.names.lookup x = some .local := by first | exact .inl rfl | exact .inr rfl | assumption) :
    PS X (.Assign [.Name x pos'] e pos) (tAsg te (gName i)) := by
  intro pins s σ H D I h
  refine wpAny_Assign_Name (thn (he pins s σ H _ I h) fun v s1 ⟨y, H1, I1, r1, q1⟩ => ?_) hs
  exact store_ok I1 hN hi hx r1 (fun s2 I2 => ⟨_, H1, I2, q1⟩) hf
noncomputable def tAug (i : Nat) (te : TE) (ti : TIp) : TS := fun D σ H => ∃ x, σ[i]? = some (some x) ∧ te σ H fun y H1 => ti x y H1 fun z H2 => D.nx (σ.set i (some z)) H2
theorem ps_aug {i : Nat} {x : Str} {e : Expr} {te : TE} {op : Operator} {ti : TIp} {pos' : Pos} (hN : X.N.Nodup) (hi : X.N[i]? = some x) (hx : Loc X.env.scope x) (he : PE X e te) (ho : PIp X op ti) (hf : X.fn x = true ∨ X.env.scope.names.lookup x = some .local := by first | exact .inl rfl | exact .inr rfl | assumption) :
    PS X (.AugAssign (.Name x pos') op e pos) (tAug i te ti) := by
  intro pins s σ H D I h
  obtain ⟨v, e1, h⟩ := h
  obtain ⟨m, hn, hl⟩ := I.loc
  have vis : Vis X.env.scope x := by rcases hx with k | k; exact .inl k; exact .inr (.inl k)
  obtain ⟨u, r, l⟩ := hl i x v hi e1 vis
  refine wpAny_AugAssign_Name ?_
  have go : wpAny (model X.prog X.w) X.A (eval e X.env) (fun w s₂ => wpAny (model X.prog X.w) X.A (inplaceOp op u w) (fun r s₃ => wpAny (model X.prog X.w) X.A (storeName X.env x r) (fun _ => SP X pins D .next) X.xe s₃) X.xe s₂) X.xe s := by
    refine thn (he pins s σ H _ I h) fun w s1 ⟨y, H1, I1, r1, q1⟩ => ?_
    refine thn (ho pins s1 σ H1 v y u w _ I1 r r1 q1) fun z s2 ⟨zv, H2, I2, r2, q2⟩ => ?_
    exact store_ok I2 hN hi hx r2 (fun s3 I3 => ⟨_, H2, I3, q2⟩) hf
  rcases l with ⟨hk, hm⟩ | ⟨hk, c, hc, hcell⟩
  · exact wpAny_loadName_local I.ok.kind hk hn hm go
  · rcases hk with hk | hk
    · exact wpAny_loadName_cell I.ok.kind hk hc hcell go
    · rcases hx with k | k
      · have : X.env.scope.names.lookup x = some .free := hk
        rw [k] at this; cases this
      · have : X.env.scope.names.lookup x = some .free := hk
        rw [k] at this; cases this
noncomputable def ipI (f : Int → Int → Int) : TIp := fun x y H Q => ∃ i j, x = .int i ∧ y = .int j ∧ Q (.int (f i j)) H
theorem ip_add : PIp X .Add (ipI fun i j => i + j) := by
  intro pins s σ H x y v u Q I r1 r2 h
  obtain ⟨i, j, e1, e2, q⟩ := h
  subst e1; subst e2
  obtain ⟨t, rfl⟩ := r1
  obtain ⟨t', rfl⟩ := r2
  exact iadd_int ⟨.int _, H, I.tok _, ⟨_, rfl⟩, q⟩
end
section
variable {X : Cx} {pos : Pos}
noncomputable def tWhile (c : TT) (tb : TS) : TS := fun D σ H => ∃ W : Nat → St → Hp → Prop, (∃ m, W m σ H) ∧ ∀ m σ H, W m σ H →
  c σ H fun b H1 => if b = true then ∃ N : St → Hp → Prop, (∀ σ' H', N σ' H' → ∃ m', m' < m ∧ W m' σ' H') ∧ tb { D with nx := N, ct := N, bk := D.nx } σ H1 else D.nx σ H1
theorem ps_while {c : Expr} {body : List Stmt} {tc : TT} {tb : TS} (hp : PassesOwn (model X.prog X.w) X.A X.env X.xe) (hc : PT X c tc) (hb : PSs X body tb) : PS X (.While c body [] pos) (tWhile tc tb) := by
  intro pins s σ H D I h
  obtain ⟨W, ⟨m0, w0⟩, turn⟩ := h
  refine wpAny_While (codeAny_whileLoop (fun n s' => ∃ σ' H', Inv X pins σ' H' s' ∧ W n σ' H') ?_ m0 ⟨σ, H, I, w0⟩)
  rintro n s1 ⟨σ1, H1, I1, w1⟩
  refine wpAny_passesOwn hp (thn (hc pins s1 σ1 H1 _ I1 (turn n σ1 H1 w1)) fun b s2 ⟨H2, I2, q2⟩ => ?_)
  cases b with
  | true =>
    obtain ⟨N, hN, q2⟩ := q2
    rw [if_pos rfl]
    refine wpAny_passesOwn hp (thn (hb pins s2 σ1 H2 _ I2 q2) fun f s3 q3 => ?_)
    cases f with
    | next =>
      obtain ⟨σ3, H3, I3, n3⟩ := q3
      obtain ⟨m', hm, w3⟩ := hN σ3 H3 n3
      exact ⟨m', hm, σ3, H3, I3, w3⟩
    | cont =>
      obtain ⟨σ3, H3, I3, n3⟩ := q3
      obtain ⟨m', hm, w3⟩ := hN σ3 H3 n3
      exact ⟨m', hm, σ3, H3, I3, w3⟩
    | brk => exact q3
    | ret v => exact q3
  | false =>
    rw [if_neg Bool.false_ne_true]
    exact wpAny_execs_nil ⟨σ1, H2, I2, q2⟩
end
structure It where
  go : Nat → Hp → Prop
  yld : Nat → Hp → V → Hp → Prop
  stop : Nat → Hp → Prop
noncomputable def FpOk (X : Cx) (pins : List (Addr × Obj)) (H : Hp) (b : Addr) : Prop :=
  H b = none ∧ b ≠ X.env.locals ∧ b ∉ X.fs ∧ (b ∈ X.ex ∨ X.s₀.heap.objs.size ≤ b) ∧ (∀ x c, X.env.cells.lookup x = some c → c ≠ b) ∧ ∀ p ∈ X.pn ++ pins, p.1 ≠ b
theorem Inv.fpOk {X : Cx} {pins : List (Addr × Obj)} {σ : St} {H H' : Hp} {s : Shared} {b : Addr} (I : Inv X pins σ H s) (hb : s.heap.objs.size ≤ b) (hn : H' b = none) : FpOk X pins H' b := by
  refine ⟨hn, Nat.ne_of_gt (Nat.lt_of_lt_of_le I.lt hb), I.nofs hb, .inr (Nat.le_trans I.sz hb), fun x c e z => ?_, fun p hp z => ?_⟩
  · obtain ⟨v, q⟩ := I.cell x c e
    exact absurd (Nat.lt_of_lt_of_le q.lt (by rw [z]; exact hb)) (Nat.lt_irrefl _)
  · exact absurd (Nat.lt_of_lt_of_le (Heap.lt_size (I.pin p hp).1) (by rw [z]; exact hb)) (Nat.lt_irrefl _)
structure Turn (P : Program) (w : World) (K : PySem.W.Frag) (tg : Expr) (J : It) (fp : List Addr) (it : Addr) (tn : Nat → Heap → Prop) : Prop where
  mem : it ∈ fp
  obj : ∀ i h, tn i h → ∀ b ∈ fp, ∃ o, h.get? b = some o ∧ ∀ v, o.data ≠ .cell v
  keep : ∀ i h h', tn i h → (∀ b ∈ fp, ∀ o, h.get? b = some o → h'.get? b = some o) → tn i h'
  item : ∀ (X : Cx), X.prog = P → X.w = w → X.K = K → X.calm = true → ∀ (i : Nat) (pins : List (Addr × Obj)) (s : Shared) (σ : St) (H : Hp) (E : Value → Shared → Prop), Inv X pins σ H s → (∀ b ∈ fp, FpOk X pins H b) → tn i s.heap → J.go i H →
    wpAny (model P w) X.A (pyNext (.ref it)) (fun r s1 => ∃ u, r = some u ∧
      wpAny (model P w) X.A (letOwnedTupleGo tg (.ref it) u) (fun _ s2 => ∃ x H', Inv X pins σ H' s2 ∧ RelV x u ∧ J.yld i H x H' ∧ tn (i + 1) s2.heap ∧ ∀ b ∈ fp, H' b = none) E s1) E s
  done : ∀ (X : Cx), X.prog = P → X.w = w → X.K = K → X.calm = true → ∀ (i : Nat) (pins : List (Addr × Obj)) (s : Shared) (σ : St) (H : Hp) (E : Value → Shared → Prop), Inv X pins σ H s → (∀ b ∈ fp, FpOk X pins H b) → tn i s.heap → J.stop i H →
    wpAny (model P w) X.A (pyNext (.ref it)) (fun r s1 => r = none ∧ Inv X pins σ H s1) E s
  self : ∀ (A : Around) (i : Nat) (s : Shared) (Q : Value → Shared → Prop) (E : Value → Shared → Prop), tn i s.heap → Q (.ref it) s → wpAny (model P w) A (pyIter (.ref it)) Q E s
noncomputable abbrev TI := St → Hp → (It → Hp → Prop) → Prop
noncomputable def PIE (X : Cx) (pins : List (Addr × Obj)) (σ : St) (tg : Expr) (R : It → Hp → Prop) (itv : Value) (s2 : Shared) : Prop :=
  ∃ (it : Addr) (fp : List Addr) (tn : Nat → Heap → Prop) (J : It) (H' : Hp), itv = .ref it ∧ Inv X pins σ H' s2 ∧ Turn X.prog X.w X.K tg J fp it tn ∧ tn 0 s2.heap ∧ (∀ b ∈ fp, FpOk X pins H' b) ∧ R J H'
noncomputable def PI (X : Cx) (tg iter : Expr) (wi : TI) : Prop :=
  ∀ (pins : List (Addr × Obj)) (s : Shared) (σ : St) (H : Hp) (R : It → Hp → Prop), Inv X pins σ H s → wi σ H R →
    wpAny (model X.prog X.w) X.A (eval iter X.env) (fun v s1 => wpAny (model X.prog X.w) X.A (pyIter v) (PIE X pins σ tg R) X.xe s1) X.xe s
theorem go_of {M : Model} {A : Around} {E : Value → Shared → Prop} {s : Shared} {tg : Expr} {it : Addr} {u : Value} {o : Obj} {n : String} {vs : Array Value} {Q : Unit → Shared → Prop} (ho : s.heap.get? it = some o) (hc : o.cls = .type n) (hd : o.data = .fields vs)
    (hn : ["enumerate", "zip", "dict_itemiterator", "dict_reverseitemiterator", "odict_iterator", "itertools.zip_longest", "itertools.pairwise"].contains n = false) (hQ : Q () s) : wpAny M A (letOwnedTupleGo tg (.ref it) u) Q E s := by
  unfold letOwnedTupleGo
  cases tg <;> first
    | exact wpAny_pure hQ
    | (cases u <;> first
        | exact wpAny_pure hQ
        | (refine wpAny_bind (wpAny_load ho ?_)
           rw [hc, hd]
           show wpAny M A (if (["enumerate", "zip", "dict_itemiterator", "dict_reverseitemiterator", "odict_iterator", "itertools.zip_longest", "itertools.pairwise"].contains n && vs[0]? == some (rawInt _)) = true then _ else _) Q E s
           rw [if_neg (by intro h; rw [hn, Bool.false_and] at h; cases h)]
           exact wpAny_pure hQ))
noncomputable def Itl (K : PySem.W.Frag) (a : Addr) : It :=
  ⟨fun i H => ∃ xs x, SqL K H a xs ∧ xs[i]? = some x, fun i H x H' => H' = H ∧ ∀ xs, SqL K H a xs → xs[i]? = some x, fun i H => ∃ xs, SqL K H a xs ∧ xs.length ≤ i⟩
noncomputable def Itr (lo : Int) (n : Nat) : It := ⟨fun i _ => i < n, fun i H x H' => H' = H ∧ x = .int (lo + i), fun i _ => n ≤ i⟩
theorem turn_list {P : Program} {w : World} {K : PySem.W.Frag} {tg : Expr} (a it : Addr) : Turn P w K tg (Itl K a) [it] it (fun i h => h.IsListIter it a i) where
  mem := by simp
  obj := fun i h st b hb => by
    have e : b = it := by simpa using hb
    subst e
    obtain ⟨o, e, c, d⟩ := st
    exact ⟨o, e, fun v z => by rw [d] at z; cases z⟩
  keep := fun i h h' st k => st.at fun o e => k it (by simp) o e
  item := by
    intro X hP hw hK hc i pins s σ H E I hf st hg
    subst hP hw hK
    obtain ⟨xs, x, hq, hx⟩ := hg
    obtain ⟨its, rv, p, hz⟩ := I.list hq
    obtain ⟨u, hu, ru⟩ := rv.get hx
    obtain ⟨f0, f1, f2, f3, f4, f5⟩ := hf it (by simp)
    refine wpAny_pyNext_list_item st p.isList (x := u) (by simpa using hu) fun h' st' sb => ?_
    have I1 : Inv X pins σ H { s with heap := h' } := I.turned (t' := s.toks) (fun b o hb e => (sb.2 b hb).trans e) f0 f1 f3 f4 f5
    obtain ⟨o, e, c, d⟩ := id st'
    exact ⟨u, rfl, go_of (s := { s with heap := h' }) e c d (by decide) ⟨x, H, I1, ru, ⟨rfl, fun ys hy => by rw [I.list_inj hy hq]; exact hx⟩, st', fun b hb => (hf b hb).1⟩⟩
  done := by
    intro X hP hw hK hc i pins s σ H E I hf st hg
    subst hP hw hK
    obtain ⟨xs, hq, hx⟩ := hg
    obtain ⟨its, rv, p, hz⟩ := I.list hq
    obtain ⟨f0, f1, f2, f3, f4, f5⟩ := hf it (by simp)
    have hl := rv.length
    exact wpAny_pyNext_list_end (I.ok.hd hc) st p.isList (by simp; omega) fun h' eb => ⟨rfl, I.turned (t' := s.toks) (fun b o hb e => eb b o hb e) f0 f1 f3 f4 f5⟩
  self := fun _ _ _ _ _ st h => wpAny_pyIter_listiter st h
theorem turn_range {P : Program} {w : World} {K : PySem.W.Frag} {tg : Expr} (it : Addr) (lo : Int) (n : Nat) : Turn P w K tg (Itr lo n) [it] it (fun i h => IsRangeIter h it (lo + (i : Nat) * 1) ((n : Int) - (i : Nat)) 1) where
  mem := by simp
  obj := fun i h st b hb => by
    have e : b = it := by simpa using hb
    subst e
    exact ⟨_, st, fun v z => by
      have z' : Data.fields _ = Data.cell v := z
      cases z'⟩
  keep := fun i h h' st k => k it (by simp) _ st
  item := by
    intro X hP hw hK hc i pins s σ H E I hf st hg
    subst hP hw hK
    obtain ⟨f0, f1, f2, f3, f4, f5⟩ := hf it (by simp)
    have W := Walks.range (prog := X.prog) (w := X.w) (I.ok.hd hc) it lo 1 n
    refine W.item i s _ _ hg st fun v h' tk hv st' kk => ?_
    obtain ⟨t, rfl⟩ := hv
    have I1 : Inv X pins σ H { s with heap := h', toks := tk } := I.turned (fun b o hb e => kk b o (by simpa using hb) e) f0 f1 f3 f4 f5
    refine ⟨_, rfl, go_of (s := { s with heap := h', toks := tk }) (n := "range_iterator") st' rfl rfl (by decide) ⟨.int (lo + i), H, I1, ⟨t, ?_⟩, ⟨rfl, rfl⟩, st', fun b hb => (hf b hb).1⟩⟩
    rw [Int.mul_one]
  done := by
    intro X hP hw hK hc i pins s σ H E I hf st hg
    subst hP hw hK
    obtain ⟨f0, f1, f2, f3, f4, f5⟩ := hf it (by simp)
    exact wpAny_pyNext_range_end (I.ok.hd hc) st (by have : n ≤ i := hg; omega) fun h' eb => ⟨rfl, I.turned (t' := s.toks) (fun b o hb e => eb b o hb e) f0 f1 f3 f4 f5⟩
  self := fun _ _ _ _ _ st h => wpAny_pyIter_rangeiter st h
end L2
namespace L2
open PySem PySem.Spec PyProof.Rows
section
variable {X : Cx} {tg : Expr}
noncomputable def iList (K : PySem.W.Frag) (tl : TE) : TI := fun σ H R => tl σ H fun x H1 => ∃ a, x = .ref a ∧ (∃ xs, SqL K H1 a xs) ∧ R (Itl K a) H1
theorem pi_list {l : Expr} {tl : TE} (hl : PE X l tl) : PI X tg l (iList X.K tl) := by
  intro pins s σ H R I h
  refine thn (hl pins s σ H _ I h) fun v s1 ⟨x, H1, I1, r1, q1⟩ => ?_
  obtain ⟨a, e, ⟨xs, hq⟩, q⟩ := q1
  subst e
  cases r1
  obtain ⟨its, rv, p, hz⟩ := I1.list hq
  refine wpAny_pyIter_list p.isList ?_
  refine ⟨s1.heap.objs.size, [s1.heap.objs.size], _, _, H1, rfl, I1.kept (t' := s1.toks) fun b o e => Heap.get?_push_of_some _ e, turn_list a _, ⟨_, Heap.get?_push_size _ rfl, rfl, rfl⟩, fun b hb => ?_, q⟩
  have e : b = s1.heap.objs.size := by simpa using hb
  subst e
  exact I1.fpOk (Nat.le_refl _) (I1.hok.fresh (Nat.le_refl _))
theorem range_it {pins : List (Addr × Obj)} {σ : St} {H : Hp} {s : Shared} {R : It → Hp → Prop} {E : Value → Shared → Prop} {lo hi : Int} {t u v : Tok} {tk : Nat} (I : Inv X pins σ H s) (h1 : -(2 ^ 62) ≤ lo) (h2 : lo < 2 ^ 62) (h3 : -(2 ^ 62) ≤ hi) (h4 : hi < 2 ^ 62)
    (q : R (Itr lo (hi - lo).toNat) H) : wpAny (model X.prog X.w) X.A (pyIter (.ref s.heap.objs.size)) (PIE X pins σ tg R) E { s with heap := s.heap.push { cls := .type "range", data := .fields #[.int lo t, .int hi u, .int 1 v] }, toks := tk } := by
  refine wpAny_pyIter_range (IsRange.new ..) (small_one h1 h2 h3 h4) ?_
  have I1 : Inv X pins σ H { s with heap := s.heap.push { cls := .type "range", data := .fields #[.int lo t, .int hi u, .int 1 v] }, toks := tk } := I.kept fun b o e => Heap.get?_push_of_some _ e
  refine ⟨(s.heap.push { cls := .type "range", data := .fields #[.int lo t, .int hi u, .int 1 v] }).objs.size, [(s.heap.push { cls := .type "range", data := .fields #[.int lo t, .int hi u, .int 1 v] }).objs.size], _, _, H, rfl,
    I1.kept (t' := tk) fun b o e => Heap.get?_push_of_some _ e, turn_range _ lo (hi - lo).toNat, ?_, fun b hb => ?_, q⟩
  · have e1 : lo + ((0 : Nat) : Int) * 1 = lo := by simp
    have e2 : (((hi - lo).toNat : Nat) : Int) - ((0 : Nat) : Int) = Builtin.Range.rangeSize lo hi 1 := by rw [rangeSize_one]; split <;> omega
    show IsRangeIter _ _ (lo + ((0 : Nat) : Int) * 1) ((((hi - lo).toNat : Nat) : Int) - ((0 : Nat) : Int)) 1
    rw [e1, e2]
    exact Heap.get?_push_size _ rfl
  · have e : b = (s.heap.push { cls := .type "range", data := .fields #[.int lo t, .int hi u, .int 1 v] }).objs.size := by simpa using hb
    subst e
    exact I1.fpOk (Nat.le_refl _) (I1.hok.fresh (Nat.le_refl _))
noncomputable def iRng1 (ta : TA) : TI := fun σ H R => ta σ H fun vs H1 => ∃ j : Int, vs = [.int j] ∧ -(2 ^ 62) ≤ j ∧ j < 2 ^ 62 ∧ R (Itr 0 j.toNat) H1
theorem pi_range1 {a : Expr} {ta : TA} {p pos : Pos} (hg : Gl X "range") (hm : X.mg "range" = none) (ha : PA X [a] ta) (hs : starEach [a] X.env = [(false, eval a X.env)] := by rfl) : PI X tg (.Call (.Name "range" p) [a] [] pos) (iRng1 ta) := by
  intro pins s σ H R I h
  refine Call_ (ld_blt I hg hm boot_range (PyProof.Rows.callWith_type1 (thn (ha pos pins s σ H _ I h) fun us s1 ⟨vs, H1, I1, r1, q1⟩ => ?_) hs rfl))
  obtain ⟨j, e, q1, q2, q⟩ := q1
  subst e
  cases r1 with
  | cons r rr =>
    cases rr
    obtain ⟨t, rfl⟩ := r
    exact call_range_1 (range_it I1 (by omega) (by omega) q1 q2 (by simpa using q))
noncomputable def tFor (wi : TI) (g : TG) (tb : TS) : TS := fun D σ H => wi σ H fun J H1 => ∃ W : Nat → Nat → St → Hp → Prop, (∃ m, W 0 m σ H1) ∧ ∀ i m σ H, W i m σ H →
  (J.stop i H ∧ D.nx σ H) ∨ (J.go i H ∧ ∃ N : St → Hp → Prop, (∀ σ' H', N σ' H' → ∃ m', m' < m ∧ W (i + 1) m' σ' H') ∧ ∀ x H', J.yld i H x H' → g x σ H' fun σ2 H2 => tb { D with nx := N, ct := N, bk := D.nx } σ2 H2)
noncomputable def pinsAt (fp : List Addr) (h : Heap) : List (Addr × Obj) := fp.filterMap fun b => (h.get? b).map fun o => (b, o)
theorem mem_pinsAt {fp : List Addr} {h : Heap} {b : Addr} {o : Obj} (hb : b ∈ fp) (e : h.get? b = some o) : (b, o) ∈ pinsAt fp h := List.mem_filterMap.mpr ⟨b, hb, by rw [e]; rfl⟩
theorem of_pinsAt {fp : List Addr} {h : Heap} {p : Addr × Obj} (hp : p ∈ pinsAt fp h) : p.1 ∈ fp ∧ h.get? p.1 = some p.2 := by
  obtain ⟨b, hb, e⟩ := List.mem_filterMap.mp hp
  cases q : h.get? b with
  | none => rw [q] at e; cases e
  | some o =>
    rw [q] at e
    have e' : (b, o) = p := Option.some.inj e
    subst e'
    exact ⟨hb, q⟩
theorem Inv.pinned {pins : List (Addr × Obj)} {σ : St} {H : Hp} {s : Shared} {fp : List Addr} (I : Inv X pins σ H s) (hf : ∀ b ∈ fp, FpOk X pins H b) (ho : ∀ b ∈ fp, ∃ o, s.heap.get? b = some o ∧ ∀ v, o.data ≠ .cell v) : Inv X (pins ++ pinsAt fp s.heap) σ H s :=
  I.pins_of fun p hp => (List.mem_append.mp hp).elim (fun z => I.pin p (List.mem_append_right _ z)) fun z => by
    obtain ⟨hb, e⟩ := of_pinsAt z
    obtain ⟨f0, f1, f2, _⟩ := hf p.1 hb
    obtain ⟨o, e', d⟩ := ho p.1 hb
    rw [e] at e'; cases e'
    exact ⟨e, f0, f1, f2, d⟩
theorem Inv.unpinned {pins pl : List (Addr × Obj)} {σ : St} {H : Hp} {s : Shared} (I : Inv X (pins ++ pl) σ H s) : Inv X pins σ H s := I.pins_of fun p hp => I.pin p (List.mem_append_right _ (List.mem_append_left _ hp))
theorem ps_for {iter : Expr} {body : List Stmt} {wi : TI} {g : TG} {tb : TS} {pos : Pos} (hp : PassesOwn (model X.prog X.w) X.A X.env X.xe) (hc : X.calm = true) (hi : PI X tg iter wi) (hg : PG X tg g) (hb : PSs X body tb)
    (hs : ∀ x, foldedSetIterable iter X.env x = pure x := by intro _; rfl) : PS X (.For tg iter body [] pos) (tFor wi g tb) := by
  intro pins s σ H D I h
  refine wpAny_For (thn (hi pins s σ H _ I h) fun v s1 h1 => thn h1 fun itv s2 h2 => ?_) hs
  obtain ⟨it, fp, tn, J, H2, e, I2, T, st2, f2, W, ⟨m0, w0⟩, turn⟩ := h2
  subst e
  have stat : ∀ {H' : Hp}, (∀ b ∈ fp, H' b = none) → ∀ b ∈ fp, FpOk X pins H' b := fun hn b hb => ⟨hn b hb, (f2 b hb).2⟩
  refine codeAny_forLoop_any (fun n s' => ∃ i σ' H', Inv X pins σ' H' s' ∧ tn i s'.heap ∧ (∀ b ∈ fp, H' b = none) ∧ W i n σ' H') ?_ m0 ⟨0, σ, H2, I2, st2, fun b hb => (f2 b hb).1, w0⟩
  rintro n s3 ⟨i, σ3, H3, I3, st3, fr3, w3⟩
  rcases turn i n σ3 H3 w3 with ⟨stop, qn⟩ | ⟨go, N, hN, step⟩
  · refine wpAny_passesOwn hp (thn (T.done X rfl rfl rfl hc i pins s3 σ3 H3 X.xe I3 (stat fr3) st3 stop) fun r s4 ⟨hr, I4⟩ => ?_)
    subst hr
    exact wpAny_execs_nil ⟨σ3, H3, I4, qn⟩
  · refine wpAny_passesOwn hp (thn (T.item X rfl rfl rfl hc i pins s3 σ3 H3 X.xe I3 (stat fr3) st3 go) fun r s4 ⟨u, hr, h4⟩ => ?_)
    subst hr
    refine wpAny_passesOwn hp (thn h4 fun _ s5 ⟨x, H5, I5, r5, y5, st5, fr5⟩ => ?_)
    have I5' := I5.pinned (stat fr5) (T.obj _ _ st5)
    refine wpAny_passesOwn hp (thn (hg _ s5 σ3 H5 x u _ I5' r5 (step x H5 y5)) fun _ s6 ⟨σ6, H6, I6, q6⟩ => ?_)
    refine wpAny_passesOwn hp (thn (hb _ s6 σ6 H6 _ I6 q6) fun f s7 q7 => ?_)
    have again : ∀ {σ7 : St} {H7 : Hp}, Inv X (pins ++ pinsAt fp s5.heap) σ7 H7 s7 → N σ7 H7 → ∃ m, m < n ∧ ∃ i σ' H', Inv X pins σ' H' s7 ∧ tn i s7.heap ∧ (∀ b ∈ fp, H' b = none) ∧ W i m σ' H' := fun {σ7 H7} I7 n7 => by
      obtain ⟨m', hm, w7⟩ := hN σ7 H7 n7
      refine ⟨m', hm, i + 1, σ7, H7, I7.unpinned, T.keep _ _ _ st5 fun b hb o e => (I7.pin (b, o) (List.mem_append_right _ (List.mem_append_right _ (mem_pinsAt hb e)))).1, fun b hb => ?_, w7⟩
      obtain ⟨o, e, d⟩ := T.obj _ _ st5 b hb
      exact (I7.pin (b, o) (List.mem_append_right _ (List.mem_append_right _ (mem_pinsAt hb e)))).2.1
    cases f with
    | next => obtain ⟨σ7, H7, I7, n7⟩ := q7; exact again I7 n7
    | cont => obtain ⟨σ7, H7, I7, n7⟩ := q7; exact again I7 n7
    | brk => obtain ⟨σ7, H7, I7, q7⟩ := q7; exact ⟨σ7, H7, I7.unpinned, q7⟩
    | ret v => obtain ⟨x7, σ7, H7, I7, r7, q7⟩ := q7; exact ⟨x7, σ7, H7, I7.unpinned, r7, q7⟩
end
theorem for_list {K : PySem.W.Frag} {a : Addr} {xs : List V} {g : TG} {tb : TS} {D : Ends} {σ : St} {H : Hp} (Pv : Nat → St → Hp → Prop) (h0 : Pv 0 σ H) (hl : ∀ i σ H, i ≤ xs.length → Pv i σ H → SqL K H a xs)
    (hs : ∀ i x σ H, xs[i]? = some x → Pv i σ H → g x σ H fun σ2 H2 => tb { D with nx := Pv (i + 1), ct := Pv (i + 1), bk := D.nx } σ2 H2) (hd : ∀ σ H, Pv xs.length σ H → D.nx σ H) :
    ∃ W : Nat → Nat → St → Hp → Prop, (∃ m, W 0 m σ H) ∧ ∀ i m σ H, W i m σ H →
      ((Itl K a).stop i H ∧ D.nx σ H) ∨ ((Itl K a).go i H ∧ ∃ N : St → Hp → Prop, (∀ σ' H', N σ' H' → ∃ m', m' < m ∧ W (i + 1) m' σ' H') ∧ ∀ x H', (Itl K a).yld i H x H' → g x σ H' fun σ2 H2 => tb { D with nx := N, ct := N, bk := D.nx } σ2 H2) := by
  refine ⟨fun i m σ H => m = xs.length - i ∧ i ≤ xs.length ∧ Pv i σ H, ⟨xs.length, by simp, Nat.zero_le _, h0⟩, ?_⟩
  rintro i m σ H ⟨rfl, hi, p⟩
  have q := hl i σ H hi p
  by_cases hlt : i < xs.length
  · refine .inr ⟨⟨xs, xs[i], q, by simp [hlt]⟩, Pv (i + 1), fun σ' H' p' => ⟨xs.length - (i + 1), by omega, rfl, hlt, p'⟩, fun x H' y => ?_⟩
    obtain ⟨e, y⟩ := y
    subst e
    exact hs i x σ _ (y xs q) p
  · have e : i = xs.length := by omega
    subst e
    exact .inl ⟨⟨xs, q, Nat.le_refl _⟩, hd σ H p⟩
theorem for_range {lo : Int} {n : Nat} {g : TG} {tb : TS} {D : Ends} {σ : St} {H : Hp} (Pv : Nat → St → Hp → Prop) (h0 : Pv 0 σ H)
    (hs : ∀ i σ H, i < n → Pv i σ H → g (.int (lo + i)) σ H fun σ2 H2 => tb { D with nx := Pv (i + 1), ct := Pv (i + 1), bk := D.nx } σ2 H2) (hd : ∀ σ H, Pv n σ H → D.nx σ H) :
    ∃ W : Nat → Nat → St → Hp → Prop, (∃ m, W 0 m σ H) ∧ ∀ i m σ H, W i m σ H →
      ((Itr lo n).stop i H ∧ D.nx σ H) ∨ ((Itr lo n).go i H ∧ ∃ N : St → Hp → Prop, (∀ σ' H', N σ' H' → ∃ m', m' < m ∧ W (i + 1) m' σ' H') ∧ ∀ x H', (Itr lo n).yld i H x H' → g x σ H' fun σ2 H2 => tb { D with nx := N, ct := N, bk := D.nx } σ2 H2) := by
  refine ⟨fun i m σ H => m = n - i ∧ i ≤ n ∧ Pv i σ H, ⟨n, by simp, Nat.zero_le _, h0⟩, ?_⟩
  rintro i m σ H ⟨rfl, hi, p⟩
  by_cases hlt : i < n
  · refine .inr ⟨hlt, Pv (i + 1), fun σ' H' p' => ⟨n - (i + 1), by omega, rfl, hlt, p'⟩, fun x H' y => ?_⟩
    obtain ⟨e, y⟩ := y
    subst e y
    exact hs i σ _ hlt p
  · have e : i = n := by omega
    subst e
    exact .inl ⟨Nat.le_refl _, hd σ H p⟩
end L2
namespace L2
open PySem PySem.Spec PyProof.Rows
noncomputable abbrev R2 := V → V → Hp → VK → Prop
noncomputable def OpR (X : Cx) (f : Value → Value → Sem Value) (r : R2) : Prop :=
  ∀ (pins : List (Addr × Obj)) (s : Shared) (σ : St) (H : Hp) (x y : V) (v u : Value) (Q : VK), Inv X pins σ H s → RelV x v → RelV y u → r x y H Q →
    wpAny (model X.prog X.w) X.A (f v u) (EP X pins σ Q) X.xe s
noncomputable def UnR (X : Cx) (f : Value → Sem Value) (r : V → Hp → VK → Prop) : Prop :=
  ∀ (pins : List (Addr × Obj)) (s : Shared) (σ : St) (H : Hp) (x : V) (v : Value) (Q : VK), Inv X pins σ H s → RelV x v → r x H Q →
    wpAny (model X.prog X.w) X.A (f v) (EP X pins σ Q) X.xe s
noncomputable def CallR (X : Cx) (f : Value) (r : List V → Hp → VK → Prop) : Prop :=
  ∀ (pins : List (Addr × Obj)) (s : Shared) (σ : St) (H : Hp) (xs : List V) (us : List Value) (Q : VK), Inv X pins σ H s → Vals xs us → r xs H Q →
    wpAny (model X.prog X.w) X.A (call f us) (EP X pins σ Q) X.xe s
noncomputable def TruR (X : Cx) (r : V → Hp → (Bool → Hp → Prop) → Prop) : Prop :=
  ∀ (pins : List (Addr × Obj)) (s : Shared) (σ : St) (H : Hp) (x : V) (v : Value) (Q : Bool → Hp → Prop), Inv X pins σ H s → RelV x v → r x H Q →
    wpAny (model X.prog X.w) X.A (truthy v) (TP X pins σ Q) X.xe s
noncomputable def tOp (r : R2) (ta tb : TE) : TE := fun σ H Q => ta σ H fun x H1 => tb σ H1 fun y H2 => r x y H2 Q
noncomputable def tUn (r : V → Hp → VK → Prop) (ta : TE) : TE := fun σ H Q => ta σ H fun x H1 => r x H1 Q
noncomputable def rI (C : Int → Int → Prop) (g : Int → Int → V) : R2 := fun x y H Q => ∃ i j, x = .int i ∧ y = .int j ∧ C i j ∧ Q (g i j) H
noncomputable def rI0 (g : Int → Int → V) : R2 := fun x y H Q => ∃ i j, x = .int i ∧ y = .int j ∧ Q (g i j) H
noncomputable def rU (g : Int → V) : V → Hp → VK → Prop := fun x H Q => ∃ i, x = .int i ∧ Q (g i) H
section
variable {X : Cx} {a b c : Expr} {ta tb tc : TE} {pos : Pos}
theorem binT (ha : PE X a ta) (hb : PE X b tb) {pins : List (Addr × Obj)} {s : Shared} {σ : St} {H : Hp} {R : V → V → Hp → Prop} (I : Inv X pins σ H s)
    (h : ta σ H fun x H1 => tb σ H1 fun y H2 => R x y H2) {Q : Value → Shared → Prop} {f : Value → Value → Sem Value}
    (hf : ∀ v u s2 x y H2, Inv X pins σ H2 s2 → RelV x v → RelV y u → R x y H2 → wpAny (model X.prog X.w) X.A (f v u) Q X.xe s2) :
    wpAny (model X.prog X.w) X.A (eval a X.env) (fun v s₁ => wpAny (model X.prog X.w) X.A (eval b X.env) (fun u s₂ => wpAny (model X.prog X.w) X.A (f v u) Q X.xe s₂) X.xe s₁) X.xe s := by
  refine thn (ha pins s σ H _ I h) fun v s1 ⟨x, H1, I1, r1, q1⟩ => ?_
  refine thn (hb pins s1 σ H1 _ I1 q1) fun u s2 ⟨y, H2, I2, r2, q2⟩ => ?_
  exact hf v u s2 x y H2 I2 r1 r2 q2
theorem pe_op {op : Operator} {r : R2} (ho : OpR X (binaryOp op) r) (ha : PE X a ta) (hb : PE X b tb) : PE X (.BinOp a op b pos) (tOp r ta tb) := by
  intro pins s σ H Q I h
  exact wpAny_BinOp (binT ha hb I h fun v u s2 x y H2 I2 rx ry q => ho pins s2 σ H2 x y v u Q I2 rx ry q)
theorem pe_un {op : UnaryOp} {r : V → Hp → VK → Prop} (ho : UnR X (unaryOp op) r) (ha : PE X a ta) : PE X (.UnaryOp op a pos) (tUn r ta) := by
  intro pins s σ H Q I h
  exact UnaryOp_ (thn (ha pins s σ H _ I h) fun v s1 ⟨x, H1, I1, r1, q1⟩ => ho pins s1 σ H1 x v Q I1 r1 q1)
theorem opI {f : Value → Value → Sem Value} {C : Int → Int → Prop} {g : Int → Int → Int}
    (rule : ∀ (i j : Int) (t u : Tok) (s : Shared) (Q : Value → Shared → Prop) (E : Value → Shared → Prop), C i j → Q (.int (g i j) s.toks) { s with toks := s.toks + 1 } → wpAny (model X.prog X.w) X.A (f (.int i t) (.int j u)) Q E s) :
    OpR X f (rI C fun i j => .int (g i j)) := by
  intro pins s σ H x y v u Q I rx ry h
  obtain ⟨i, j, rfl, rfl, hc, q⟩ := h
  obtain ⟨t, rfl⟩ := rx
  obtain ⟨t', rfl⟩ := ry
  exact rule i j t t' s _ _ hc ⟨.int (g i j), H, I.tok _, ⟨_, rfl⟩, q⟩
theorem opI0 {f : Value → Value → Sem Value} {g : Int → Int → Int}
    (rule : ∀ (i j : Int) (t u : Tok) (s : Shared) (Q : Value → Shared → Prop) (E : Value → Shared → Prop), Q (.int (g i j) s.toks) { s with toks := s.toks + 1 } → wpAny (model X.prog X.w) X.A (f (.int i t) (.int j u)) Q E s) :
    OpR X f (rI0 fun i j => .int (g i j)) := by
  intro pins s σ H x y v u Q I rx ry h
  obtain ⟨i, j, rfl, rfl, q⟩ := h
  obtain ⟨t, rfl⟩ := rx
  obtain ⟨t', rfl⟩ := ry
  exact rule i j t t' s _ _ ⟨.int (g i j), H, I.tok _, ⟨_, rfl⟩, q⟩
theorem opB0 {f : Value → Value → Sem Value} {g : Int → Int → Bool}
    (rule : ∀ (i j : Int) (t u : Tok) (s : Shared) (Q : Value → Shared → Prop) (E : Value → Shared → Prop), Q (.bool (g i j)) s → wpAny (model X.prog X.w) X.A (f (.int i t) (.int j u)) Q E s) :
    OpR X f (rI0 fun i j => .bl (g i j)) := by
  intro pins s σ H x y v u Q I rx ry h
  obtain ⟨i, j, rfl, rfl, q⟩ := h
  obtain ⟨t, rfl⟩ := rx
  obtain ⟨t', rfl⟩ := ry
  exact rule i j t t' s _ _ ⟨.bl (g i j), H, I, rfl, q⟩
noncomputable def CDiv (i j : Int) : Prop := 0 < j ∧ j < 1073741824
noncomputable def CMul (i j : Int) : Prop := (-(2 ^ 64) < i ∧ i < 2 ^ 64) ∨ (-(2 ^ 64) < j ∧ j < 2 ^ 64)
theorem CMul.ok {i j : Int} (h : CMul i j) : IntMulOk i j := by
  rcases h with ⟨h1, h2⟩ | ⟨h1, h2⟩
  · exact .of_left (intBits_le_64 h1 h2)
  · exact .of_right (intBits_le_64 h1 h2)
theorem op_add : OpR X (binaryOp .Add) (rI0 fun i j => .int (i + j)) := opI0 fun _ _ _ _ _ _ _ q => add_int q
theorem op_sub : OpR X (binaryOp .Sub) (rI0 fun i j => .int (i - j)) := opI0 fun _ _ _ _ _ _ _ q => sub_int q
theorem op_mul : OpR X (binaryOp .Mult) (rI CMul fun i j => .int (i * j)) := opI fun _ _ _ _ _ _ _ hc q => mul_int q hc.ok
theorem op_fdiv : OpR X (binaryOp .FloorDiv) (rI CDiv fun i j => .int (i / j)) := opI fun i j _ _ _ _ _ hc q => by
  have h1 : (0 : Int) < j := hc.1
  have h2 : j < 1073741824 := hc.2
  exact floordiv_int (by omega) (by rw [Int.fdiv_eq_ediv_of_nonneg i (by omega)]; exact q) (.inl (PyProof.noPylong_small (by omega)))
theorem op_mod : OpR X (binaryOp .Mod) (rI (fun _ j => 0 < j) fun i j => .int (i % j)) := opI fun i j _ _ _ _ _ hc q => by
  have h1 : (0 : Int) < j := hc
  exact mod_int' (by omega) (by rw [Int.fmod_eq_emod_of_nonneg i (by omega)]; exact q)
theorem unI {f : Value → Sem Value} {g : Int → Int}
    (rule : ∀ (i : Int) (t : Tok) (s : Shared) (Q : Value → Shared → Prop) (E : Value → Shared → Prop), Q (.int (g i) s.toks) { s with toks := s.toks + 1 } → wpAny (model X.prog X.w) X.A (f (.int i t)) Q E s) :
    UnR X f (rU fun i => .int (g i)) := by
  intro pins s σ H x v Q I rx h
  obtain ⟨i, rfl, q⟩ := h
  obtain ⟨t, rfl⟩ := rx
  exact rule i t s _ _ ⟨.int (g i), H, I.tok _, ⟨_, rfl⟩, q⟩
theorem un_neg : UnR X (unaryOp .USub) (rU fun i => .int (-i)) := unI fun _ _ _ _ _ q => neg_int q
end
noncomputable def scal : V → V → Bool
  | .non, .non => true | .non, .int _ => true | .int _, .non => true | .non, .bl _ => true | .bl _, .non => true | .non, .str _ => true | .str _, .non => true
  | .int _, .int _ => true | .bl _, .bl _ => true | .str _, .str _ => true | .byt _, .byt _ => true
  | .int _, .str _ => true | .str _, .int _ => true | .bl _, .str _ => true | .str _, .bl _ => true
  | _, _ => false
noncomputable def rEq : R2 := fun x y H Q => scal x y = true ∧ Q (.bl (decide (x = y))) H
noncomputable def rNe : R2 := fun x y H Q => scal x y = true ∧ Q (.bl (!decide (x = y))) H
theorem dec_int {i j : Int} : decide (V.int i = V.int j) = (i == j) := by
  rw [Bool.eq_iff_iff]
  simp
theorem dec_bl {i j : Bool} : decide (V.bl i = V.bl j) = (i == j) := by
  rw [Bool.eq_iff_iff]
  simp
theorem dec_str {i j : Str} : decide (V.str i = V.str j) = (i == j) := by
  rw [Bool.eq_iff_iff]
  simp
theorem dec_byt {i j : Array UInt8} : decide (V.byt i = V.byt j) = (i.toList == j.toList) := by
  rw [Bool.eq_iff_iff]
  cases i
  cases j
  simp
section
variable {X : Cx} {a b c : Expr} {ta tb tc : TE} {pos : Pos}
theorem fin_bl {pins : List (Addr × Obj)} {σ : St} {H : Hp} {s : Shared} {Q : VK} {k k' : Bool} (I : Inv X pins σ H s) (q : Q (.bl k) H) (e : k = k') : EP X pins σ Q (.bool k') s := by
  subst e
  exact ⟨.bl k, H, I, rfl, q⟩
theorem op_eq : OpR X (compareOp .Eq) rEq := by
  intro pins s σ H x y v u Q I rx ry h
  obtain ⟨hs, q⟩ := h
  cases x with
  | non =>
    cases rx
    cases y with
    | non => cases ry; exact PySem.EqNone.eq_none_none (fin_bl I q (by simp))
    | bl j => cases ry; exact PySem.EqNone.eq_none_bool (fin_bl I q (by simp))
    | int j => obtain ⟨t', rfl⟩ := ry; exact PySem.EqNone.eq_none_int (fin_bl I q (by simp))
    | str j => obtain ⟨t', rfl⟩ := ry; exact PySem.EqNone.eq_none_str (fin_bl I q (by simp))
    | _ => exact absurd (show false = true from hs) Bool.false_ne_true
  | bl i =>
    cases rx
    cases y with
    | non => cases ry; exact PySem.EqNone.eq_bool_none (fin_bl I q (by simp))
    | bl j => cases ry; exact eq_bool (fin_bl I q dec_bl)
    | str j => obtain ⟨t', rfl⟩ := ry; exact PySem.EqMixed.eq_bool_str (fin_bl I q (by simp))
    | _ => exact absurd (show false = true from hs) Bool.false_ne_true
  | int i =>
    obtain ⟨t, rfl⟩ := rx
    cases y with
    | non => cases ry; exact PySem.EqNone.eq_int_none (fin_bl I q (by simp))
    | int j => obtain ⟨t', rfl⟩ := ry; exact eq_int (fin_bl I q dec_int)
    | str j => obtain ⟨t', rfl⟩ := ry; exact PySem.EqMixed.eq_int_str (fin_bl I q (by simp))
    | _ => exact absurd (show false = true from hs) Bool.false_ne_true
  | str i =>
    obtain ⟨t, rfl⟩ := rx
    cases y with
    | non => cases ry; exact PySem.EqNone.eq_str_none (fin_bl I q (by simp))
    | bl j => cases ry; exact PySem.EqMixed.eq_str_bool (fin_bl I q (by simp))
    | int j => obtain ⟨t', rfl⟩ := ry; exact PySem.EqMixed.eq_str_int (fin_bl I q (by simp))
    | str j => obtain ⟨t', rfl⟩ := ry; exact eq_str (fin_bl I q dec_str)
    | _ => exact absurd (show false = true from hs) Bool.false_ne_true
  | byt i =>
    obtain ⟨t, rfl⟩ := rx
    cases y with
    | byt j => obtain ⟨t', rfl⟩ := ry; exact PySem.W.eq_bytes (fin_bl I q dec_byt)
    | _ => exact absurd (show false = true from hs) Bool.false_ne_true
  | _ => cases y <;> exact absurd (show false = true from hs) Bool.false_ne_true
theorem op_ne : OpR X (compareOp .NotEq) rNe := by
  intro pins s σ H x y v u Q I rx ry h
  obtain ⟨hs, q⟩ := h
  cases x with
  | non =>
    cases rx
    cases y with
    | non => cases ry; exact PySem.EqNone.ne_none_none (fin_bl I q (by simp))
    | bl j => cases ry; exact PySem.EqNone.ne_none_bool (fin_bl I q (by simp))
    | int j => obtain ⟨t', rfl⟩ := ry; exact PySem.EqNone.ne_none_int (fin_bl I q (by simp))
    | str j => obtain ⟨t', rfl⟩ := ry; exact PySem.EqNone.ne_none_str (fin_bl I q (by simp))
    | _ => exact absurd (show false = true from hs) Bool.false_ne_true
  | bl i =>
    cases rx
    cases y with
    | non => cases ry; exact PySem.EqNone.ne_bool_none (fin_bl I q (by simp))
    | bl j => cases ry; exact ne_bool (fin_bl I q (congrArg not dec_bl))
    | str j => obtain ⟨t', rfl⟩ := ry; exact PySem.EqMixed.ne_bool_str (fin_bl I q (by simp))
    | _ => exact absurd (show false = true from hs) Bool.false_ne_true
  | int i =>
    obtain ⟨t, rfl⟩ := rx
    cases y with
    | non => cases ry; exact PySem.EqNone.ne_int_none (fin_bl I q (by simp))
    | int j => obtain ⟨t', rfl⟩ := ry; exact ne_int (fin_bl I q (congrArg not dec_int))
    | str j => obtain ⟨t', rfl⟩ := ry; exact PySem.EqMixed.ne_int_str (fin_bl I q (by simp))
    | _ => exact absurd (show false = true from hs) Bool.false_ne_true
  | str i =>
    obtain ⟨t, rfl⟩ := rx
    cases y with
    | non => cases ry; exact PySem.EqNone.ne_str_none (fin_bl I q (by simp))
    | bl j => cases ry; exact PySem.EqMixed.ne_str_bool (fin_bl I q (by simp))
    | int j => obtain ⟨t', rfl⟩ := ry; exact PySem.EqMixed.ne_str_int (fin_bl I q (by simp))
    | str j => obtain ⟨t', rfl⟩ := ry; exact ne_str (fin_bl I q (congrArg not dec_str))
    | _ => exact absurd (show false = true from hs) Bool.false_ne_true
  | byt i =>
    obtain ⟨t, rfl⟩ := rx
    cases y with
    | byt j => obtain ⟨t', rfl⟩ := ry; exact PySem.W.ne_bytes (fin_bl I q (congrArg not dec_byt))
    | _ => exact absurd (show false = true from hs) Bool.false_ne_true
  | _ => cases y <;> exact absurd (show false = true from hs) Bool.false_ne_true
theorem op_lt : OpR X (compareOp .Lt) (rI0 fun i j => .bl (decide (i < j))) := opB0 fun _ _ _ _ _ _ _ q => lt_int q
theorem op_gt : OpR X (compareOp .Gt) (rI0 fun i j => .bl (decide (j < i))) := opB0 fun _ _ _ _ _ _ _ q => gt_int q
theorem op_ge : OpR X (compareOp .GtE) (rI0 fun i j => .bl (decide (j ≤ i))) := opB0 fun _ _ _ _ _ _ _ q => ge_int q
theorem op_in_str : OpR X (compareOp .In) (fun x y H Q => ∃ i j, x = .str i ∧ y = .str j ∧ Q (.bl (!(Builtin.Str.occurrences j i 0 j.length 1).isEmpty)) H) := by
  intro pins s σ H x y v u Q I rx ry h
  obtain ⟨i, j, rfl, rfl, q⟩ := h
  obtain ⟨t, rfl⟩ := rx
  obtain ⟨t', rfl⟩ := ry
  exact in_str (fin_bl I q rfl)
theorem op_isN : OpR X (compareOp .Is) (fun x y H Q => y = .non ∧ Q (.bl (decide (x = .non))) H) := by
  intro pins s σ H x y v u Q I rx ry h
  obtain ⟨rfl, q⟩ := h
  cases ry
  refine is_none_gen (fin_bl I q ?_)
  cases x <;> first
    | (cases rx; rfl)
    | (obtain ⟨t, rfl⟩ := rx; rfl)
theorem nomark (b : Expr) {op : CmpOp} (h : op ≠ .In := by decide) (h2 : op ≠ .NotIn := by decide) : behindInMarks op b = false := by
  have e1 : (op == CmpOp.In) = false := by cases op <;> first | rfl | exact absurd rfl h
  have e2 : (op == CmpOp.NotIn) = false := by cases op <;> first | rfl | exact absurd rfl h2
  cases b <;> simp [behindInMarks, e1, e2]
theorem pe_cmpR {op : CmpOp} {r : R2} (ho : OpR X (compareOp op) r) (ha : PE X a ta) (hb : PE X b tb) (hm : behindInMarks op b = false) : PE X (.Compare a [op] [b] pos) (tOp r ta tb) := by
  intro pins s σ H Q I h
  exact wpAny_Compare1 (binT ha hb I h fun v u s2 x y H2 I2 rx ry q => ho pins s2 σ H2 x y v u Q I2 rx ry q) hm
noncomputable def tTest (t : TE) : TT := fun σ H Q => t σ H fun x H' => ∃ k, x = .bl k ∧ Q k H'
theorem pt_cmpR {op : CmpOp} {r : R2} (ho : OpR X (compareOp op) r) (ha : PE X a ta) (hb : PE X b tb) (hm : behindInMarks op b = false) : PT X (.Compare a [op] [b] pos) (tTest (tOp r ta tb)) := by
  intro pins s σ H Q I h
  refine wpAny_isTrue_Compare1 (thn (ha pins s σ H _ I h) fun v s1 ⟨x, H1, I1, r1, q1⟩ => thn (hb pins s1 σ H1 _ I1 q1) fun u s2 ⟨y, H2, I2, r2, q2⟩ =>
    thn (ho pins s2 σ H2 x y v u _ I2 r1 r2 q2) fun c s3 ⟨z, H3, I3, r3, k, e, q3⟩ => ?_) hm
  subst e
  cases r3
  exact wpAny_truthy_bool ⟨H3, I3, q3⟩
noncomputable def tChain (r r' : R2) (ta tb tc : TE) : TE := fun σ H Q => ta σ H fun x H1 => tb σ H1 fun y H2 => r x y H2 fun z H3 => ∃ k, z = .bl k ∧
  (if k = true then tc σ H3 fun w' H4 => r' y w' H4 Q else Q (.bl false) H3)
theorem pt_chain {op op' : CmpOp} {r r' : R2} (ho : OpR X (compareOp op) r) (ho' : OpR X (compareOp op') r') (ha : PE X a ta) (hb : PE X b tb) (hc : PE X c tc)
    (hm : lastMarks [op, op'] [b, c] = false := by with_unfolding_all rfl) : PT X (.Compare a [op, op'] [b, c] pos) (tTest (tChain r r' ta tb tc)) := by
  intro pins s σ H Q I h
  refine isTrue_chain (thn (ha pins s σ H _ I h) fun v s1 ⟨x, H1, I1, r1, q1⟩ => test_link (thn (hb pins s1 σ H1 _ I1 q1) fun u s2 ⟨y, H2, I2, r2, q2⟩ =>
    thn (ho pins s2 σ H2 x y v u _ I2 r1 r2 q2) fun d s3 ⟨z, H3, I3, r3, k, e, q3⟩ => ?_)) hm
  subst e
  cases r3
  refine wpAny_truthy_bool ?_
  cases k with
  | false =>
    obtain ⟨k', e', q'⟩ := q3
    cases e'
    exact ite_ff ⟨H3, I3, q'⟩
  | true =>
    refine ite_tt (test_last (thn (hc pins s3 σ H3 _ I3 q3) fun w' s4 ⟨z', H4, I4, r4, q4⟩ => thn (ho' pins s4 σ H4 y z' u w' _ I4 r2 r4 q4) fun d' s5 ⟨z2, H5, I5, r5, k2, e2, q5⟩ => ?_))
    subst e2
    cases r5
    exact wpAny_truthy_bool ⟨H5, I5, q5⟩
noncomputable def TruV (K : PySem.W.Frag) (x : V) (H : Hp) (k : Bool) : Prop :=
  match x with
  | .non => k = false
  | .bl b => k = b
  | .int i => k = (i != 0)
  | .str y => y.length ≤ sizeLine ∧ k = ((y.length : Int) != 0)
  | .byt y => y.size ≤ sizeLine ∧ k = ((y.size : Int) != 0)
  | .ref p => (∃ xs, SqL K H p xs ∧ k = !xs.isEmpty) ∨ (∃ xs, SqT K H p xs ∧ k = !xs.isEmpty) ∨ ∃ kvs, H p = some (.dK kvs) ∧ k = !kvs.isEmpty
  | _ => False
theorem isEmpty_kv {κ : Type} {kvs : List (κ × V)} {vs : List (κ × Value)} (r : KV kvs vs) : (!vs.isEmpty) = !kvs.isEmpty := by
  cases r <;> rfl
theorem isEmpty_of {xs : List V} {its : List Value} (r : Vals xs its) : (!its.toArray.isEmpty) = !xs.isEmpty := by
  cases r <;> simp
theorem line63 : (sizeLine : Nat) < 2 ^ 63 := by rw [sizeLine_eq]; decide
theorem tru_ok : TruR X (fun x H Q => ∃ k, TruV X.K x H k ∧ Q k H) := by
  intro pins s σ H x v Q I rx h
  obtain ⟨k, e, q⟩ := h
  have hl := line63
  have hs : sizeLine = 16777216 := sizeLine_eq
  cases x with
  | non =>
    cases rx
    have e' : k = false := e
    subst e'
    exact truthy_none ⟨H, I, q⟩
  | bl b =>
    cases rx
    have e' : k = b := e
    subst e'
    exact wpAny_truthy_bool ⟨H, I, q⟩
  | int i =>
    obtain ⟨t, rfl⟩ := rx
    have e' : k = (i != 0) := e
    subst e'
    exact PySem.P.truthy_int ⟨H, I, q⟩
  | str y =>
    obtain ⟨t, rfl⟩ := rx
    obtain ⟨hy, e'⟩ : y.length ≤ sizeLine ∧ k = ((y.length : Int) != 0) := e
    subst e'
    exact PySem.P.truthy_str (by omega) ⟨H, I.tok _, q⟩
  | byt y =>
    obtain ⟨t, rfl⟩ := rx
    obtain ⟨hy, e'⟩ : y.size ≤ sizeLine ∧ k = ((y.size : Int) != 0) := e
    subst e'
    exact PySem.W.truthy_bytes (by omega) ⟨H, I.tok _, q⟩
  | ref p =>
    cases rx
    have e' : (∃ xs, SqL X.K H p xs ∧ k = !xs.isEmpty) ∨ (∃ xs, SqT X.K H p xs ∧ k = !xs.isEmpty) ∨ ∃ kvs, H p = some (.dK kvs) ∧ k = !kvs.isEmpty := e
    rcases e' with ⟨xs, hx, e'⟩ | ⟨xs, hx, e'⟩ | ⟨kvs, hx, e'⟩
    · subst e'
      obtain ⟨its, r, pl, hz⟩ := I.list hx
      have hlen := r.length
      exact wpAny_truthy_list pl.isList (by simp only [List.size_toArray]; omega) ⟨H, I.tok _, by rw [isEmpty_of r]; exact q⟩
    · subst e'
      obtain ⟨its, r, pl, hz⟩ := I.tuple hx
      have hlen := r.length
      exact truthy_tuple pl (by simp only [List.size_toArray]; omega) ⟨H, I.tok _, by rw [isEmpty_of r]; exact q⟩
    · subst e'
      obtain ⟨hz, hS, vs, r, m⟩ : kvs.length ≤ sizeLine ∧ (p == sysModules) = false ∧ ∃ vs, KV kvs vs ∧ s.heap.DictOf (mixKind X.prog X.w) p vs := I.hok p _ hx
      have hlen : kvs.length = vs.length := Paired.length r
      exact wpAny_truthy_dict hS m (by omega) ⟨H, I.tok _, by rw [isEmpty_kv r]; exact q⟩
  | _ => exact (show False from e).elim
theorem pt_truth (ha : PE X a ta) (he : ∀ whole, isTrue a X.env whole = (do let v ← whole; standAt a.pos; holding [v] (truthy v))) :
    PT X a (fun σ H Q => ta σ H fun x H' => ∃ k, TruV X.K x H' k ∧ Q k H') := by
  intro pins s σ H Q I h
  exact isTrue_plain (thn (ha pins s σ H _ I h) fun v s1 ⟨x, H1, I1, r1, q1⟩ => tru_ok pins s1 σ H1 x v Q I1 r1 q1) (he _)
theorem op_add_str : OpR X (binaryOp .Add) (fun x y H Q => ∃ i j, x = .str i ∧ y = .str j ∧ i.length + j.length ≤ sizeLine ∧ Q (.str (i ++ j)) H) := by
  intro pins s σ H x y v u Q I rx ry h
  obtain ⟨i, j, rfl, rfl, hz, q⟩ := h
  obtain ⟨t, rfl⟩ := rx
  obtain ⟨t', rfl⟩ := ry
  exact add_str (fun t' tk => ⟨.str (i ++ j), H, I.tok _, ⟨_, rfl⟩, q⟩) hz
theorem vals1 {x : V} {us : List Value} (r : Vals [x] us) : ∃ u, us = [u] ∧ RelV x u := by
  cases r with
  | cons r1 r2 => cases r2; exact ⟨_, rfl, r1⟩
theorem vals2 {x y : V} {us : List Value} (r : Vals [x, y] us) : ∃ u w', us = [u, w'] ∧ RelV x u ∧ RelV y w' := by
  cases r with
  | cons r1 r2 =>
    cases r2 with
    | cons r3 r4 => cases r4; exact ⟨_, _, rfl, r1, r3⟩
theorem call_max2 (hc : X.calm = true) : CallR X (.builtin "max") (fun xs H Q => ∃ i j, xs = [.int i, .int j] ∧ Q (.int (if j > i then j else i)) H) := by
  intro pins s σ H xs us Q I r h
  obtain ⟨i, j, rfl, q⟩ := h
  obtain ⟨u, w', rfl, ⟨t, rfl⟩, ⟨t', rfl⟩⟩ := vals2 r
  refine max_two_ints (I.ok.hd hc) fun h' tk k => ⟨_, H, I.kept k, ?_, q⟩
  by_cases hj : j > i
  · rw [if_pos hj, if_pos hj]; exact ⟨_, rfl⟩
  · rw [if_neg hj, if_neg hj]; exact ⟨_, rfl⟩
theorem call_int1 : CallR X (.type "int") (fun xs H Q => (∃ i, xs = [.int i] ∧ Q (.int i) H) ∨ ∃ k, xs = [.bl k] ∧ Q (.int (if k then 1 else 0)) H) := by
  intro pins s σ H xs us Q I r h
  rcases h with ⟨i, rfl, q⟩ | ⟨k, rfl, q⟩
  · obtain ⟨u, rfl, t, rfl⟩ := vals1 r
    exact call_int_int ⟨.int i, H, I, ⟨_, rfl⟩, q⟩
  · obtain ⟨u, rfl, r1⟩ := vals1 r
    cases r1
    exact call_int_bool ⟨.int (if k then 1 else 0), H, I.tok _, ⟨_, rfl⟩, q⟩
end
end L2
namespace L2
open PySem PySem.Spec PyProof.Rows
structure ObjM (h : Heap) (x dx C : Addr) (mA : Str → Option Value) : Prop where
  obj : h.get? x = some (PySem.W.instObj C dx)
  ns : h.Ns1 dx mA
  ne : dx ≠ x
theorem lookIn_ns {h : Heap} {dx : Addr} {mA : Str → Option Value} (n : h.Ns1 dx mA) : ∃ od, h.get? dx = some od ∧ ∀ name, PySem.W.lookIn name od = some (mA name) := by
  obtain ⟨o, es, ep, ho, hd, hk, _, hm⟩ := n
  refine ⟨o, ho, fun name => ?_⟩
  have e := hm name
  unfold nsFind findBy at e
  rw [← Array.find?_toList] at e
  unfold PySem.W.lookIn
  rw [hd]
  dsimp only
  split
  · rename_i y q
    rw [q] at e
    exact congrArg some e
  · rename_i q
    rw [q] at e
    have a : es.toList.any (·.refKey) = false := by
      rw [List.any_eq_false]
      intro y hy
      obtain ⟨z, t, hkey⟩ := hk y (Array.mem_toList_iff.mp hy)
      simp [DictEntry.refKey, hkey]
    have a' : ¬ es.toList.any (·.refKey) = true := by rw [a]; exact Bool.false_ne_true
    rw [if_neg a']
    exact congrArg some e
theorem ObjM.look {h : Heap} {x dx C : Addr} {mA : Str → Option Value} (I : ObjM h x dx C mA) : ∃ od, PySem.W.InstAt h x (PySem.W.instObj C dx) C (some od) ∧ ∀ name, PySem.W.lookIn name od = some (mA name) :=
  let ⟨od, ho, hl⟩ := lookIn_ns I.ns
  ⟨od, ⟨I.obj, rfl, rfl, ho⟩, hl⟩
theorem RelO.some_of {v : V} {o : Option Value} (r : RelO (some v) o) : ∃ u, o = some u ∧ RelV v u := by
  cases o with
  | none => exact (show False from r).elim
  | some u => exact ⟨u, rfl, r⟩
section
variable {P : Program} {w : World} {H H' : Hp} {h h' : Heap} {a C dx : Addr} {fs fs' : List (Str × V)}
theorem ins_get (hok : HOk P w H h) (e : H a = some (.ins C dx fs)) : ∃ mA, ObjM h a dx C mA ∧ (∀ f, RelO (fs.lookup f) (mA f)) ∧ PySem.Within mA (fs.map (·.1)) ∧ fs.length ≤ 1000 ∧ H dx = some (.own a) := by
  obtain ⟨d, z, ne, ob, mA, n, r, q⟩ := (show ObjOk P w H h a (.ins C dx fs) from hok a _ e)
  exact ⟨mA, ⟨ob, n, ne⟩, r, q, z, d⟩
end
structure Cls (K : PySem.W.Frag) (C : Addr) : Prop where
  pg : PySem.W.plainGet K C Str.empty = true
  hd : PySem.W.hasDictIn K C = true
  po : PySem.W.plainOver K C = true
  sa : PySem.W.findIn K (.ref C) "__setattr__" = some (some (.builtin "object.__setattr__"))
theorem Cls.get {K : PySem.W.Frag} {C : Addr} (c : Cls K C) (f : Str) : PySem.W.plainGet K C f = true := c.pg
section
variable {X : Cx} {pins : List (Addr × Obj)} {σ : St} {H : Hp} {s : Shared} {a C dx : Addr} {fs : List (Str × V)} {f : Str} {v : V} {A : Around} {E : Value → Shared → Prop}
theorem attr_of {prog : Program} {w : World} {env : Env} {e : Expr} {f : Str} {pos : Pos} {s : Shared} {Q : Value → Shared → Prop} (hb : attributeBase e f env (eval e env) = eval e env)
    (h : wpAny (model prog w) A (eval e env) (fun o s₁ => wpAny (model prog w) A (getAttr o f true) Q E s₁) E s) : wpAny (model prog w) A (eval (.Attribute e f pos) env) Q E s :=
  Attribute_any_ h (by rw [arm_eval_Attribute, hb])
end
section
variable {X : Cx} {pins : List (Addr × Obj)} {σ : St} {H : Hp} {s : Shared} {A : Around} {E : Value → Shared → Prop} {Q : Value → Shared → Prop} {c : Value} {b : Bool}
inductive TyOf (K : PySem.W.Frag) (H : Hp) : V → Value → Prop where
  | non : TyOf K H .non (.type "NoneType")
  | bl (x : Bool) : TyOf K H (.bl x) (.type "bool")
  | int (i : Int) : TyOf K H (.int i) (.type "int")
  | str (x : Str) : TyOf K H (.str x) (.type "str")
  | flt (x : UInt64) : TyOf K H (.flt x) (.type "float")
  | lst {a : Addr} {xs : List V} (e : H a = some (.lst xs)) : TyOf K H (.ref a) (.type "list")
  | frz {a : Addr} {o : Obj} {xs : List V} (e : H a = some (.frz o (.lst xs))) : TyOf K H (.ref a) (.type "list")
  | tup {a : Addr} {xs : List V} (e : H a = some (.tup xs)) : TyOf K H (.ref a) (.type "tuple")
  | dK {a : Addr} {kvs : List (Key × V)} (e : H a = some (.dK kvs)) : TyOf K H (.ref a) (.type "dict")
  | dT {a : Addr} {kvs : List (List Key × V)} (e : H a = some (.dT kvs)) : TyOf K H (.ref a) (.type "dict")
  | ins {a C dx : Addr} {fs : List (Str × V)} (e : H a = some (.ins C dx fs)) (cl : Cls K C) (ha : PySem.W.findIn K (.ref C) "__class__" = some (some (.builtin "object.__class__")))
      (hn : PySem.W.specialIn K (.builtin "object.__class__") "__get__" = some (some (.builtin "getset_descriptor.__get__"))) (htk : PySem.W.takesIn K (.builtin "object.__class__") = some true)
      (hm : PySem.W.mroIn K C (.type "object") = some true) : TyOf K H (.ref a) (.ref C)
theorem isinst_ok {x : V} {u t : Value} (I : Inv X pins σ H s) (rx : RelV x u) (ty : TyOf X.K H x t) (e : PySem.W.kitOne X.K t c = some b) (h : ∀ tk, Q (.bool b) { s with toks := tk }) :
    wpAny (model X.prog X.w) A (call (.builtin "isinstance") [u, c]) Q E s := by
  cases ty with
  | non => cases (show u = Value.none from rx); exact PySem.W.kia_one PySem.W.kitx_none I.kIn True.intro e (fun z => nomatch z) h
  | bl y => cases (show u = Value.bool y from rx); exact PySem.W.kia_one PySem.W.kitx_bool I.kIn True.intro e (fun z => nomatch z) h
  | int i => obtain ⟨t, q⟩ := (show ∃ t, u = Value.int i t from rx); cases q; exact PySem.W.kia_one PySem.W.kitx_int I.kIn True.intro e (fun z => nomatch z) h
  | str y => obtain ⟨t, q⟩ := (show ∃ t, u = Value.str y t from rx); cases q; exact PySem.W.kia_one PySem.W.kitx_str I.kIn True.intro e (fun z => nomatch z) h
  | flt y => obtain ⟨t, q⟩ := (show ∃ t, u = Value.float y t from rx); cases q; exact PySem.W.kia_one PySem.W.kitx_float I.kIn True.intro e (fun z => nomatch z) h
  | @lst a xs ea =>
    cases (show u = Value.ref a from rx)
    obtain ⟨_, _, n, _, h1⟩ := (show ObjOk X.prog X.w H s.heap a (.lst xs) from I.hok a _ ea)
    exact PySem.W.kia_one PySem.W.kitx_list I.kIn ⟨_, h1, rfl⟩ e (fun z => nomatch z) h
  | @frz a ob xs ea =>
    cases (show u = Value.ref a from rx)
    obtain ⟨_, _, _, n, _, h1⟩ := (show ObjOk X.prog X.w H s.heap a (.frz ob (.lst xs)) from I.hok a _ ea)
    exact PySem.W.kia_one PySem.W.kitx_list I.kIn ⟨_, h1, rfl⟩ e (fun z => nomatch z) h
  | @tup a xs ea =>
    cases (show u = Value.ref a from rx)
    obtain ⟨_, _, _, p⟩ := (show ObjOk X.prog X.w H s.heap a (.tup xs) from I.hok a _ ea)
    obtain ⟨o, h1, h2, _⟩ := p
    exact PySem.W.kia_one PySem.W.kitx_tuple I.kIn ⟨o, h1, h2⟩ e (fun z => nomatch z) h
  | @dK a kvs ea =>
    cases (show u = Value.ref a from rx)
    obtain ⟨_, _, vs, _, p⟩ := (show ObjOk X.prog X.w H s.heap a (.dK kvs) from I.hok a _ ea)
    obtain ⟨o, es, ep, h1, h2, _⟩ := p
    exact PySem.W.kia_one PySem.W.kitx_dict I.kIn ⟨o, h1, h2.1⟩ e (fun z => nomatch z) h
  | @dT a kvs ea =>
    cases (show u = Value.ref a from rx)
    obtain ⟨_, _, xs, _, o, es, ep, h1, h2, _⟩ := (show ObjOk X.prog X.w H s.heap a (.dT kvs) from I.hok a _ ea)
    exact PySem.W.kia_one PySem.W.kitx_dict I.kIn ⟨o, h1, h2.1⟩ e (fun z => nomatch z) h
  | @ins a C dx fs ea cl ha hn htk hm =>
    cases (show u = Value.ref a from rx)
    obtain ⟨mA, O, _⟩ := ins_get I.hok ea
    obtain ⟨od, J, _⟩ := O.look
    exact PySem.W.kia_one (PySem.W.kitx_own (cl.get _) cl.hd ha hn htk hm) I.kIn J e (fun z => nomatch z) h
end
end L2
namespace L2
open PySem PySem.Spec PyProof.Rows
structure Room (k : Nat) (A : Around) : Prop where
  hd : A.handled = none
  dp : A.depth + 3 * k + 5 < recursionLimit
  un : A.units + 16 * k + 200 < cLine
theorem Room.mono {j k : Nat} {A : Around} (r : Room k A) (h : j ≤ k) : Room j A := ⟨r.hd, by have := r.dp; omega, by have := r.un; omega⟩
theorem Room.deeper {k : Nat} {A : Around} (r : Room (k + 1) A) (env : Env) : Room k (A.deeper env) :=
  ⟨r.hd, by have := r.dp; show A.depth + 1 + 3 * k + 5 < _; omega, by have := r.un; show A.units + 3 + 16 * k + 200 < _; omega⟩
theorem make_depth {A : Around} {C : Addr} {us : List Value} {kw : List (Str × Value)} : (A.under (.builtin "type.__call__" ⟨.ref C :: us, kw⟩)).depth = A.depth + 1 := by
  first | rfl | simp [Around.under, Code.weight, Code.isCreation, Code.isGuard, Code.isCaller, Code.frames, Code.isFrame, guardIds]
theorem make_units {A : Around} {C : Addr} {us : List Value} {kw : List (Str × Value)} : (A.under (.builtin "type.__call__" ⟨.ref C :: us, kw⟩)).units = A.units + 1 := by
  first | rfl | simp [Around.under, Code.cUnits, Code.frames, Code.isFrame]
theorem Room.make {k : Nat} {A : Around} (r : Room (k + 1) A) (C : Addr) (us : List Value) (kw : List (Str × Value)) : Room k (A.under (.builtin "type.__call__" ⟨.ref C :: us, kw⟩)) :=
  ⟨r.hd, by have := r.dp; rw [make_depth]; omega, by have := r.un; rw [make_units]; omega⟩
theorem Room.depth {k : Nat} {A : Around} (r : Room k A) : A.depth < recursionLimit := by have := r.dp; omega
theorem Room.units {k : Nat} {A : Around} (r : Room k A) : A.units + 64 < cLine := by have := r.un; omega
noncomputable def tNil : TA := fun _ H Q => Q [] H
noncomputable def tCons (ta : TE) (tr : TA) : TA := fun σ H Q => ta σ H fun x H1 => tr σ H1 fun xs H2 => Q (x :: xs) H2
section
variable {X : Cx} {e : Expr} {es : List Expr} {te : TE} {t : TA} {pos : Pos}
theorem pa_nil : PA X [] tNil := fun _ _ _ _ H Q I h => Calls.spliced_nil ⟨[], H, I, .nil, h⟩
theorem pa_cons (ha : PE X e te) (hr : PA X es t) (hs : starEach (e :: es) X.env = (false, eval e X.env) :: starEach es X.env := by rfl) : PA X (e :: es) (tCons te t) := by
  intro pos pins s σ H Q I h
  rw [hs]
  show wpAny _ _ (spliced ((false, eval e X.env) :: backTo pos (starEach es X.env))) _ _ s
  refine Calls.spliced_cons (thn (ha pins s σ H _ I h) fun u s1 ⟨x, H1, I1, r1, q1⟩ => ?_)
  exact thn (hr pos pins s1 σ H1 _ I1 q1) fun us s2 ⟨xs, H2, I2, r2, q2⟩ => ⟨x :: xs, H2, I2, .cons r1 r2, q2⟩
noncomputable def tTup (t : TA) : TE := fun σ H Q => t σ H fun xs H1 => xs.length ≤ sizeLine ∧ ∀ p, H1 p = none → Q (.ref p) (upd H1 p (.tup xs))
noncomputable def tLst (t : TA) : TE := fun σ H Q => t σ H fun xs H1 => xs.length ≤ sizeLine ∧ ∀ p, H1 p = none → Q (.ref p) (upd H1 p (.lst xs))
theorem pe_tup {x1} (h : PA X es t) : PE X (.Tuple es x1 pos) (tTup t) := by
  intro pins s σ H Q I hq
  refine wpAny_Tuple_spliced (thn (h pos pins s σ H _ I hq) fun us s1 ⟨xs, H1, I1, r, z, q⟩ => ⟨by rw [← r.length]; exact z, ?_⟩)
  have hf : H1 s1.heap.objs.size = none := I1.hok.fresh (Nat.le_refl _)
  refine ⟨.ref s1.heap.objs.size, upd H1 s1.heap.objs.size (.tup xs), I1.laid (t' := s1.toks) (fun b u e => Heap.get?_push_of_some _ e) (Nat.le_refl _) ?_, rfl, q _ hf⟩
  exact ⟨z, us, r, ⟨_, Heap.get?_push_size _ rfl, rfl, _, rfl⟩⟩
theorem pe_lst (h : PA X es t) : PE X (.List es pos) (tLst t) := by
  intro pins s σ H Q I hq
  refine wpAny_List_spliced (thn (h pos pins s σ H _ I hq) fun us s1 ⟨xs, H1, I1, r, z, q⟩ => ⟨by rw [← r.length]; exact z, ?_⟩)
  have hf : H1 s1.heap.objs.size = none := I1.hok.fresh (Nat.le_refl _)
  refine ⟨.ref s1.heap.objs.size, upd H1 s1.heap.objs.size (.lst xs), I1.laid (t' := s1.toks) (fun b u e => Heap.get?_push_of_some _ e) (Nat.le_refl _) ?_, rfl, q _ hf⟩
  exact ⟨z, us, 0, r, Heap.get?_push_size _ rfl⟩
end
noncomputable abbrev Sp := List V → Hp → VK → XK → Prop
noncomputable abbrev CXT := List Env → Hp → Shared → XK → Value → Shared → Prop
structure Env0 (P : Program) (w : World) (K : PySem.W.Frag) (mg : Str → Option Value) (base : Heap) (A : Around) (outer : List Env) (s : Shared) (H : Hp) : Prop where
  frames : A.frames = some outer
  mod : Mod K mg base
  bs : ∀ b o, base.get? b = some o → s.heap.get? b = some o ∧ H b = none
  bsz : base.objs.size ≤ s.heap.objs.size
  funs : s.heap.FunFrames base outer
  frf : ∀ b ∈ frs outer, H b = none
  hok : HOk P w H s.heap
  bare : AllBare s.gens
noncomputable def CE (outer : List Env) (P : Program) (w : World) (H : Hp) (s : Shared) (Q : VK) (u : Value) (s' : Shared) : Prop :=
  ∃ v H', s'.os = s.os ∧ AllBare s'.gens ∧ Un (frs outer) [] H H' s.heap s'.heap ∧ HOk P w H' s'.heap ∧ RelV v u ∧ Q v H'
noncomputable def CR (CX : CXT) (outer : List Env) (P : Program) (w : World) (H : Hp) (s : Shared) (Q : VK) (E : XK) (r : Result) (s' : Shared) : Prop :=
  match r with
  | .ok (.ret u) => CE outer P w H s Q u s'
  | .ok _ => False
  | .error e => CX outer H s E e s'
structure FnOk (P : Program) (w : World) (K : PySem.W.Frag) (mg : Str → Option Value) (base : Heap) (CX : CXT) (k : Nat) (f : Addr) (fd : FuncData) (ps : List Str) (sp : Sp) : Prop where
  len : ∀ vs H Q E, sp vs H Q E → vs.length = ps.length
  run : ∀ (A : Around) (outer : List Env) (s : Shared) (H : Hp) (args : Args) (us : List Value) (vs : List V) (Q : VK) (E : XK), Room k A → Env0 P w K mg base A outer s H → BindsTo s fd args (ps.zip us) → Vals vs us → sp vs H Q E →
    codeAny (model P w) A (.call (.ref f) args) (CR CX outer P w H s Q E) s
theorem FnOk.mono {P : Program} {w : World} {K : PySem.W.Frag} {mg : Str → Option Value} {base : Heap} {CX : CXT} {j k : Nat} {f : Addr} {fd : FuncData} {ps : List Str} {sp : Sp} (F : FnOk P w K mg base CX j f fd ps sp) (h : j ≤ k) :
    FnOk P w K mg base CX k f fd ps sp := ⟨F.len, fun A outer s H args us vs Q E hr => F.run A outer s H args us vs Q E (hr.mono h)⟩
theorem Env0.make {P : Program} {w : World} {K : PySem.W.Frag} {mg : Str → Option Value} {base : Heap} {A : Around} {outer : List Env} {s : Shared} {H : Hp} (e : Env0 P w K mg base A outer s H) (C : Addr) (us : List Value) (kw : List (Str × Value)) :
    Env0 P w K mg base (A.under (.builtin "type.__call__" ⟨.ref C :: us, kw⟩)) outer s H := ⟨by first | exact e.frames | (simpa [Around.under, Code.envs, Code.isFrame, pushEnvs] using e.frames), e.mod, e.bs, e.bsz, e.funs, e.frf, e.hok, e.bare⟩
section
variable {X : Cx} {pins : List (Addr × Obj)} {σ : St} {H : Hp} {s s' : Shared}
theorem Inv.env0 (I : Inv X pins σ H s) : Env0 X.prog X.w X.K X.mg X.base X.A X.stack s H :=
  ⟨I.ok.frames, I.ok.mod, I.bs, Nat.le_trans I.ok.bsz I.sz, I.stack, I.stkFree, I.hok, I.bare⟩
theorem Inv.after {Q : VK} {u : Value} (I : Inv X pins σ H s) (h : CE X.stack X.prog X.w H s Q u s') : EP X pins σ Q u s' := by
  obtain ⟨v, H', os, bare, un, hok, r, q⟩ := h
  obtain ⟨hh, g, d, t, os'⟩ := s'
  obtain rfl : os' = s.os := os
  exact ⟨v, H', I.call (h' := hh) (g' := g) (d' := d) (t' := t) (ch := []) un hok bare (fun b z => absurd z (by simp)), r, q⟩
end
noncomputable def tCall (sp : Sp) (dvs : List V) (E : XK) (t : TA) : TE := fun σ H Q => t σ H fun vs H1 => sp (vs ++ dvs) H1 Q E
noncomputable def Binds (K : PySem.W.Frag) (fd : FuncData) (ps : List Str) (ds : List Value) : Prop :=
  ∀ (s : Shared) (us : List Value), K.In s.heap → (us ++ ds).length = ps.length → BindsTo s fd ⟨us, []⟩ (ps.zip (us ++ ds))
theorem Binds.all {K : PySem.W.Frag} {fd : FuncData} {ps : List Str} (h : ∀ us : List Value, us.length = ps.length → bindArgs fd ⟨us, []⟩ = pure (ps.zip us)) : Binds K fd ps [] := fun s us _ hl => by
  rw [List.append_nil] at hl ⊢
  exact .of_eq (h us hl)
noncomputable def Passes (CX : CXT) (X : Cx) (E : XK) : Prop := ∀ (pins : List (Addr × Obj)) (σ : St) (H : Hp) (s : Shared) (e : Value) (s' : Shared), Inv X pins σ H s → CX X.stack H s E e s' → X.xe e s'
section
variable {X : Cx} {CX : CXT} {k : Nat} {f C : Addr} {fd : FuncData} {ps : List Str} {sp : Sp} {dvs : List V} {ds : List Value} {E : XK} {x m : Str} {p pos apos : Pos} {e o : Expr} {es : List Expr} {ta : TE} {t : TA}
theorem run_fn {pins : List (Addr × Obj)} {σ : St} {H : Hp} {s : Shared} {Q : VK} {us : List Value} {vs : List V} (F : FnOk X.prog X.w X.K X.mg X.base CX k f fd ps sp) (hr : Room k X.A) (hb : Binds X.K fd ps ds) (hd : Vals dvs ds) (hx : Passes CX X E)
    (I : Inv X pins σ H s) (r : Vals vs us) (h : sp (vs ++ dvs) H Q E) : wpAny (model X.prog X.w) X.A (call (.ref f) us) (EP X pins σ Q) X.xe s := by
  have r2 : Vals (vs ++ dvs) (us ++ ds) := r.append hd
  have hl : (us ++ ds).length = ps.length := by rw [← r2.length]; exact F.len _ _ _ _ h
  refine wpAny_call (codeAny_mono (F.run X.A X.stack s H ⟨us, []⟩ (us ++ ds) (vs ++ dvs) Q E hr I.env0 (hb s us I.kIn hl) r2 h) fun r s' hq => ?_)
  cases r with
  | error e => exact hx pins σ H s e s' I hq
  | ok fl =>
    cases fl with
    | ret u => exact I.after hq
    | next => exact False.elim hq
    | brk => exact False.elim hq
    | cont => exact False.elim hq
theorem pe_call (F : FnOk X.prog X.w X.K X.mg X.base CX k f fd ps sp) (hr : Room k X.A) (hg : Gl X x) (hm : X.mg x = some (.ref f)) (hk : PySem.W.keepIn X.K (.ref f) = true) (hb : Binds X.K fd ps ds) (hd : Vals dvs ds) (hx : Passes CX X E)
    (ha : PA X (e :: es) t) (hdb : (x == ("__debug__" : Str)) = false := by decide) (he : starEach (e :: es) X.env = (false, eval e X.env) :: starEach es X.env := by rfl) (hpl : (backTo pos (starEach es X.env)).any (·.1) = false := by rfl) :
    PE X (.Call (.Name x p) (e :: es) [] pos) (tCall sp dvs E t) := by
  intro pins s σ H Q I h
  refine wpAny_Call_Name_kw (ld_glob I hg hm ?_ hdb)
  refine PySem.W.callWith_K (h₀ := X.base) I.ok.mod.kin hk (thn (ha pos pins s σ H _ I h) fun us s1 ⟨vs, H1, I1, r, q⟩ => ⟨I1.kIn, ?_⟩) he hpl
  exact run_fn F hr hb hd hx I1 r q
end
structure FnScope (N P : List Str) (sc : Scope) : Prop where
  kind : sc.kind = .function
  co : sc.isCoroutine = false
  gen : sc.isGenerator = false
  nd : N.Nodup
  pre : N.take P.length = P
  par : ∀ x ∈ P, sc.names.lookup x = some .local ∨ sc.names.lookup x = some .cell
  nofree : ∀ y ∈ sc.names, y.2 ≠ .free
theorem bindL_out {kindOf : Str → Option NameKind} {x : Str} : ∀ {binds : List (Str × Value)} {m : Str → Option Value}, (∀ v, (x, v) ∉ binds) → bindL kindOf binds m x = m x
  | [], _, _ => rfl
  | (n, v) :: r, m, h => by
    unfold bindL
    rw [bindL_out fun w hw => h w (List.mem_cons_of_mem _ hw)]
    split
    · have : x ≠ n := by rintro rfl; exact h v List.mem_cons_self
      simp [this]
    · rfl
theorem bindC_out {kindOf : Str → Option NameKind} {x : Str} : ∀ {binds : List (Str × Value)} {m : Str → Option Value}, (∀ v, (x, v) ∉ binds) → bindC kindOf binds m x = m x
  | [], _, _ => rfl
  | (n, v) :: r, m, h => by
    unfold bindC
    rw [bindC_out fun w hw => h w (List.mem_cons_of_mem _ hw)]
    split
    · rfl
    · have : x ≠ n := by rintro rfl; exact h v List.mem_cons_self
      simp [this]
theorem bindL_get {kindOf : Str → Option NameKind} {x : Str} {v : Value} : ∀ {P : List Str} {vs : List Value} {i : Nat} {m : Str → Option Value}, P.Nodup → P[i]? = some x → vs[i]? = some v → kindOf x = some .local →
    bindL kindOf (P.zip vs) m x = some v
  | [], _, _, _, _, h, _, _ => by simp at h
  | _ :: _, [], _, _, _, _, h, _ => by simp at h
  | p :: P, w :: vs, 0, m, nd, h1, h2, hk => by
    simp at h1 h2; subst h1; subst h2
    show bindL kindOf ((p, w) :: P.zip vs) m p = _
    unfold bindL
    rw [bindL_out fun v hv => (List.nodup_cons.mp nd).1 (List.of_mem_zip hv).1, if_pos hk]
    simp
  | p :: P, w :: vs, i + 1, m, nd, h1, h2, hk => by
    show bindL kindOf ((p, w) :: P.zip vs) m x = _
    unfold bindL
    exact bindL_get (i := i) (List.nodup_cons.mp nd).2 (by simpa using h1) (by simpa using h2) hk
theorem bindC_get {kindOf : Str → Option NameKind} {x : Str} {v : Value} : ∀ {P : List Str} {vs : List Value} {i : Nat} {m : Str → Option Value}, P.Nodup → P[i]? = some x → vs[i]? = some v → kindOf x ≠ some .local →
    bindC kindOf (P.zip vs) m x = some v
  | [], _, _, _, _, h, _, _ => by simp at h
  | _ :: _, [], _, _, _, _, h, _ => by simp at h
  | p :: P, w :: vs, 0, m, nd, h1, h2, hk => by
    simp at h1 h2; subst h1; subst h2
    show bindC kindOf ((p, w) :: P.zip vs) m p = _
    unfold bindC
    rw [bindC_out fun v hv => (List.nodup_cons.mp nd).1 (List.of_mem_zip hv).1, if_neg hk]
    simp
  | p :: P, w :: vs, i + 1, m, nd, h1, h2, hk => by
    show bindC kindOf ((p, w) :: P.zip vs) m x = _
    unfold bindC
    exact bindC_get (i := i) (List.nodup_cons.mp nd).2 (by simpa using h1) (by simpa using h2) hk
noncomputable def start (N : List Str) (vs : List V) : St := vs.map some ++ List.replicate (N.length - vs.length) none
noncomputable def cxOf (CX : CXT) (P : Program) (w : World) (K : PySem.W.Frag) (mg : Str → Option Value) (base : Heap) (N : List Str) (qual : Str) (scope : Scope) (f : Addr) (cd : Value) (A : Around) (outer : List Env) (s : Shared) (H : Hp) (E : XK) : Cx where
  prog := P
  w := w
  K := K
  mg := mg
  base := base
  A := A.deeper (envOfC qual scope s.heap.objs.size f cd)
  N := N
  s₀ := s
  H₀ := H
  env := envOfC qual scope s.heap.objs.size f cd
  outer := outer
  stack := envOfC qual scope s.heap.objs.size f cd :: outer
  ex := []
  calm := true
  fn := fun _ => true
  pn := []
  xe := fun e s' => wpAny (model P w) (A.deeper (envOfC qual scope s.heap.objs.size f cd)) (leaving (envOfC qual scope s.heap.objs.size f cd) e) (fun _ s'' => CX outer H s E e s'') (fun e' s'' => CX outer H s E e' s'') s'
theorem cell_has {sc : Scope} {n : Nat} {x : Str} (h : sc.names.lookup x = some .cell) : ∃ c, (cellsFrom n sc.names []).lookup x = some c := by
  have q := PySem.W.cellsFrom_some sc.names n [] (.inl h)
  exact Option.isSome_iff_exists.mp q
theorem inv_start {CX : CXT} {P : Program} {w : World} {K : PySem.W.Frag} {mg : Str → Option Value} {base : Heap} {N ps : List Str} {qual : Str} {scope : Scope} {f : Addr} {cd : Value} {A : Around} {outer : List Env} {s s1 : Shared} {H : Hp} {E : XK} {us : List Value} {vs : List V}
    (S : FnScope N ps scope) (hd : A.handled = none) (e0 : Env0 P w K mg base A outer s H) (hl : vs.length = ps.length) (r : Vals vs us)
    (x : InCallC s s.heap.objs.size (bindL (envOfC qual scope s.heap.objs.size f cd).kindOf (ps.zip us) fun _ => none) (cellsFrom (s.heap.objs.size + 1) scope.names []) (bindC (envOfC qual scope s.heap.objs.size f cd).kindOf (ps.zip us) fun _ => none) s1) :
    Inv (cxOf CX P w K mg base N qual scope f cd A outer s H E) [] (start N vs) H s1 := by
  have hpl : ps.length ≤ N.length := by have := congrArg List.length S.pre; rw [List.length_take] at this; omega
  obtain ⟨h1, tk, rfl, hk⟩ := x.done
  have noA : ∀ b : Addr, b ∉ (cxOf CX P w K mg base N qual scope f cd A outer s H E).ex := fun b z => absurd (show b ∈ ([] : List Addr) from z) (by simp)
  refine ⟨⟨e0.mod, S.kind, rfl, rfl, Nat.le_refl _, fun y z c h1 h2 => ?_, fun y hy => ?_, fun y c _ h => ?_, fun _ => hd, Around.frames_deeper e0.frames, .inr ⟨rfl, rfl⟩, fun b z => absurd z (noA b), e0.bs, e0.bsz, fun b _ _ => noA b, fun b z => absurd z (noA b), e0.funs, e0.frf⟩,
    rfl, e0.bare, Un.kept hk, ⟨_, x.toInCall.ns, fun i y v h1 h2 h3 => ?_⟩, fun y c h => ⟨_, x.cell y c h⟩, e0.hok.fresh (Nat.le_refl _), fun y c h => ?_, fun p hp => absurd (show p ∈ ([] : List (Addr × Obj)) from hp) (by simp), e0.hok.kept hk, ?_⟩
  · exact name_of_addr x.apart (PySem.mem_of_lookup h1) (PySem.mem_of_lookup h2)
  · have hy : scope.names.lookup y = some .cell ∨ scope.names.lookup y = some .free := hy
    rcases hy with hy | hy
    · exact cell_has hy
    · exact absurd rfl (S.nofree _ (PySem.mem_of_lookup hy))
  · exact Nat.le_of_lt (x.above y c (PySem.mem_of_lookup h))
  · have hi : i < vs.length := by
      unfold start at h2
      by_cases hi : i < vs.length
      · exact hi
      · rw [List.getElem?_append_right (by simpa using hi)] at h2
        rw [List.getElem?_replicate] at h2
        split at h2 <;> cases h2
    have ha : vs[i]? = some v := by
      unfold start at h2
      rw [List.getElem?_append_left (by simpa using hi), List.getElem?_map] at h2
      cases e : vs[i]? with
      | none => rw [e] at h2; cases h2
      | some a => rw [e] at h2; cases h2; rfl
    obtain ⟨u, hu, rv⟩ := r.get ha
    have hp : ps[i]? = some y := by
      rw [← S.pre, List.getElem?_take_of_lt (by omega)]; exact h1
    have ndP : ps.Nodup := by rw [← S.pre]; exact S.nd.sublist (List.take_sublist _ _)
    refine ⟨u, rv, ?_⟩
    rcases S.par y (List.mem_of_getElem? hp) with k | k
    · exact .inl ⟨k, bindL_get ndP hp hu k⟩
    · obtain ⟨c, e⟩ := cell_has (n := s.heap.objs.size + 1) k
      refine .inr ⟨.inl k, c, e, ?_⟩
      have q := x.cell y c e
      rw [bindC_get ndP hp hu (by show scope.names.lookup y ≠ _; rw [k]; decide)] at q
      exact q
  · exact e0.hok.fresh (Nat.le_of_lt (x.above y c (PySem.mem_of_lookup h)))
  · unfold start
    show _ = N.length
    rw [List.length_append, List.length_map, List.length_replicate]
    omega
theorem fn_of {CX : CXT} {P : Program} {w : World} {K : PySem.W.Frag} {mg : Str → Option Value} {base : Heap} {k : Nat} {f : Addr} {name qual : Str} {params : Arguments} {body : List Stmt} {scope : Scope} {dV kV doc pm cdv ct oc : Value} {an od : Option Addr}
    {osl : Array (Option Value)} {N ps : List Str} {sp : Sp} (lk : K.lookup f = some ⟨oc, od, .func (PySem.W.fnOf name qual params body scope dV kV doc pm an cdv ct), osl⟩) (hcd : PySem.W.codeIn K cdv qual = true) (S : FnScope N ps scope)
    (len : ∀ vs H Q E, sp vs H Q E → vs.length = ps.length)
    (hbody : ∀ (A : Around) (outer : List Env) (s : Shared) (H : Hp) (vs : List V) (Q : VK) (E : XK), Room k (A.deeper (envOfC qual scope s.heap.objs.size f cdv)) → sp vs H Q E →
      ∃ t, PSs (cxOf CX P w K mg base N qual scope f cdv A outer s H E) body t ∧ t { nx := fun _ H' => Q .non H', rt := Q } (start N vs) H) :
    FnOk P w K mg base CX (k + 1) f (PySem.W.fnOf name qual params body scope dV kV doc pm an cdv ct) ps sp := by
  refine ⟨len, fun A outer s H args us vs Q E hr e0 hb r hsp => ?_⟩
  have hl := len _ _ _ _ hsp
  have KX : K.In s.heap := e0.mod.kin.keeps fun b o e => (e0.bs b o e).1
  have lim : s.heap.NoLimit := e0.mod.nolimit.keeps fun b o e => (e0.bs b o e).1
  have hkind : ∀ y ∈ ps.zip us, scope.names.lookup y.1 = some .local ∨ (scope.names.lookup y.1 = some .cell ∧ ((cellsFrom (s.heap.objs.size + 1) scope.names []).lookup y.1).isSome = true) := fun ⟨n, v⟩ hy => by
    rcases S.par n (List.of_mem_zip hy).1 with q | q
    · exact .inl q
    · exact .inr ⟨q, PySem.W.cellsFrom_some _ _ _ (.inl q)⟩
  refine codeAny_call_function hr.depth (KX _ _ lk) rfl S.co S.gen rfl (PySem.W.codeRec_of KX hcd) (hb _ _ _ _ ?_)
  refine wpAny_newFunctionEnv_cells S.kind hkind fun env he s1 x => ?_
  subst he
  refine ⟨lim.keeps x.toInCall.keep, codeAny_func ?_⟩
  obtain ⟨t, ht, hq⟩ := hbody A outer s H vs Q E (hr.deeper _) hsp
  have I : Inv (cxOf CX P w K mg base N qual scope f cdv A outer s H E) [] (start N vs) H s1 := inv_start S hr.hd e0 hl r x
  refine wpAny_mono (ht [] s1 (start N vs) H _ I hq) (fun fl s' hs => ?_) fun e s' hs => hs
  have fin : ∀ {σ' : St} {H' : Hp} {v : V} {u : Value}, Inv (cxOf CX P w K mg base N qual scope f cdv A outer s H E) [] σ' H' s' → RelV v u → Q v H' → CE outer P w H s Q u s' :=
    fun {σ' H' v u} J rv q => ⟨v, H', J.os, J.bare, J.base, J.hok, rv, q⟩
  cases fl with
  | ret u =>
    obtain ⟨v, σ', H', J, rv, q⟩ := hs
    exact fin J rv q
  | next =>
    obtain ⟨σ', H', J, q⟩ := hs
    exact fin (v := V.non) (u := Value.none) J rfl q
  | brk =>
    obtain ⟨_, _, _, q⟩ := hs
    exact False.elim q
  | cont =>
    obtain ⟨_, _, _, q⟩ := hs
    exact False.elim q
end L2
namespace L2
open PySem PySem.Spec PyProof.Rows
section
variable {X : Cx} {x : Str} {p pos : Pos} {e : Expr} {es : List Expr} {t : TA} {id T : String} {r : List V → Hp → VK → Prop}
noncomputable def tCB (r : List V → Hp → VK → Prop) (t : TA) : TE := fun σ H Q => t σ H fun vs H1 => r vs H1 Q
theorem pe_callB (hc : CallR X (.builtin id) r) (hg : Gl X x) (hm : X.mg x = none) (hv : bootBuiltins x = some (.builtin id)) (ha : PA X (e :: es) t) (hn : x ≠ "__name__" := by decide) (hdb : (x == ("__debug__" : Str)) = false := by decide)
    (he : starEach (e :: es) X.env = (false, eval e X.env) :: starEach es X.env := by rfl) (hpl : (backTo pos (starEach es X.env)).any (·.1) = false := by rfl) : PE X (.Call (.Name x p) (e :: es) [] pos) (tCB r t) := by
  intro pins s σ H Q I h
  refine wpAny_Call_Name_kw (ld_blt I hg hm hv ?_ hn hdb)
  exact PyProof.Rows.callWith_builtin1 (thn (ha pos pins s σ H _ I h) fun us s1 ⟨vs, H1, I1, r1, q1⟩ => hc pins s1 σ H1 vs us Q I1 r1 q1) he hpl
theorem pe_callTy (hc : CallR X (.type T) r) (hg : Gl X x) (hm : X.mg x = none) (hv : bootBuiltins x = some (.type T)) (ha : PA X (e :: es) t) (hn : x ≠ "__name__" := by decide) (hdb : (x == ("__debug__" : Str)) = false := by decide)
    (he : starEach (e :: es) X.env = (false, eval e X.env) :: starEach es X.env := by rfl) (hpl : (backTo pos (starEach es X.env)).any (·.1) = false := by rfl) : PE X (.Call (.Name x p) (e :: es) [] pos) (tCB r t) := by
  intro pins s σ H Q I h
  refine wpAny_Call_Name_kw (ld_blt I hg hm hv ?_ hn hdb)
  exact PyProof.Rows.callWith_type1 (thn (ha pos pins s σ H _ I h) fun us s1 ⟨vs, H1, I1, r1, q1⟩ => hc pins s1 σ H1 vs us Q I1 r1 q1) he hpl
end
end L2
namespace HT
open PySem PyProof.Rows
section
variable {prog : Program} {w : World} {A : Around} {E : Value → Shared → Prop} {s : Shared}
noncomputable def sIx (n d : Nat) : Option Int → Nat
  | none => d
  | some v => if v < 0 then (v + (n : Int)).toNat else min v.toNat n
theorem sIx_none (n d : Nat) : sIx n d none = d := rfl
theorem sIx_nat (n d k : Nat) : sIx n d (some (k : Int)) = min k n := by
  show (if (k : Int) < 0 then ((k : Int) + (n : Int)).toNat else min (k : Int).toNat n) = min k n
  rw [if_neg (by omega), Int.toNat_natCast]
end
end HT
namespace L2
open PySem PySem.Spec PyProof.Rows
noncomputable abbrev TO := St → Hp → (Option Int → Hp → Prop) → Prop
noncomputable def PO (X : Cx) (e : Option Expr) (t : TO) : Prop :=
  ∀ (pins : List (Addr × Obj)) (s : Shared) (σ : St) (H : Hp) (Q : Option Int → Hp → Prop), Inv X pins σ H s → t σ H Q →
    wpAny (model X.prog X.w) X.A (evalPart e X.env) (fun u s' => ∃ o H', Inv X pins σ H' s' ∧ IsPart u o ∧ Q o H') X.xe s
noncomputable def tNoPart : TO := fun _ H Q => Q none H
noncomputable def tPart (t : TE) : TO := fun σ H Q => t σ H fun x H1 => ∃ i, x = .int i ∧ Q (some i) H1
section
variable {X : Cx} {e : Expr} {te : TE} {lo hi : Option Expr} {tl th : TO} {pos p2 : Pos}
theorem po_none : PO X none tNoPart := by
  intro pins s σ H Q I h
  rw [evalPart_none]
  exact wpAny_pure ⟨none, H, I, .none, h⟩
theorem po_some (h : PE X e te) : PO X (some e) (tPart te) := by
  intro pins s σ H Q I hw
  rw [evalPart_some]
  refine thn (h pins s σ H _ I hw) fun u s1 ⟨x, H1, I1, r1, q1⟩ => ?_
  obtain ⟨i, rfl, q⟩ := q1
  obtain ⟨t, rfl⟩ := r1
  exact ⟨some i, H1, I1, .int i t, q⟩
noncomputable def SlR (X : Cx) (r : V → Option Int → Option Int → Hp → VK → Prop) : Prop :=
  ∀ (pins : List (Addr × Obj)) (s : Shared) (σ : St) (H : Hp) (x : V) (v vl vu : Value) (lo hi : Option Int) (sl : Addr) (Q : VK), Inv X pins σ H s → RelV x v → s.heap.IsSliceOf sl vl vu .none → IsPart vl lo → IsPart vu hi → r x lo hi H Q →
    ∃ T id, typeLookup (.type T) "__getitem__" = pure (some (.builtin id)) ∧ s.TypeIs v T ∧ wpAny (model X.prog X.w) X.A (getItem v (.ref sl)) (EP X pins σ Q) X.xe s
noncomputable def tSl (r : V → Option Int → Option Int → Hp → VK → Prop) (te : TE) (tl th : TO) : TE := fun σ H Q => te σ H fun x H1 => tl σ H1 fun l H2 => th σ H2 fun u H3 => r x l u H3 Q
theorem pe_slice {r : V → Option Int → Option Int → Hp → VK → Prop} (hr : SlR X r) (he : PE X e te) (hl : PO X lo tl) (hu : PO X hi th) : PE X (.Subscript e (.Slice lo hi none p2) pos) (tSl r te tl th) := by
  intro pins s σ H Q I h
  refine Subscript_ (thn (he pins s σ H _ I h) fun v s1 ⟨x, H1, I1, r1, q1⟩ => ?_)
  refine wpAny_Slice (thn (hl pins s1 σ H1 _ I1 q1) fun vl s2 ⟨l, H2, I2, pl, q2⟩ => thn (hu pins s2 σ H2 _ I2 q2) fun vu s3 ⟨u, H3, I3, pu, q3⟩ => ?_)
  rw [evalPart_none]
  refine wpAny_pure ?_
  have I4 : Inv X pins σ H3 { s3 with heap := s3.heap.push { cls := .type "slice", data := .fields #[vl, vu, .none] } } := I3.kept (t' := s3.toks) fun b ob q => Heap.get?_push_of_some _ q
  obtain ⟨T, id, hT, ht, hg⟩ := hr pins { s3 with heap := s3.heap.push { cls := .type "slice", data := .fields #[vl, vu, .none] } } σ H3 x v vl vu l u s3.heap.objs.size Q I4 r1 (Heap.IsSliceOf.new ..) pl pu q3
  show wpAny (model X.prog X.w) X.A (subscriptTail e (.Slice lo hi none p2) v (.ref s3.heap.objs.size)) (EP X pins σ Q) X.xe { s3 with heap := s3.heap.push { cls := .type "slice", data := .fields #[vl, vu, .none] } }
  exact tail_any (ops := [.ref s3.heap.objs.size, v]) ht hT hg (by with_unfolding_all rfl)
noncomputable def cutV (xs : List V) (lo hi : Option Int) : List V := (xs.drop (HT.sIx xs.length 0 lo)).take (HT.sIx xs.length xs.length hi - HT.sIx xs.length 0 lo)
theorem cutV_length (xs : List V) (lo hi : Option Int) : (cutV xs lo hi).length ≤ xs.length := by
  unfold cutV
  rw [List.length_take, List.length_drop]
  omega
end
end L2
namespace L2
open PySem PySem.Spec PyProof.Rows
noncomputable def ixN (n : Nat) (i : Int) : Option Nat := if 0 ≤ i then (if i < n then some i.toNat else none) else if -(n : Int) ≤ i then some (i + n).toNat else none
noncomputable def atI {α : Type} (xs : List α) (i : Int) : Option α := (ixN xs.length i).bind fun j => xs[j]?
theorem ixN_seq {n : Nat} {i : Int} {j : Nat} (h : ixN n i = some j) : seqIndex? i n = some j ∧ j < n ∧ -(n : Int) ≤ i ∧ i < n := by
  unfold ixN at h
  by_cases h0 : 0 ≤ i
  · rw [if_pos h0] at h
    by_cases h1 : i < n
    · rw [if_pos h1] at h
      have e : i.toNat = j := Option.some.inj h
      exact ⟨by rw [seqIndex_of h0 h1, e], by omega, by omega, h1⟩
    · rw [if_neg h1] at h; cases h
  · rw [if_neg h0] at h
    by_cases h1 : -(n : Int) ≤ i
    · rw [if_pos h1] at h
      have e : (i + n).toNat = j := Option.some.inj h
      exact ⟨by rw [seqIndex_neg (by omega) h1, e], by omega, h1, by omega⟩
    · rw [if_neg h1] at h; cases h
theorem atI_get {α : Type} {xs : List α} {i : Int} {v : α} (h : atI xs i = some v) : ∃ j, seqIndex? i xs.length = some j ∧ xs[j]? = some v ∧ j < xs.length ∧ -(xs.length : Int) ≤ i ∧ i < xs.length := by
  unfold atI at h
  cases e : ixN xs.length i with
  | none => rw [e] at h; cases h
  | some j =>
    rw [e] at h
    obtain ⟨h1, h2, h3, h4⟩ := ixN_seq e
    exact ⟨j, h1, h, h2, h3, h4⟩
theorem atI_nat {α : Type} {xs : List α} {j : Nat} {v : α} (h : xs[j]? = some v) : atI xs (j : Int) = some v := by
  have hj : j < xs.length := (List.getElem?_eq_some_iff.mp h).1
  have e : ixN xs.length (j : Int) = some j := by
    unfold ixN
    rw [if_pos (by omega), if_pos (by omega)]; simp
  unfold atI; rw [e]; exact h
noncomputable def PlainIx (b : Expr) : Prop := ∀ o i, subscripted b false o i = operate [o, i] (getItem o i)
noncomputable def IxR (X : Cx) (r : R2) : Prop :=
  ∀ (value slice : Expr) (pins : List (Addr × Obj)) (s : Shared) (σ : St) (H : Hp) (x y : V) (v u : Value) (Q : VK), Inv X pins σ H s → RelV x v → RelV y u → r x y H Q →
    subscripted slice false v u = operate [v, u] (getItem v u) → wpAny (model X.prog X.w) X.A (subscriptTail value slice v u) (EP X pins σ Q) X.xe s
noncomputable def MtR (X : Cx) (id : String) (r : V → List V → Hp → VK → Prop) : Prop :=
  ∀ (pins : List (Addr × Obj)) (s : Shared) (σ : St) (H : Hp) (x : V) (xs : List V) (v : Value) (us : List Value) (Q : VK), Inv X pins σ H s → RelV x v → Vals xs us → r x xs H Q →
    wpAny (model X.prog X.w) X.A (call (.builtin id) (v :: us)) (EP X pins σ Q) X.xe s
section
variable {X : Cx} {a b : Expr} {ta tb : TE} {pos : Pos}
theorem pe_ix {r : R2} (hr : IxR X r) (ha : PE X a ta) (hb : PE X b tb) (hs : PlainIx b) : PE X (.Subscript a b pos) (tOp r ta tb) := by
  intro pins s σ H Q I h
  exact Subscript_ (binT ha hb I h fun v u s2 x y H2 I2 rx ry q => hr a b pins s2 σ H2 x y v u Q I2 rx ry q (hs _ _))
noncomputable def rIxL (K : PySem.W.Frag) : R2 := fun x y H Q => ∃ p xs i v, x = .ref p ∧ y = .int i ∧ SqL K H p xs ∧ atI xs i = some v ∧ Q v H
noncomputable def rIxT (K : PySem.W.Frag) : R2 := fun x y H Q => ∃ p xs i v, x = .ref p ∧ y = .int i ∧ SqT K H p xs ∧ atI xs i = some v ∧ Q v H
noncomputable def rIxS : R2 := fun x y H Q => ∃ z i c, x = .str z ∧ y = .int i ∧ z.length ≤ sizeLine ∧ atI z.cps.toList i = some c ∧ Q (.str ⟨#[c]⟩) H
theorem ix_list : IxR X (rIxL X.K) := by
  intro value slice pins s σ H x y v u Q I rx ry h hs
  obtain ⟨p, xs, i, z, rfl, rfl, hq, he, q⟩ := h
  cases rx
  obtain ⟨t, rfl⟩ := ry
  obtain ⟨its, r, pl, hz⟩ := I.list hq
  obtain ⟨j, h1, h2, h3, h4, h5⟩ := atI_get he
  obtain ⟨w, ew, rw'⟩ := r.get h2
  have hl := r.length
  have hn := line63
  have fin : EP X pins σ Q w s := ⟨z, H, I, rw', q⟩
  by_cases h0 : 0 ≤ i
  · have hj : i.toNat = j := by
      rw [seqIndex_of h0 h5] at h1
      exact Option.some.inj h1
    exact item_listR pl.isList h0 (by omega) (by rw [hj]; simpa using ew) fin hs
  · have hj : (i + (its.toArray.size : Int)).toNat = j := by
      rw [seqIndex_neg (by omega) h4] at h1
      rw [List.size_toArray, ← hl]
      exact Option.some.inj h1
    exact subscriptTail_builtinR (x := w) pl.isList.typeIs slot_list_getitem.lookup
      (wpAny_getItem_list_neg (Q := fun r s' => r = w ∧ EP X pins σ Q r s') pl.isList (by omega) (by rw [List.size_toArray] <;> omega) (by omega) (by rw [hj]; simpa using ew) ⟨rfl, fin⟩) hs
theorem ix_tup : IxR X (rIxT X.K) := by
  intro value slice pins s σ H x y v u Q I rx ry h hs
  obtain ⟨p, xs, i, z, rfl, rfl, hq, he, q⟩ := h
  cases rx
  obtain ⟨t, rfl⟩ := ry
  obtain ⟨its, r, pl, hz⟩ := I.tuple hq
  obtain ⟨j, h1, h2, h3, h4, h5⟩ := atI_get he
  obtain ⟨w, ew, rw'⟩ := r.get h2
  have hl := r.length
  have hn := line63
  have fin : EP X pins σ Q w s := ⟨z, H, I, rw', q⟩
  exact subscriptTail_builtinR (x := w) pl.typeIs slot_tuple_getitem.lookup
    (getItem_tuple (j := j) (Q := fun r s' => r = w ∧ EP X pins σ Q r s') pl (by omega) (by omega) (by rw [List.size_toArray, ← hl]; exact h1) (by simpa using ew) ⟨rfl, fin⟩) hs
theorem ix_str : IxR X rIxS := by
  intro value slice pins s σ H x y v u Q I rx ry h hs
  obtain ⟨z, i, c, rfl, rfl, hz, he, q⟩ := h
  obtain ⟨t, rfl⟩ := rx
  obtain ⟨t', rfl⟩ := ry
  obtain ⟨j, h1, h2, h3, h4, h5⟩ := atI_get he
  have hl : z.cps.toList.length = z.length := by simp [Str.length]
  rw [hl] at h1 h4 h5
  have hn := line63
  exact tail_any (typeIs_str s z t) slot_str_getitem.lookup (getItem_str (c := c) (by
    have e1 : decide (i < -(2 ^ 63 : Int)) = false := decide_eq_false (by omega)
    have e2 : decide (i ≥ 2 ^ 63) = false := decide_eq_false (by omega)
    rw [e1, e2, Bool.or_false]) (by rw [h1]; simpa using h2) ⟨.str ⟨#[c]⟩, H, I.tok _, ⟨_, rfl⟩, q⟩) hs
theorem mapSeq_set (its : List Value) (n j : Nat) (u : Value) : Obj.mapSeq (·.setIfInBounds j u) { cls := .type "list", data := .seq its.toArray n } = { cls := .type "list", data := .seq (its.set j u).toArray n } := by
  simp [Obj.mapSeq]
theorem Inv.lst {pins : List (Addr × Obj)} {σ : St} {H : Hp} {s : Shared} {p : Addr} {xs : List V} (I : Inv X pins σ H s) (h : H p = some (.lst xs)) :
    ∃ (its : List Value) (n : Nat), Vals xs its ∧ s.heap.get? p = some { cls := .type "list", data := .seq its.toArray n } ∧ xs.length ≤ sizeLine := by
  obtain ⟨z, its, n, r, e⟩ := I.hok p _ h
  exact ⟨its, n, r, e, z⟩
theorem Inv.lstUpd {pins : List (Addr × Obj)} {σ : St} {H : Hp} {s : Shared} {p : Addr} {xs ys : List V} {its its' : List Value} {n n' : Nat} {f : Obj → Obj} (I : Inv X pins σ H s) (h : H p = some (.lst xs))
    (ho : s.heap.get? p = some { cls := .type "list", data := .seq its.toArray n }) (hf : f { cls := .type "list", data := .seq its.toArray n } = { cls := .type "list", data := .seq its'.toArray n' }) (r : Vals ys its') (hz : ys.length ≤ sizeLine) (t : Nat) :
    Inv X pins σ (upd H p (.lst ys)) { s with heap := s.heap.update p f, toks := t } := by
  have e : (s.heap.update p f).get? p = some { cls := .type "list", data := .seq its'.toArray n' } := by
    rw [Heap.get?_update_self f ho (by rw [hf] <;> rfl), hf]
  refine I.write (x := p) (e := p) (by rw [h]; trivial) (.inl rfl) (fun b u hb q => (Heap.get?_update_other _ _ (Ne.symm hb)).trans q) ⟨_, e⟩ ?_
  exact ⟨hz, its', n', r, e⟩
noncomputable def rSetL : V → V → V → Hp → (Hp → Prop) → Prop := fun o i v H Q => ∃ p xs k j, o = .ref p ∧ i = .int k ∧ H p = some (.lst xs) ∧ ixN xs.length k = some j ∧ Q (upd H p (.lst (xs.set j v)))
theorem set_list : PSet X rSetL := by
  intro pins s σ H o i v ov iv u Q I ro ri rv h
  obtain ⟨p, xs, k, j, rfl, rfl, hp, hj, q⟩ := h
  cases ro
  obtain ⟨t, rfl⟩ := ri
  obtain ⟨its, n, r, ho, hz⟩ := I.lst hp
  obtain ⟨h1, h2, h3, h4⟩ := ixN_seq hj
  have hl := r.length
  have hn := line63
  have I' : Inv X pins σ (upd H p (.lst (xs.set j v))) { s with heap := s.heap.update p (Obj.mapSeq (·.setIfInBounds j u)) } :=
    I.lstUpd hp ho (mapSeq_set its n j u) (r.set rv j) (by rw [List.length_set]; exact hz) s.toks
  by_cases h0 : 0 ≤ k
  · have hk : k.toNat = j := by
      rw [seqIndex_of h0 h4] at h1
      exact Option.some.inj h1
    exact PySem.W.ki_setAt ho h0 (by omega) (by rw [List.size_toArray, ← hl]; exact h4) (by rw [hk]; exact ⟨_, I', q⟩)
  · have hk : (k + (its.toArray.size : Int)).toNat = j := by
      rw [seqIndex_neg (by omega) h3] at h1
      rw [List.size_toArray, ← hl]
      exact Option.some.inj h1
    exact PySem.W.ki_setBack ho (by omega) (by rw [List.size_toArray, ← hl]; exact h3) (by omega) (by rw [hk]; exact ⟨_, I', q⟩)
theorem slice_bounds (lo hi : Option Int) (n : Nat) : (sliceBounds lo hi none n).1 = ((HT.sIx n 0 lo : Nat) : Int) ∧ (sliceBounds lo hi none n).2.1 = ((HT.sIx n n hi : Nat) : Int) ∧ (sliceBounds lo hi none n).2.2 = 1 := by
  refine ⟨?_, ?_, rfl⟩
  · cases lo with
    | none => simp [sliceBounds, HT.sIx]
    | some i =>
      simp only [sliceBounds, HT.sIx, Option.getD_none, show (1 : Int) > 0 by decide, if_true]
      by_cases h : i < 0
      · simp only [h, if_true] <;> omega
      · simp only [h, if_false] <;> omega
  · cases hi with
    | none => simp [sliceBounds, HT.sIx]
    | some i =>
      simp only [sliceBounds, HT.sIx, Option.getD_none, show (1 : Int) > 0 by decide, if_true]
      by_cases h : i < 0
      · simp only [h, if_true] <;> omega
      · simp only [h, if_false] <;> omega
theorem slicePick_cut (its : List Value) (lo hi : Option Int) : slicePick its.toArray lo hi none = ((its.drop (HT.sIx its.length 0 lo)).take (HT.sIx its.length its.length hi - HT.sIx its.length 0 lo)).toArray := by
  obtain ⟨h1, h2, h3⟩ := slice_bounds lo hi its.toArray.size
  unfold slicePick
  rw [h1, h2, h3]
  simp only [sliceRange_one, pick_run, List.size_toArray] <;> rfl
noncomputable def rSlL (K : PySem.W.Frag) : V → Option Int → Option Int → Hp → VK → Prop := fun x lo hi H Q => ∃ a xs, x = .ref a ∧ SqL K H a xs ∧ ∀ p, H p = none → Q (.ref p) (upd H p (.lst (cutV xs lo hi)))
theorem sl_list : SlR X (rSlL X.K) := by
  intro pins s σ H x v vl vu lo hi sl Q I rx hs pl pu h
  obtain ⟨a, xs, rfl, hx, q⟩ := h
  cases rx
  obtain ⟨its, r, ht, hz⟩ := I.list hx
  have hlen := r.length
  refine ⟨"list", _, slot_list_getitem.lookup, ht.isList.typeIs, ?_⟩
  refine wpAny_getItem_list_slice ht.isList hs pl pu .none (by simp) ?_ (by rw [List.size_toArray] <;> omega)
  rw [slicePick_cut, ← hlen]
  refine ⟨.ref s.heap.objs.size, _, I.laid (t' := s.toks) (o := .lst (cutV xs lo hi)) (fun b ob q => Heap.get?_push_of_some _ q) (Nat.le_refl _) ?_, rfl, q _ (I.hok.fresh (Nat.le_refl _))⟩
  exact ⟨Nat.le_trans (cutV_length xs lo hi) hz, _, 0, (r.drop (HT.sIx xs.length 0 lo)).take (HT.sIx xs.length xs.length hi - HT.sIx xs.length 0 lo), Heap.get?_push_size _ rfl⟩
noncomputable def flatV : V → Bool
  | .non => true
  | .bl _ => true
  | .int _ => true
  | .str _ => true
  | _ => false
noncomputable def eqV : V → V → Bool
  | .non, .non => true
  | .bl a, .bl b => a == b
  | .bl a, .int b => (if a then 1 else 0) == b
  | .int a, .bl b => a == (if b then 1 else 0)
  | .int a, .int b => a == b
  | .str a, .str b => a == b
  | _, _ => false
theorem eqAt_V {A : Around} {s : Shared} {y x : V} {u v : Value} (ry : RelV y u) (rx : RelV x v) (fy : flatV y = true) (fx : flatV x = true) : SeqAt.EqAt A s u v (eqV y x) := by
  cases y with
  | non =>
    cases ry
    cases x with
    | non => cases rx; exact SeqAt.EqAt.same _
    | bl b => cases rx; exact SeqAt.EqAt.none_bool b
    | int b => obtain ⟨t, rfl⟩ := rx; exact SeqAt.EqAt.none_int b t
    | str b => obtain ⟨t, rfl⟩ := rx; exact SeqAt.EqAt.none_str b t
    | _ => exact absurd (show false = true from fx) Bool.false_ne_true
  | bl a =>
    cases ry
    cases x with
    | non => cases rx; exact SeqAt.EqAt.bool_none a
    | bl b => cases rx; exact SeqAt.EqAt.bool_bool a b
    | int b => obtain ⟨t, rfl⟩ := rx; exact SeqAt.EqAt.bool_int a b t
    | str b => obtain ⟨t, rfl⟩ := rx; exact SeqAt.EqAt.bool_str a b t
    | _ => exact absurd (show false = true from fx) Bool.false_ne_true
  | int a =>
    obtain ⟨t', rfl⟩ := ry
    cases x with
    | non => cases rx; exact SeqAt.EqAt.int_none a t'
    | bl b => cases rx; exact SeqAt.EqAt.int_bool a t' b
    | int b => obtain ⟨t, rfl⟩ := rx; exact SeqAt.EqAt.int_int a t' b t
    | str b => obtain ⟨t, rfl⟩ := rx; exact SeqAt.EqAt.int_str a t' b t
    | _ => exact absurd (show false = true from fx) Bool.false_ne_true
  | str a =>
    obtain ⟨t', rfl⟩ := ry
    cases x with
    | non => cases rx; exact SeqAt.EqAt.str_none a t'
    | bl b => cases rx; exact SeqAt.EqAt.str_bool a t' b
    | int b => obtain ⟨t, rfl⟩ := rx; exact SeqAt.EqAt.str_int a t' b t
    | str b => obtain ⟨t, rfl⟩ := rx; exact SeqAt.EqAt.str_str a t' b t
    | _ => exact absurd (show false = true from fx) Bool.false_ne_true
  | _ => exact absurd (show false = true from fy) Bool.false_ne_true
noncomputable def eqU (x : V) (u : Value) : Bool := match u with
  | .none => eqV .non x
  | .bool b => eqV (.bl b) x
  | .int i _ => eqV (.int i) x
  | .str z _ => eqV (.str z) x
  | _ => false
theorem eqU_of {x y : V} {u : Value} (r : RelV y u) (f : flatV y = true) : eqU x u = eqV y x := by
  cases y with
  | non => cases r; rfl
  | bl b => cases r; rfl
  | int i => obtain ⟨t, rfl⟩ := r; rfl
  | str z => obtain ⟨t, rfl⟩ := r; rfl
  | _ => exact absurd (show false = true from f) Bool.false_ne_true
theorem any_eqU {x : V} : ∀ {xs : List V} {us : List Value}, Vals xs us → xs.all flatV = true → us.any (eqU x) = xs.any fun y => eqV y x
  | _, _, .nil, _ => rfl
  | y :: xs, u :: us, .cons r t, f => by
    rw [List.all_cons, Bool.and_eq_true] at f
    rw [List.any_cons, List.any_cons, eqU_of r f.1, any_eqU t f.2]
theorem mem_eqAt {A : Around} {s : Shared} {x : V} {v : Value} (rx : RelV x v) (fx : flatV x = true) : ∀ {xs : List V} {us : List Value}, Vals xs us → xs.all flatV = true → ∀ u ∈ us, SeqAt.EqAt A s u v (eqU x u)
  | _, _, .nil, _ => fun u hu => by cases hu
  | y :: xs, u :: us, .cons r t, f => fun u' hu => by
    rw [List.all_cons, Bool.and_eq_true] at f
    rcases List.mem_cons.mp hu with rfl | hu
    · rw [eqU_of r f.1]; exact eqAt_V r rx f.1 fx
    · exact mem_eqAt rx fx t f.2 u' hu
noncomputable def inV (x : V) (xs : List V) : Bool := xs.any fun y => eqV y x
noncomputable def rIn (K : PySem.W.Frag) (neg : Bool) : R2 := fun x y H Q => ∃ p xs, y = .ref p ∧ (SqL K H p xs ∨ SqT K H p xs) ∧ flatV x = true ∧ xs.all flatV = true ∧ Q (.bl (if neg then !inV x xs else inV x xs)) H
theorem op_in_seq : OpR X (compareOp .In) (rIn X.K false) := by
  intro pins s σ H x y v u Q I rx ry h
  obtain ⟨p, xs, rfl, hq, fx, fs, q⟩ := h
  cases ry
  rcases hq with hq | hq
  · obtain ⟨its, r, pl, hz⟩ := I.list hq
    refine SeqAt.in_listAt (eqU x) pl.isList (fun w hw => mem_eqAt rx fx r fs w (by simpa using hw)) ⟨.bl _, H, I, rfl, ?_⟩
    rw [show its.toArray.any (eqU x) = its.any (eqU x) by simp, any_eqU r fs]
    exact q
  · obtain ⟨its, r, pl, hz⟩ := I.tuple hq
    refine SeqAt.in_tupleAt (eqU x) pl (fun w hw => mem_eqAt rx fx r fs w (by simpa using hw)) ⟨.bl _, H, I, rfl, ?_⟩
    rw [show its.toArray.any (eqU x) = its.any (eqU x) by simp, any_eqU r fs]
    exact q
theorem call_len_seq : CallR X (.builtin "len") (fun xs H Q => ∃ p ys, xs = [.ref p] ∧ (SqL X.K H p ys ∨ SqT X.K H p ys) ∧ Q (.int ys.length) H) := by
  intro pins s σ H xs us Q I r h
  obtain ⟨p, ys, rfl, hq, q⟩ := h
  obtain ⟨u, rfl, rx⟩ := vals1 r
  cases rx
  have hn := line63
  rcases hq with hq | hq
  · obtain ⟨its, r', pl, hz⟩ := I.list hq
    have hlen := r'.length
    exact Calls.call_len_list pl.isList (by simp only [List.size_toArray] <;> omega) ⟨.int ys.length, H, I.tok _, ⟨s.toks + 1, by rw [List.size_toArray, hlen]⟩, q⟩
  · obtain ⟨its, r', pl, hz⟩ := I.tuple hq
    have hlen := r'.length
    exact len_tuple pl (by simp only [List.size_toArray] <;> omega) ⟨.int ys.length, H, I.tok _, ⟨s.toks + 1, by rw [List.size_toArray, hlen]⟩, q⟩
theorem call_len_str : CallR X (.builtin "len") (fun xs H Q => ∃ z, xs = [.str z] ∧ z.length ≤ sizeLine ∧ Q (.int z.length) H) := by
  intro pins s σ H xs us Q I r h
  obtain ⟨z, rfl, hz, q⟩ := h
  obtain ⟨u, rfl, t, rfl⟩ := vals1 r
  have hn := line63
  exact len_str (by omega) ⟨.int z.length, H, I.tok _, ⟨_, rfl⟩, q⟩
noncomputable def tyV (K : PySem.W.Frag) (T : String) (x : V) (H : Hp) : Prop := match x with
  | .str _ => T = "str"
  | .int _ => T = "int"
  | .ref p => (T = "list" ∧ ∃ xs, SqL K H p xs) ∨ (T = "tuple" ∧ ∃ o, K.lookup p = some o ∧ o.cls = .type "tuple" ∧ o.dict = none) ∨
      (T = "dict" ∧ ((∃ kvs, H p = some (.dK kvs)) ∨ ∃ kvs, H p = some (.dT kvs))) ∨ (T = "set" ∧ ∃ S n, H p = some (.set S n))
  | _ => False
theorem tyV_is {pins : List (Addr × Obj)} {σ : St} {H : Hp} {s : Shared} {T : String} {x : V} {v : Value} (I : Inv X pins σ H s) (r : RelV x v) (ty : tyV X.K T x H) :
    s.TypeIs v T ∧ ∀ a, v = .ref a → ∃ ob, s.heap.get? a = some ob ∧ ob.dict = none := by
  cases x with
  | str z =>
    obtain ⟨t, rfl⟩ := r
    cases (show T = "str" from ty)
    exact ⟨typeIs_str s z t, fun _ e => nomatch e⟩
  | int i =>
    obtain ⟨t, rfl⟩ := r
    cases (show T = "int" from ty)
    exact ⟨typeIs_int s i t, fun _ e => nomatch e⟩
  | ref p =>
    cases r
    rcases ty with ⟨rfl, xs, hq⟩ | ⟨rfl, o, hk, hc, hd⟩ | ⟨rfl, hk⟩ | ⟨rfl, S, n, hk⟩
    · obtain ⟨its, _, pl, _⟩ := I.list hq
      refine ⟨pl.isList.typeIs, fun a e => ?_⟩
      cases e
      obtain ⟨o, n, e, c, hd, _⟩ := pl
      exact ⟨o, e, hd⟩
    · refine ⟨⟨o, I.kIn p o hk, hc⟩, fun a e => ?_⟩
      cases e
      exact ⟨o, I.kIn _ o hk, hd⟩
    · have z : ∃ o, s.heap.get? p = some o ∧ o.ExactDict := by
        rcases hk with ⟨kvs, hk⟩ | ⟨kvs, hk⟩
        · obtain ⟨_, _, _, _, o, _, _, e, ex, _⟩ := I.hok p _ hk
          exact ⟨o, e, ex⟩
        · obtain ⟨_, _, _, _, o, _, _, e, ex, _⟩ := I.hok p _ hk
          exact ⟨o, e, ex⟩
      obtain ⟨o, e, ex⟩ := z
      refine ⟨⟨o, e, ex.1⟩, fun a e2 => ?_⟩
      cases e2
      exact ⟨o, e, ex.2.1⟩
    · obtain ⟨o, _, _, _, e, ex, _⟩ := I.hok p _ hk
      refine ⟨⟨o, e, ex.1⟩, fun a e2 => ?_⟩
      cases e2
      exact ⟨o, e, ex.2.1⟩
  | _ => exact False.elim ty
noncomputable def tBM0 (K : PySem.W.Frag) (T : String) (r : V → List V → Hp → VK → Prop) (to : TE) : TE := fun σ H Q => to σ H fun x H1 => tyV K T x H1 ∧ r x [] H1 Q
noncomputable def tBM (K : PySem.W.Frag) (T : String) (r : V → List V → Hp → VK → Prop) (to : TE) (t : TA) : TE := fun σ H Q => to σ H fun x H1 => tyV K T x H1 ∧ t σ H1 fun xs H2 => r x xs H2 Q
variable {o e : Expr} {es : List Expr} {to : TE} {t : TA} {name : Str} {apos cpos : Pos} {T id : String} {r : V → List V → Hp → VK → Prop}
theorem pe_bm0 (pa : PlainAttrs T) (slot : Slot T name id) (hty : typeOf (.builtin id) = pure (.type "method_descriptor")) (hm : MtR X id r) (ho : PE X o to)
    (hbase : attributeBase o name X.env (eval o X.env) = eval o X.env := by rfl) (hline : (apos.endLine == cpos.line) = true := by rfl) : PE X (.Call (.Attribute o name apos) [] [] cpos) (tBM0 X.K T r to) := by
  intro pins s σ H Q I h
  refine wpAny_Call_method0_late hbase hline (thn (ho pins s σ H _ I h) fun v s1 ⟨x, H1, I1, r1, ty, q1⟩ => ?_)
  obtain ⟨h1, h2⟩ := tyV_is I1 r1 ty
  exact ⟨T, id, pa, slot, hty, h1, h2, Calls.callWith_builtin rfl (PySem.evalArgs_none (hm pins s1 σ H1 x [] v [] Q I1 r1 .nil q1))⟩
theorem pe_bm (pa : PlainAttrs T) (slot : Slot T name id) (hty : typeOf (.builtin id) = pure (.type "method_descriptor")) (hm : MtR X id r) (ho : PE X o to) (ha : PA X (e :: es) t)
    (hbase : attributeBase o name X.env (eval o X.env) = eval o X.env := by rfl)
    (hfew : ((backTo cpos (starEach (e :: es) X.env)).all (fun x => !x.1) && (backToKw cpos (keywordEach [] X.env)).all (fun x => x.1.isSome)
      && decide ((e :: es).length + ([] : List Keyword).length + (if ([] : List Keyword).isEmpty then 0 else 1) < 30)) = true := by rfl)
    (hline : (apos.endLine == cpos.line) = true := by rfl) (hs : starEach (e :: es) X.env = (false, eval e X.env) :: starEach es X.env := by rfl) (hplain : (backTo cpos (starEach es X.env)).any (·.1) = false := by rfl) :
    PE X (.Call (.Attribute o name apos) (e :: es) [] cpos) (tBM X.K T r to t) := by
  intro pins s σ H Q I h
  refine wpAny_Call_method_late hbase hfew hline rfl (thn (ho pins s σ H _ I h) fun v s1 ⟨x, H1, I1, r1, ty, q1⟩ => ?_)
  obtain ⟨h1, h2⟩ := tyV_is I1 r1 ty
  refine ⟨T, id, pa, slot, hty, h1, h2, ?_⟩
  have hA := ha cpos pins s1 σ H1 _ I1 q1
  rw [hs] at hA ⊢
  refine Calls.callWith_builtin (by show (false || (backTo cpos (starEach es X.env)).any (·.1)) = false; rw [hplain] <;> rfl) (Calls.evalArgs_plain ?_)
  exact thn hA fun us s2 ⟨vs, H2, I2, r2, q2⟩ => hm pins s2 σ H2 x vs v us Q I2 r1 r2 q2
end
end L2
namespace L2
open PySem PySem.Spec PyProof.Rows
noncomputable def MtM (X : Cx) (id : String) (r : V → List V → Hp → VK → Prop) : Prop :=
  ∀ (pins : List (Addr × Obj)) (s : Shared) (σ : St) (H : Hp) (x : V) (xs : List V) (v : Value) (us : List Value) (Q : VK), Inv X pins σ H s → RelV x v → Vals xs us → r x xs H Q →
    wpAny (model X.prog X.w) X.A (call (.builtin id) (v :: us)) (EP X pins σ Q) X.xe s
theorem Vals.one : ∀ {x : V} {us : List Value}, Vals [x] us → ∃ u, us = [u] ∧ RelV x u
  | _, _, .cons r .nil => ⟨_, rfl, r⟩
theorem Vals.zero : ∀ {us : List Value}, Vals [] us → us = []
  | _, .nil => rfl
theorem Vals.dropLast {xs : List V} {us : List Value} (h : Vals xs us) : Vals xs.dropLast us.dropLast := by
  induction h with
  | nil => exact .nil
  | cons r t ih =>
    cases t with
    | nil => exact .nil
    | cons q t' => exact .cons r ih
theorem erase_last {α : Type} (l : List α) : l.eraseIdx (l.length - 1) = l.dropLast := by
  induction l with
  | nil => rfl
  | cons a r ih =>
    cases r with
    | nil => rfl
    | cons b r =>
      have e : (a :: b :: r).length - 1 = ((b :: r).length - 1) + 1 := by
        have h1 : (a :: b :: r).length = r.length + 2 := rfl
        have h2 : (b :: r).length = r.length + 1 := rfl
        omega
      rw [e, List.eraseIdx_cons_succ, ih]
      all_goals rfl
section
variable {X : Cx} {pins : List (Addr × Obj)} {σ : St} {H : Hp} {s : Shared} {l b : Addr} {xs ys zs : List V}
theorem Inv.lset {its its' : List Value} {n : Nat} {f : Array Value → Array Value} {t' : Nat} (I : Inv X pins σ H s) (hH : H l = some (.lst xs))
    (e : s.heap.get? l = some { cls := .type "list", data := .seq its.toArray n }) (hf : f its.toArray = its'.toArray) (hv : Vals ys its') (hz : ys.length ≤ sizeLine) :
    Inv X pins σ (upd H l (.lst ys)) { s with heap := s.heap.update l (Obj.mapSeq f), toks := t' } := by
  have q := PySem.IsL.update e f
  rw [hf] at q
  refine I.write (x := l) (e := l) (by rw [hH]; exact trivial) (.inl rfl) (fun b' u hb hu => (Heap.get?_update_other s.heap (Obj.mapSeq f) (Ne.symm hb)).trans hu) ⟨_, q⟩ ?_
  exact ⟨hz, its', _, hv, q⟩
theorem Inv.lnew {its : List Value} {t' : Nat} (I : Inv X pins σ H s) (hv : Vals ys its) (hz : ys.length ≤ sizeLine) :
    Inv X pins σ (upd H s.heap.objs.size (.lst ys)) { s with heap := s.heap.push { cls := .type "list", data := .seq its.toArray }, toks := t' } :=
  I.laid (fun _ _ q => Heap.get?_push_of_some _ q) (Nat.le_refl _) ⟨hz, its, 0, hv, Heap.get?_push_size _ rfl⟩
theorem Inv.fresh (I : Inv X pins σ H s) : H s.heap.objs.size = none := I.hok.fresh (Nat.le_refl _)
theorem Inv.lstM (I : Inv X pins σ H s) (hH : H l = some (.lst xs)) : xs.length ≤ sizeLine ∧ ∃ (its : List Value) (n : Nat), Vals xs its ∧ xs.length = its.length ∧ s.heap.get? l = some { cls := .type "list", data := .seq its.toArray n } := by
  obtain ⟨z, its, n, r, e⟩ := I.hok l _ hH
  exact ⟨z, its, n, r, r.length, e⟩
theorem notLongL {n : Nat} (h : n ≤ sizeLine) : Builtin.List.listTooLong n = false := by
  unfold Builtin.List.listTooLong
  exact decide_eq_false (by omega)
end
section
variable {X : Cx}
noncomputable def rAppend : V → List V → Hp → VK → Prop := fun x vs H Q => ∃ l xs y, x = .ref l ∧ vs = [y] ∧ H l = some (.lst xs) ∧ xs.length < sizeLine ∧ Q .non (upd H l (.lst (xs ++ [y])))
theorem mt_append : MtM X "list.append" rAppend := by
  intro pins s σ H x vs v us Q I rx rv h
  obtain ⟨l, xs, y, rfl, rfl, hH, hz, q⟩ := h
  cases rx
  obtain ⟨u, rfl, ru⟩ := rv.one
  obtain ⟨z, its, n, r, hl, e⟩ := I.lstM hH
  refine call_meets F.slot_list_append ⟨_, e, rfl⟩ F.entry_list_append (F.args_list_append_2 _ _) (PySem.list_append l its.toArray n u (by rw [List.size_toArray]; omega)) ⟨e, ?_⟩
  refine ⟨.non, _, I.lset (its' := its ++ [u]) hH e (by simp) (r.append (.cons ru .nil)) ?_, rfl, q⟩
  rw [List.length_append, List.length_singleton]
  omega
noncomputable def rExtend : V → List V → Hp → VK → Prop := fun x vs H Q => ∃ l b xs zs, x = .ref l ∧ vs = [.ref b] ∧ H l = some (.lst xs) ∧ H b = some (.lst zs) ∧ xs.length + zs.length ≤ sizeLine ∧ Q .non (upd H l (.lst (xs ++ zs)))
theorem mt_extend : MtM X "list.extend" rExtend := by
  intro pins s σ H x vs v us Q I rx rv h
  obtain ⟨l, b, xs, zs, rfl, rfl, hH, hB, hz, q⟩ := h
  cases rx
  obtain ⟨u, rfl, ru⟩ := rv.one
  cases ru
  obtain ⟨z, its, n, r, hl, e⟩ := I.lstM hH
  obtain ⟨z2, its2, n2, r2, hl2, e2⟩ := I.lstM hB
  have hsz : its.toArray.size + its2.toArray.size ≤ sizeLine := by rw [List.size_toArray, List.size_toArray]; omega
  have hlong : ¬ (!its.toArray.isEmpty && Builtin.List.listTooLong (its.toArray.size + its2.toArray.size)) = true := by
    rw [notLongL hsz, Bool.and_false]
    exact Bool.false_ne_true
  refine call_meets F.slot_list_extend ⟨_, e, rfl⟩ F.entry_list_extend (F.args_list_extend_2 _ _)
    (AutoSeq1.list_extend_list_list_0 l its.toArray n b its2.toArray n2 hlong (by rw [List.size_toArray]; omega) (by omega)) ⟨e, e2, ?_⟩
  refine ⟨.non, _, I.lset (its' := its ++ its2) hH e (by simp) (r.append r2) ?_, rfl, q⟩
  rw [List.length_append]
  omega
noncomputable def rPop : V → List V → Hp → VK → Prop := fun x vs H Q => ∃ l xs y, x = .ref l ∧ vs = [] ∧ H l = some (.lst xs) ∧ xs[xs.length - 1]? = some y ∧ Q y (upd H l (.lst xs.dropLast))
theorem mt_pop : MtM X "list.pop" rPop := by
  intro pins s σ H x vs v us Q I rx rv h
  obtain ⟨l, xs, y, rfl, rfl, hH, hy, q⟩ := h
  cases rx
  have hus := rv.zero
  subst hus
  obtain ⟨z, its, n, r, hl, e⟩ := I.lstM hH
  obtain ⟨u, hu, ru⟩ := r.get hy
  have hy' : its.toArray[its.toArray.size - 1]? = some u := by
    show its.toArray[its.length - 1]? = some u
    rw [← Array.getElem?_toList, ← hl]
    exact hu
  refine call_meets F.slot_list_pop ⟨_, e, rfl⟩ F.entry_list_pop (F.args_list_pop_1 _) (MeetsSeq.list_pop_last l its.toArray n u hy' (by rw [List.size_toArray]; omega)) ⟨e, ?_⟩
  refine ⟨y, _, I.lset (its' := its.dropLast) hH e ?_ r.dropLast ?_, ru, q⟩
  · show its.toArray.eraseIdxIfInBounds (its.toArray.size - 1) = its.dropLast.toArray
    rw [List.size_toArray, List.eraseIdxIfInBounds_toArray, erase_last]
  · rw [List.length_dropLast]
    omega
noncomputable def rCat : R2 := fun x y H Q => ∃ l b xs zs, x = .ref l ∧ y = .ref b ∧ H l = some (.lst xs) ∧ H b = some (.lst zs) ∧ xs.length + zs.length ≤ sizeLine ∧ ∀ p, H p = none → Q (.ref p) (upd H p (.lst (xs ++ zs)))
theorem op_cat : OpR X (binaryOp .Add) rCat := by
  intro pins s σ H x y v u Q I rx ry h
  obtain ⟨l, b, xs, zs, rfl, rfl, hH, hB, hz, q⟩ := h
  cases rx
  cases ry
  obtain ⟨z, its, n, r, hl, e⟩ := I.lstM hH
  obtain ⟨z2, its2, n2, r2, hl2, e2⟩ := I.lstM hB
  refine PySem.P.add_list e e2 ?_ (by rw [List.size_toArray, List.size_toArray]; omega)
  have ea : its.toArray ++ its2.toArray = (its ++ its2).toArray := by simp
  rw [ea]
  exact ⟨.ref _, _, I.lnew (t' := s.toks) (r.append r2) (by rw [List.length_append]; omega), rfl, q _ I.fresh⟩
end
end L2
namespace Att
open PySem PySem.W PySem.Calls PyProof.Rows
theorem ints_of_wellAll {P : Params} {h : Heap} : ∀ (ns : List Int) (vs : List Value), WellAll P h vs (ns.map WData.int) → IntsAre vs ns := by
  intro ns
  induction ns with
  | nil =>
    intro vs w
    rw [List.map_nil] at w
    cases w
    exact .nil
  | cons n ns ih =>
    intro vs w
    rw [List.map_cons] at w
    cases w with
    | cons a b =>
      cases a
      exact .cons _ _ (ih _ b)
theorem script_of {l : OpenLaw} {n : Nat} (hn : l.most = some n) {P : Params} {h : Heap} {args : List WData} {vals : List Value}
    (hpre : l.row.toRowW.claim.pre args = true) (hwl : WellAll P h vals args) :
    ∃ a vs ns, vals = [Value.ref a] ∧ args = [WData.list (ns.map WData.int)] ∧ h.get? a = some { cls := .type "list", data := .seq vs.toArray } ∧ IntsAre vs ns ∧ ns.length ≤ n := by
  have hsh : WShape.hasAll [] args [.list .int] = true := (pre_splitW hpre).1
  have hc : l.pre.holds [] { args := args } = true := (pre_splitW hpre).2
  obtain ⟨d, r, rfl, h1, h2⟩ := hasAllW_cons hsh
  obtain rfl := hasAllW_nil h2
  obtain ⟨xs, rfl, h3⟩ := hasW_list h1
  obtain ⟨ns, rfl⟩ := items_int h3
  have hlen : ns.length ≤ n := by
    unfold OpenLaw.pre at hc
    have h4 : (WTm.not (.lt (.lit (.int (n : Int))) (.len (.arg 0)))).holds [] { args := [.list (ns.map .int)] } = true := by
      have h4 := (holds_andW hc).1
      rw [hn] at h4
      exact h4
    have h5 := condW_of h4 (w_not (w_lt w_lit (w_len_list (w_arg rfl))))
    rw [List.length_map] at h5
    refine Nat.le_of_not_lt fun q => ?_
    have q' : (n : Int) < ((ns.length : Nat) : Int) := by omega
    first
      | (rw [decide_eq_true q'] at h5; exact absurd h5 (by decide))
      | (simp at h5; omega)
  cases hwl with
  | cons w1 w2 =>
    cases w2
    cases w1 with
    | list ho hall => exact ⟨_, _, ns, rfl, rfl, ho, ints_of_wellAll ns _ hall, hlen⟩
theorem post_true (l : OpenLaw) (args : List WData) : l.row.toRowW.claim.post args (.bool true) args = true :=
  postW_of (r := l.row.toRowW) (X := (true == true))
    (show WShape.has [] (.bool true) .bool = true by first | rfl | decide | simp [WShape.has, WShape.arms, WShape.armsAll])
    (show (WTm.eq .res (.lit (.bool true))).value [] { args := args, res := some (.bool true), after := args } = some (.bool (true == true)) from w_eq_bool (w_res rfl) w_lit) rfl
theorem attach_call {l : OpenLaw} {n : Nat} {q : Program} {loose : List Str} {XP : (Str → Option Value) → Heap → Prop} {YP : World → Heap → Prop} {d : DefRec}
    (hn : l.most = some n) (hdf : d.params.defaults = [])
    (call : ∀ (w : World) (s₀ s₁ : Shared) (mg mb : Str → Option Value) (fa : Addr) (o : Obj) (pm cd doc : Value) (a : Addr) (vs : List Value) (ns : List Int),
      Ground q loose [] XP w s₀ mg mb s₁.heap → YP w s₁.heap →
      s₁.heap.get? fa = some o → o.data = .func (docDef d.name d.params d.body d.scope pm cd doc) → s₁.heap.CodeRec cd d.name → mg d.name = some (.ref fa) →
      s₁.heap.get? a = some { cls := .type "list", data := .seq vs.toArray } → IntsAre vs ns → ns.length ≤ n → s₁.gens = #[] →
      codeAny (model l.prog w) callerA (.call (.ref fa) ⟨[.ref a], []⟩) (fun r s' => r = .ok (.ret (.bool true)) ∧ OldK s₁.heap s'.heap ∧ s'.os = s₁.os ∧ AllBare s'.gens) s₁) :
    WalkO q loose XP YP l.row.toRowW d [] (fun f vs => PySem.call f vs) := by
  intro w s₀ s₁ mg mb G Y fa o pm cd doc dV kV ho hd hcd hD hmg hg args vals as hpre hlay hrd hwl hlo
  obtain rfl : dV = .none := Dflts.none hD hdf
  obtain rfl : kV = .none := Dflts.noKw hD
  obtain ⟨a, vs, ns, rfl, rfl, hobj, hints, hlen⟩ := script_of hn hpre hwl
  refine enter_call (codeAny_mono (call w s₀ s₁ mg mb fa o pm cd doc a vs ns G Y ho (fd_plain hd) hcd hmg hobj hints hlen hg) fun r s' hq => ?_)
  obtain ⟨rfl, h2, h3, h4⟩ := hq
  exact ⟨.inl ⟨.bool true, .bool true, [], rfl, fun _ => rfl, .bool true, post_true l _, fun _ => ⟨List.Pairwise.nil, fun _ hm => (nomatch hm)⟩⟩, h2, h3, h4⟩
end Att
namespace L2
open PySem PySem.Spec PyProof.Rows
theorem vals_ints : ∀ {vs : List Value} {ns : List Int}, IntsAre vs ns → Vals (ns.map V.int) vs
  | _, _, .nil => .nil
  | _, _, .cons n t h => .cons ⟨t, rfl⟩ (vals_ints h)
noncomputable def Only (H : Hp) : Prop := ∀ b, H b = none ∨ ∃ o xs, H b = some (.frz o (.lst xs))
theorem law_call {P : Program} {w : World} {K : PySem.W.Frag} {mg mb : Str → Option Value} {CX : CXT} {k : Nat} {fa a : Addr} {fd : FuncData} {x : Str} {sp : Sp} {s₁ : Shared} {vs : List Value} {ns : List Int}
    (KX : K.In s₁.heap) (hns : s₁.heap.Ns mainGlobals mg) (hb : s₁.heap.Ns builtinsNs mb) (hbb : ∀ x : Str, x ≠ "__name__" → mb x = bootBuiltins x) (hlim : s₁.heap.NoLimit) (hg : s₁.gens = #[])
    (ha : s₁.heap.get? a = some { cls := .type "list", data := .seq vs.toArray }) (hi : IntsAre vs ns) (hl : ns.length ≤ sizeLine) (hr : Room k callerA)
    (F : ∀ base : Heap, K.In base → base.Ns mainGlobals mg → FnOk P w K mg base CX k fa fd [x] sp) (hbind : ∀ (s : Shared) (u : Value), BindsTo s fd ⟨[u], []⟩ [(x, u)])
    (hsp : ∀ H : Hp, Only H → SqL K H a (ns.map V.int) → sp [.ref a] H (fun v _ => v = .bl true) fun _ _ _ => False)
    (hCX : ∀ H e s', CX [] H s₁ (fun _ _ _ => False) e s' → False) :
    codeAny (model P w) callerA (.call (.ref fa) ⟨[.ref a], []⟩) (fun r s' => r = .ok (.ret (.bool true)) ∧ OldK s₁.heap s'.heap ∧ s'.os = s₁.os ∧ AllBare s'.gens) s₁ := by
  have rv := vals_ints hi
  have lenV := hi.length
  have core : ∀ H : Hp, Only H → SqL K H a (ns.map V.int) → HOk P w H s₁.heap → (∀ b, H b ≠ none → b = a) → (H a ≠ none → K.lookup a = none) →
      codeAny (model P w) callerA (.call (.ref fa) ⟨[.ref a], []⟩) (fun r s' => r = .ok (.ret (.bool true)) ∧ OldK s₁.heap s'.heap ∧ s'.os = s₁.os ∧ AllBare s'.gens) s₁ := by
    intro H hO hS hok hA hK
    have base_of : ∀ {b : Addr} {o : Obj}, s₁.heap.get? b = some o → H b = none → (hidT s₁.heap H).get? b = some o := fun e n => hidT_get e n
    have noA : ∀ {b : Addr} {o : Obj} {es : Array DictEntry} {ep : Nat}, s₁.heap.get? b = some o → o.data = .dict es ep → H b = none := fun {b o es ep} e d => by
      cases q : H b with
      | none => rfl
      | some u =>
        have e' : b = a := hA b (by rw [q]; simp)
        subst e'
        rw [ha] at e; cases e
        have d' : Data.seq vs.toArray _ = Data.dict es ep := d
        cases d'
    have nsK : ∀ {b : Addr} {m : Str → Option Value}, s₁.heap.Ns b m → (hidT s₁.heap H).Ns b m := fun {b m} ⟨o, es, ep, e, d, r⟩ => ⟨o, es, ep, base_of e (noA e d), d, r⟩
    have hKb : K.In (hidT s₁.heap H) := fun b o e => base_of (KX b o e) (by
      cases q : H b with
      | none => rfl
      | some u =>
        have e' : b = a := hA b (by rw [q]; simp)
        subst e'
        rw [hK (by rw [q]; simp)] at e; cases e)
    have hM : Mod K mg (hidT s₁.heap H) := ⟨hKb, nsK hns, ⟨mb, nsK hb, hbb⟩, let ⟨mc, h1, h2⟩ := hlim; ⟨mc, nsK h1, h2⟩⟩
    have e0 : Env0 P w K mg (hidT s₁.heap H) callerA [] s₁ H := ⟨rfl, hM, fun b o e => of_hidT e, Nat.le_of_eq (hidT_size _ _), trivial, fun b hb => absurd (show b ∈ ([] : List Addr) from hb) (by simp), hok, .of_eq hg⟩
    refine codeAny_mono ((F _ hKb (nsK hns)).run callerA [] s₁ H ⟨[.ref a], []⟩ [.ref a] [.ref a] _ _ hr e0 (hbind s₁ (.ref a)) (.cons rfl .nil) (hsp H hO hS)) fun r s' h => ?_
    cases r with
    | error e => exact (hCX H e s' h).elim
    | ok fl =>
      cases fl with
      | next => exact False.elim h
      | brk => exact False.elim h
      | cont => exact False.elim h
      | ret u =>
        obtain ⟨v, H', os, bare, un, hok', r', q⟩ := h
        have q' : v = .bl true := q
        subst q'
        obtain rfl : u = Value.bool true := r'
        refine ⟨rfl, OldK.of_keep fun b o e => ?_, os, bare⟩
        cases q : H b with
        | none => exact un.keep b o e q (by intro z; exact absurd (show b ∈ ([] : List Addr) from z) (by simp)) (by simp)
        | some u =>
          rcases hO b with z | ⟨ob, xs, z⟩
          · rw [q] at z; cases z
          · have z2 := un.frzs b ob _ z
            obtain ⟨e1, _⟩ := hok b _ z
            obtain ⟨e2, _⟩ := hok' b _ z2
            rw [e] at e1; cases e1
            exact e2
  cases hk : K.lookup a with
  | some o =>
    have e := KX a o hk
    rw [ha] at e
    cases e
    refine core (fun _ => none) (fun _ => .inl rfl) (.inr ⟨_, vs.toArray, _, hk, rfl, rfl, rfl, by rw [List.size_toArray, lenV]; exact hl, by simpa using rv⟩) (fun b u z => by have z' : (none : Option HO) = some u := z; cases z') (fun b z => absurd rfl z) fun z => absurd rfl z
  | none =>
    refine core (fun b => if b = a then some (.frz { cls := .type "list", data := .seq vs.toArray } (.lst (ns.map V.int))) else none) (fun b => ?_) (.inl (.inr ⟨{ cls := .type "list", data := .seq vs.toArray }, if_pos rfl⟩)) (fun b u z => ?_) (fun b z => ?_) fun _ => hk
    · by_cases hb : b = a
      · exact .inr ⟨_, _, if_pos hb⟩
      · exact .inl (if_neg hb)
    · by_cases hb : b = a
      · have z' := (if_pos hb).symm.trans z
        cases z'
        subst hb
        exact ⟨ha, by rw [List.length_map]; exact hl, vs, _, rv, ha⟩
      · have z' := (if_neg hb).symm.trans z
        cases z'
    · by_cases hb : b = a
      · exact hb
      · exact absurd (if_neg hb) z
end L2
namespace L2
open PySem PySem.Spec PyProof.Rows
end L2
namespace L2
open PySem PySem.Spec PyProof.Rows
noncomputable def inClass (s : Stmt) (j : Nat) : Stmt := match s with
  | .ClassDef _ _ _ body _ _ _ _ _ _ _ => body.getD j (.Pass ⟨0, 0, 0, 0⟩)
  | _ => .Pass ⟨0, 0, 0, 0⟩
noncomputable def defArgs (s : Stmt) : Arguments := match s with
  | .FunctionDef _ a _ _ _ _ _ _ _ _ => a
  | _ => { posonlyargs := [], args := [], vararg := none, kwonlyargs := [], kw_defaults := [], kwarg := none, defaults := [] }
noncomputable def defBody (s : Stmt) : List Stmt := match s with
  | .FunctionDef _ _ b _ _ _ _ _ _ _ => b
  | _ => []
noncomputable def defScope (s : Stmt) : Scope := match s with
  | .FunctionDef _ _ _ _ _ _ sc _ _ _ => sc
  | _ => { kind := .function, names := [], isGenerator := false, isCoroutine := false }
noncomputable abbrev CX0 : CXT := fun _ _ _ _ _ _ => False
noncomputable abbrev E0 : XK := fun _ _ _ => False
theorem pass0 {X : Cx} : Passes CX0 X E0 := fun _ _ _ _ _ _ _ h => h.elim
structure Fun (K : PySem.W.Frag) (x qual : Str) (st : Stmt) (f : Addr) (fd : FuncData) : Prop where
  ex : ∃ (oc : Value) (od : Option Addr) (kV doc pm : Value) (an : Option Addr) (cdv ct : Value) (osl : Array (Option Value)),
    fd = PySem.W.fnOf x qual (defArgs st) (defBody st) (defScope st) .none kV doc pm an cdv ct ∧ K.lookup f = some ⟨oc, od, .func fd, osl⟩ ∧ PySem.W.codeIn K cdv qual = true
  kp : PySem.W.keepIn K (.ref f) = true
section
variable {P : Program} {w : World} {K : PySem.W.Frag} {mg : Str → Option Value} {base : Heap}
theorem Fun.ok {x qual : Str} {st : Stmt} {f : Addr} {fd : FuncData} {N ps : List Str} {k : Nat} {sp : Sp} (F : Fun K x qual st f fd) (S : FnScope N ps (defScope st)) (len : ∀ vs H Q E, sp vs H Q E → vs.length = ps.length)
    (hbody : ∀ (cdv : Value) (A : Around) (outer : List Env) (s : Shared) (H : Hp) (vs : List V) (Q : VK) (E : XK), Room k (A.deeper (envOfC qual (defScope st) s.heap.objs.size f cdv)) → sp vs H Q E →
      ∃ t, PSs (cxOf CX0 P w K mg base N qual (defScope st) f cdv A outer s H E).nox (defBody st) t ∧ t { nx := fun _ H' => Q .non H', rt := Q } (start N vs) H) : FnOk P w K mg base CX0 (k + 1) f fd ps sp := by
  obtain ⟨oc, od, kV, doc, pm, an, cdv, ct, osl, rfl, lk, hcd⟩ := F.ex
  refine fn_of lk hcd S len fun A outer s H vs Q E hr hsp => ?_
  obtain ⟨t, h, q⟩ := hbody cdv A outer s H vs Q E hr hsp
  exact ⟨t, h.nox, q⟩
theorem Fun.binds {x qual : Str} {st : Stmt} {f : Addr} {fd : FuncData} {ps : List Str} (F : Fun K x qual st f fd)
    (h : ∀ (kV doc pm : Value) (an : Option Addr) (cdv ct : Value) (us : List Value), us.length = ps.length → bindArgs (PySem.W.fnOf x qual (defArgs st) (defBody st) (defScope st) .none kV doc pm an cdv ct) ⟨us, []⟩ = pure (ps.zip us)) : Binds K fd ps [] := by
  obtain ⟨oc, od, kV, doc, pm, an, cdv, ct, osl, rfl, lk, hcd⟩ := F.ex
  exact .all (h kV doc pm an cdv ct)
theorem fun_mk {x qual : Str} {st : Stmt} {f : Addr} {oc : Value} {od an : Option Addr} {osl : Array (Option Value)} {kV doc pm cdv ct : Value} (l : K.lookup f = some ⟨oc, od, .func (PySem.W.fnOf x qual (defArgs st) (defBody st) (defScope st) .none kV doc pm an cdv ct), osl⟩)
    (c : PySem.W.codeIn K cdv qual = true) (k : PySem.W.keepIn K (.ref f) = true) : Fun K x qual st f (PySem.W.fnOf x qual (defArgs st) (defBody st) (defScope st) .none kV doc pm an cdv ct) := ⟨⟨oc, od, kV, doc, pm, an, cdv, ct, osl, rfl, l, c⟩, k⟩
end
theorem hu_of {A : Around} {k : Nat} (hr : Room k A) : A.units + 1 < cLine := Nat.lt_of_le_of_lt (Nat.add_le_add_left (by decide : 1 ≤ 64) _) hr.units
theorem small1000 {n : Nat} (h : n ≤ 1000) : n < sizeLine := Nat.lt_of_le_of_lt h (by decide)
section
variable {X : Cx}
theorem pv (i : Nat) {x : Str} {pos : Pos} (hN : X.N[i]? = some x := by rfl) (hv : Vis X.env.scope x := by first | exact Or.inl rfl | exact Or.inr (Or.inl rfl) | exact Or.inr (Or.inr rfl)) (hd : (x == ("__debug__" : Str)) = false := by decide)
    (hcd : (x == ("__classdict__" : Str)) = false := by decide) : PE X (.Name x pos) (tVar i) := pe_var hN hv hd hcd
end
theorem iteT {A B : Prop} (h : A) : if true = true then A else B := by
  rw [if_pos rfl]
  exact h
theorem ite2 {c A B : Prop} [Decidable c] (h1 : c → A) (h2 : ¬ c → B) : if c then A else B := by
  by_cases h : c
  · rw [if_pos h]
    exact h1 h
  · rw [if_neg h]
    exact h2 h
noncomputable def Same (H H' : Hp) : Prop := ∀ b o, H b = some o → H' b = some o
theorem Same.refl (H : Hp) : Same H H := fun _ _ h => h
theorem Same.trans {H H1 H2 : Hp} (a : Same H H1) (b : Same H1 H2) : Same H H2 := fun c o h => b c o (a c o h)
theorem Same.free {H H' : Hp} (e : Same H H') {l : Addr} (h : H' l = Option.none) : H l = Option.none := by
  cases q : H l with
  | none => rfl
  | some o =>
    rw [e l o q] at h
    cases h
theorem Same.seq {K : PySem.W.Frag} {H H' : Hp} {a : Addr} {xs : List V} (e : Same H H') (h : SqL K H a xs) : SqL K H' a xs := by
  rcases h with (h | ⟨o, h⟩) | h
  · exact .inl (.inl (e _ _ h))
  · exact .inl (.inr ⟨o, e _ _ h⟩)
  · exact .inr h
end L2
set_option Elab.async false
set_option linter.all false
set_option maxRecDepth 100000
namespace L2
open PySem PySem.Spec PyProof.Rows
section
variable {κ : Type} [DecidableEq κ]
noncomputable def valV (kvs : List (κ × V)) (k : κ) : Option V := (kvs.find? fun kv => decide (kv.1 = k)).map (·.2)
noncomputable def putK (kvs : List (κ × V)) (k : κ) (v : V) : List (κ × V) :=
  if (kvs.any fun kv => decide (kv.1 = k)) = true then kvs.map (fun kv => if kv.1 = k then (kv.1, v) else kv) else kvs ++ [(k, v)]
theorem valV_pos {p : κ × V} {r : List (κ × V)} {k : κ} (e : p.1 = k) : valV (p :: r) k = some p.2 := by simp [valV, List.find?_cons, e]
theorem valV_neg {p : κ × V} {r : List (κ × V)} {k : κ} (e : ¬ p.1 = k) : valV (p :: r) k = valV r k := by simp [valV, List.find?_cons, e]
theorem length_putK (kvs : List (κ × V)) (k : κ) (v : V) : (putK kvs k v).length ≤ kvs.length + 1 := by
  unfold putK
  split
  · rw [List.length_map]; omega
  · rw [List.length_append, List.length_cons, List.length_nil]; omega
theorem RelO.isSome_eq {o : Option V} {u : Option Value} (r : RelO o u) : o.isSome = u.isSome := by
  cases o with
  | none => cases u with
    | none => rfl
    | some _ => exact (show False from r).elim
  | some _ => cases u with
    | none => exact (show False from r).elim
    | some _ => rfl
theorem KV.val {kvs : List (κ × V)} {vs : List (κ × Value)} (r : KV kvs vs) (k : κ) : RelO (valV kvs k) (valueAt vs k) := by
  unfold KV at r
  induction r with
  | nil => exact True.intro
  | @cons p q ps qs h t ih =>
    obtain ⟨h1, h2⟩ := h
    by_cases e : p.1 = k
    · have e' : q.1 = k := h1.symm.trans e
      have b : valueAt (q :: qs) k = some q.2 := by simp [valueAt, List.find?_cons, e']
      rw [valV_pos e, b]; exact h2
    · have e' : ¬ q.1 = k := fun z => e (h1.trans z)
      have b : valueAt (q :: qs) k = valueAt qs k := by simp [valueAt, List.find?_cons, e']
      rw [valV_neg e, b]; exact ih
theorem KV.any {kvs : List (κ × V)} {vs : List (κ × Value)} (r : KV kvs vs) (k : κ) : (kvs.any fun kv => decide (kv.1 = k)) = vs.any fun kv => decide (kv.1 = k) := by
  unfold KV at r
  induction r with
  | nil => rfl
  | cons h t ih => rw [List.any_cons, List.any_cons, ih, h.1]
theorem KV.repl {kvs : List (κ × V)} {vs : List (κ × Value)} (r : KV kvs vs) (k : κ) {y : V} {u : Value} (ry : RelV y u) :
    KV (kvs.map fun kv => if kv.1 = k then (kv.1, y) else kv) (vs.map fun kv => if kv.1 = k then (kv.1, u) else kv) := by
  unfold KV at r ⊢
  induction r with
  | nil => exact .nil
  | @cons p q ps qs h t ih =>
    rw [List.map_cons, List.map_cons]
    refine .cons ?_ ih
    obtain ⟨h1, h2⟩ := h
    by_cases e : p.1 = k
    · rw [if_pos e, if_pos (h1.symm.trans e)]; exact ⟨h1, ry⟩
    · rw [if_neg e, if_neg (fun z => e (h1.trans z))]; exact ⟨h1, h2⟩
theorem KV.put {kvs : List (κ × V)} {vs : List (κ × Value)} (r : KV kvs vs) (k : κ) {y : V} {u : Value} (ry : RelV y u) : KV (putK kvs k y) (stored vs k u) := by
  unfold putK stored
  rw [r.any k]
  by_cases e : (vs.any fun kv => decide (kv.1 = k)) = true
  · rw [if_pos e, if_pos e]; exact r.repl k ry
  · rw [if_neg e, if_neg e]; exact Paired.snoc r ⟨rfl, ry⟩
end
theorem kV_is {P : Program} {w : World} {k : Key} {u : Value} (r : RelV (kV k) u) : (mixKind P w).is k u = true := by
  cases k with
  | inl i => obtain ⟨t, e⟩ := (show ∃ t, u = Value.int i t from r); subst e; exact mixKind_int P w i t
  | inr x => obtain ⟨t, e⟩ := (show ∃ t, u = Value.str x t from r); subst e; exact mixKind_str P w x t
theorem items_are {P : Program} {w : World} : ∀ {ks : List Key} {us : List Value}, Vals (ks.map kV) us → ItemsAre (mixKind P w) ks us
  | [], _, r => by rw [List.map_nil] at r; cases r; exact .nil
  | k :: ks, _, r => by
    rw [List.map_cons] at r
    cases r with
    | cons h t => exact .cons (kV_is h) (items_are t)
noncomputable abbrev KT (H : Hp) : List (List Key × V) → List (List Key × Addr × Value) → Prop := Paired fun p q => p.1 = q.1 ∧ H q.2.1 = some (.tup (p.1.map kV)) ∧ RelV p.2 q.2.2
theorem KT.val {H : Hp} {kvs : List (List Key × V)} {xs : List (List Key × Addr × Value)} (r : KT H kvs xs) (k : List Key) : RelO (valV kvs k) ((atKey xs k).map (·.2)) := by
  induction r with
  | nil => exact True.intro
  | @cons p q ps qs h t ih =>
    obtain ⟨h1, _, h2⟩ := h
    by_cases e : p.1 = k
    · have e' : q.1 = k := h1.symm.trans e
      have b : atKey (q :: qs) k = some q.2 := by simp [atKey, List.find?_cons, e']
      rw [valV_pos e, b]; exact h2
    · have e' : ¬ q.1 = k := fun z => e (h1.trans z)
      have b : atKey (q :: qs) k = atKey qs k := by simp [atKey, List.find?_cons, e']
      rw [valV_neg e, b]; exact ih
section
variable {P : Program} {w : World} {H : Hp} {h : Heap} {a : Addr}
theorem rd_of {u : HO} (ok : HOk P w H h) (e : Rd H a u) : ObjOk P w H h a u := e.ok ok
theorem dk_rd {kvs : List (Key × V)} (ok : HOk P w H h) (e : Rd H a (.dK kvs)) : kvs.length ≤ sizeLine ∧ (a == sysModules) = false ∧ ∃ vs, KV kvs vs ∧ h.DictOf (mixKind P w) a vs :=
  show ObjOk P w H h a (.dK kvs) from rd_of ok e
theorem dk_of {kvs : List (Key × V)} (ok : HOk P w H h) (e : H a = some (.dK kvs)) : kvs.length ≤ sizeLine ∧ (a == sysModules) = false ∧ ∃ vs, KV kvs vs ∧ h.DictOf (mixKind P w) a vs := dk_rd ok (.inl e)
theorem key_of {ks : List Key} (ok : HOk P w H h) (e : H a = some (.tup (ks.map kV))) : (tupleKind (mixKind P w)).is h ks a := by
  obtain ⟨_, its, r, o, h1, h2, n, h3⟩ := (show ObjOk P w H h a (.tup (ks.map kV)) from ok a _ e)
  exact ⟨o, its.toArray, n, h1, h2, h3, by simpa using items_are r⟩
theorem dt_rd {kvs : List (List Key × V)} (ok : HOk P w H h) (e : Rd H a (.dT kvs)) : kvs.length ≤ sizeLine ∧ (a == sysModules) = false ∧
    ∃ xs, KT H kvs xs ∧ h.DictOfH (tupleKind (mixKind P w)) a xs := by
  obtain ⟨z, y, xs, r, o, es, ep, h1, h2, h3, h4, h5⟩ := (show ObjOk P w H h a (.dT kvs) from rd_of ok e)
  refine ⟨z, y, xs, r, o, es, ep, h1, h2, h3, h4, fun x hx => ?_, h5⟩
  have all : ∀ {l : List (List Key × V)} {m : List (List Key × Addr × Value)}, KT H l m → ∀ x ∈ m, (tupleKind (mixKind P w)).is h x.1 x.2.1 := by
    intro l m q
    induction q with
    | nil => intro x hx; exact nomatch hx
    | @cons p q ps qs hq t ih =>
      intro x hx
      rcases List.mem_cons.mp hx with e | hx
      · subst e
        exact key_of ok (by rw [← hq.1]; exact hq.2.1)
      · exact ih x hx
  exact all r x hx
end
noncomputable def DGet (H : Hp) (a : Addr) (y : V) (r : Option V) : Prop :=
  (∃ kvs k, Rd H a (.dK kvs) ∧ y = kV k ∧ r = valV kvs k) ∨ ∃ kvs k b, Rd H a (.dT kvs) ∧ y = .ref b ∧ H b = some (.tup (k.map kV)) ∧ r = valV kvs k
theorem DGet.k {H : Hp} {a : Addr} {kvs : List (Key × V)} {k : Key} (e : H a = some (.dK kvs)) : DGet H a (kV k) (valV kvs k) := .inl ⟨kvs, k, .inl e, rfl, rfl⟩
section
variable {X : Cx} {pins : List (Addr × Obj)} {σ : St} {H : Hp} {s : Shared} {a : Addr} {y v : V} {u r : Value} {o : Option V} {A : Around} {E : Value → Shared → Prop}
theorem Inv.big (I : Inv X pins σ H s) : sysModules < s.heap.objs.size := by
  have h : mainGlobals < s.heap.objs.size := (I.mod.glob.keeps I.bk).lt
  exact Nat.lt_trans (by decide) h
theorem d_getItem {Q : Value → Shared → Prop} (hu : A.units + 1 < cLine) (I : Inv X pins σ H s) (g : DGet H a y (some v)) (ry : RelV y u) (h : ∀ w' s', Inv X pins σ H s' → RelV v w' → Q w' s') :
    wpAny (model X.prog X.w) A (getItem (.ref a) u) Q E s := by
  rcases g with ⟨kvs, k, e, ey, l⟩ | ⟨kvs, k, b, e, ey, eb, l⟩
  · subst ey
    obtain ⟨z, hd, vs, rel, dd⟩ := dk_rd I.hok e
    obtain ⟨w', hw, rw'⟩ := RelO.some_of (v := v) (o := valueAt vs k) (by rw [l]; exact rel.val k)
    exact wpAny_getItem_of (kV_is ry) dd.mapOf hw (h w' _ (I.tok _) rw')
  · subst ey
    cases (show u = Value.ref b from ry)
    obtain ⟨z, hd, xs, rel, dd⟩ := dt_rd I.hok e
    obtain ⟨w', hw, rw'⟩ := RelO.some_of (v := v) (o := (atKey xs k).map (·.2)) (by rw [l]; exact rel.val k)
    obtain ⟨p, hp, hp2⟩ := Option.map_eq_some_iff.mp hw
    refine wpAny_getItem_heap (tupleKind_room_in1 hu) (key_of I.hok eb) dd hp ?_
    rw [hp2]
    exact h w' _ (I.tok _) rw'
theorem d_write {h' : Heap} {t' : Nat} {ob : HO} (I : Inv X pins σ H s) (mu : Mut (H a)) (hs : Heap.SameBut a s.heap h') (he : ∃ q, h'.get? a = some q) (new : ObjOk X.prog X.w (upd H a ob) h' a ob) :
    Inv X pins σ (upd H a ob) { s with heap := h', toks := t' } :=
  I.write (x := a) (e := a) mu (.inl rfl) (fun b q hb z => (hs.2 b hb).trans z) he new
theorem dk_new {P : Program} {w : World} {H' : Hp} {h' : Heap} {kvs : List (Key × V)} {vs : List (Key × Value)} (z : kvs.length ≤ sizeLine) (hd : (a == sysModules) = false) (rel : KV kvs vs) (dd : h'.DictOf (mixKind P w) a vs) :
    ObjOk P w H' h' a (.dK kvs) := ⟨z, hd, vs, rel, dd⟩
end
noncomputable def NoSl (i : Expr) : Prop := ∀ ov iv, subscripted i false ov iv = operate [ov, iv] (getItem ov iv)
theorem subD_of {prog : Program} {w : World} {A : Around} {E : Value → Shared → Prop} {s : Shared} {env : Env} {value slice : Expr} {pos : Pos} {T id : String} {Q : Value → Shared → Prop}
    (hl : typeLookup (.type T) "__getitem__" = pure (some (.builtin id))) (hs : NoSl slice)
    (h : wpAny (model prog w) A (eval value env) (fun o s₁ => wpAny (model prog w) A (eval slice env) (fun i s₂ => s₂.TypeIs o T ∧ wpAny (model prog w) A (getItem o i) Q E s₂) E s₁) E s) :
    wpAny (model prog w) A (eval (.Subscript value slice pos) env) Q E s := by
  refine Subscript_ (wpAny_mono h (fun o s₁ h₁ => wpAny_mono h₁ (fun i s₂ h₂ => ?_) fun _ _ x => x) fun _ _ x => x)
  obtain ⟨hT, h₂⟩ := h₂
  unfold subscriptTail
  refine wpAny_bind ?_
  rw [getitemInPython_of_ne hT.not_modules]
  refine wpAny_bind (wpAny_specialOf hT hl ?_)
  have fin : wpAny (model prog w) A (subscripted slice false o i) (fun r s₃ => wpAny (model prog w) A (letTemporaryGo value o r >>= fun _ => pure r) Q E s₃) E s₂ := by
    rw [hs o i]
    exact wpAny_operating (wpAny_mono h₂ (fun r s₃ h₃ => wpAny_bind (wpAny_letTemporaryGo (wpAny_pure h₃))) fun _ _ x => x)
  first
    | exact wpAny_pure (wpAny_bind fin)
    | exact wpAny_bind (wpAny_pure (wpAny_bind fin))
    | exact wpAny_bind fin
theorem dict_typeIs {X : Cx} {pins : List (Addr × Obj)} {σ : St} {H : Hp} {s : Shared} {a : Addr} {y : V} {o : Option V} (I : Inv X pins σ H s) (g : DGet H a y o) : s.TypeIs (.ref a) "dict" := by
  rcases g with ⟨kvs, k, e, _, _⟩ | ⟨kvs, k, b, e, _, _, _⟩
  · obtain ⟨_, _, vs, _, dd⟩ := dk_rd I.hok e
    exact dd.typeIs
  · obtain ⟨_, _, xs, _, dd⟩ := dt_rd I.hok e
    exact dd.typeIs
noncomputable def tDGet (td ty : TE) : TE := fun σ H Q => td σ H fun x H1 => ty σ H1 fun y H2 => ∃ a v, x = .ref a ∧ DGet H2 a y (some v) ∧ Q v H2
section
variable {X : Cx} {o i e value : Expr} {pos pos' tpos : Pos} {td ty tv : TE}
theorem pe_dget (hu : X.A.units + 1 < cLine) (ho : PE X o td) (hi : PE X i ty) (hs : NoSl i) : PE X (.Subscript o i pos) (tDGet td ty) := by
  intro pins s σ H Q I h
  refine subD_of PySem.F.slot_dict_getitem.lookup hs (thn (ho pins s σ H _ I h) fun u s1 ⟨x, H1, I1, rx, q1⟩ => thn (hi pins s1 σ H1 _ I1 q1) fun iv s2 ⟨y, H2, I2, ry, a, v, ex, g, q2⟩ => ?_)
  subst ex
  obtain rfl : u = Value.ref a := rx
  exact ⟨dict_typeIs I2 g, d_getItem hu I2 g ry fun w' s3 I3 rw' => ⟨v, H2, I3, rw', q2⟩⟩
end
theorem dk_empty {P : Program} {w : World} {H : Hp} (h : Heap) (hb : sysModules < h.objs.size) : ObjOk P w H (h.push { cls := .type "dict", data := .dict #[] }) h.objs.size (.dK []) :=
  ⟨Nat.zero_le _, beq_eq_false_iff_ne.mpr (Ne.symm (Nat.ne_of_lt hb)), [], .nil, Heap.DictOf.new h⟩
noncomputable def tPairs : List (TE × TE) → St → Hp → (List (V × V) → Hp → Prop) → Prop
  | [], _, H, Q => Q [] H
  | (tk, tv) :: r, σ, H, Q => tk σ H fun x H1 => tv σ H1 fun y H2 => tPairs r σ H2 fun ps H3 => Q ((x, y) :: ps) H3
noncomputable abbrev VV : List (V × V) → List (Value × Value) → Prop := Paired fun p q => RelV p.1 q.1 ∧ RelV p.2 q.2
noncomputable def PPs (X : Cx) (pos : Pos) (keys : List (Option Expr)) (values : List Expr) (trs : List (TE × TE)) : Prop :=
  ∀ (pins : List (Addr × Obj)) (s : Shared) (σ : St) (H : Hp) (Q : List (V × V) → Hp → Prop), Inv X pins σ H s → tPairs trs σ H Q →
    wpAny (model X.prog X.w) X.A (evalPairs (pairTrees keys values X.env pos)) (fun vs s' => ∃ ps H', Inv X pins σ H' s' ∧ VV ps vs ∧ Q ps H') X.xe s
theorem pps_nil {X : Cx} {pos : Pos} : PPs X pos [] [] [] := fun pins s σ H Q I h => pairTrees_nil_walk ⟨[], H, I, .nil, h⟩
theorem pps_cons {X : Cx} {pos : Pos} {k v : Expr} {ks : List (Option Expr)} {vs : List Expr} {tk tv : TE} {trs : List (TE × TE)} (hk : PE X k tk) (hv : PE X v tv) (hr : PPs X pos ks vs trs) :
    PPs X pos (some k :: ks) (v :: vs) ((tk, tv) :: trs) := fun pins s σ H Q I h =>
  pairTrees_cons_walk (thn (hk pins s σ H _ I h) fun u s1 ⟨x, H1, I1, rx, q1⟩ => thn (hv pins s1 σ H1 _ I1 q1) fun w2 s2 ⟨y, H2, I2, ry, q2⟩ =>
    thn (hr pins s2 σ H2 _ I2 q2) fun ws s3 ⟨ps, H3, I3, rel, q3⟩ => ⟨(x, y) :: ps, H3, I3, .cons ⟨rx, ry⟩ rel, q3⟩)
noncomputable def mergeK (kvs more : List (Key × V)) : List (Key × V) := more.foldl (fun acc kv => putK acc kv.1 kv.2) kvs
theorem KV.merge : ∀ {more : List (Key × V)} {rs : List (Key × Value)} {kvs : List (Key × V)} {vs : List (Key × Value)}, KV more rs → KV kvs vs → KV (mergeK kvs more) (merged vs rs) := by
  intro more rs kvs vs r
  unfold KV at r
  induction r generalizing kvs vs with
  | nil => intro q; exact q
  | @cons p q ps qs h t ih =>
    intro r0
    have e : KV (putK kvs p.1 p.2) (stored vs q.1 q.2) := by
      have := r0.put p.1 h.2
      rw [← h.1]; exact this
    exact ih e
theorem length_mergeK : ∀ (more kvs : List (Key × V)), (mergeK kvs more).length ≤ kvs.length + more.length
  | [], kvs => by show kvs.length ≤ kvs.length + 0; omega
  | p :: r, kvs => by
    have h1 := length_mergeK r (putK kvs p.1 p.2)
    have h2 := length_putK kvs p.1 p.2
    show (mergeK (putK kvs p.1 p.2) r).length ≤ _
    rw [List.length_cons]; omega
theorem carries_of {P : Program} {w : World} : ∀ {kvs : List (Key × V)} {ws : List (Value × Value)}, VV (kvs.map fun kv => (kV kv.1, kv.2)) ws → ∃ rs, Carries (mixKind P w) ws rs ∧ KV kvs rs
  | [], _, r => by rw [List.map_nil] at r; cases r; exact ⟨[], True.intro, .nil⟩
  | p :: kvs, _, r => by
    rw [List.map_cons] at r
    cases r with
    | @cons a b as bs h t =>
      obtain ⟨rs, c, q⟩ := carries_of (P := P) (w := w) t
      obtain ⟨b1, b2⟩ := b
      exact ⟨(p.1, b2) :: rs, ⟨kV_is h.1, rfl, c⟩, .cons ⟨rfl, h.2⟩ q⟩
noncomputable def tDisp (trs : List (TE × TE)) : TE := fun σ H Q => ∀ p, H p = none → tPairs trs σ (upd H p (.dK [])) fun ps H2 => H2 p = some (.dK []) ∧ ∃ kvs : List (Key × V), ps = kvs.map (fun kv => (kV kv.1, kv.2)) ∧ kvs.length ≤ 15 ∧ Q (.ref p) (upd H2 p (.dK (mergeK [] kvs)))
theorem pe_disp {X : Cx} {pos : Pos} {keys : List (Option Expr)} {values : List Expr} {trs : List (TE × TE)} (h : PPs X pos keys values trs) (hall : keys.all (·.isSome) = true) (hl : keys.length = values.length) (h0 : keys ≠ [])
    (h15 : keys.length ≤ 15) : PE X (.Dict keys values pos) (tDisp trs) := by
  intro pins s σ H Q I q
  have hn := I.hok.fresh (Nat.le_refl s.heap.objs.size)
  have I1 := I.laid (a := s.heap.objs.size) (o := .dK []) (h' := s.heap.push { cls := .type "dict", data := .dict #[] }) (t' := s.toks) (fun _ _ q => Heap.get?_push_of_some _ q) (Nat.le_refl _) (dk_empty s.heap I.big)
  refine wpAny_Dict_walk (knd := mixKind X.prog X.w) hall hl h0 h15 (thn (h pins _ σ _ _ I1 (q _ hn)) fun ws s2 ⟨ps, H2, I2, rel, e, kvs, ep, lk, q2⟩ => ?_)
  subst ep
  obtain ⟨rs, c, rk⟩ := carries_of (P := X.prog) (w := X.w) rel
  obtain ⟨z, hd, vs0, r0, dd⟩ := dk_of I2.hok e
  cases r0
  refine ⟨rs, c, dd, fun h' dd' hs => ⟨.ref s.heap.objs.size, _, ?_, rfl, q2⟩⟩
  have hz : (mergeK [] kvs).length ≤ sizeLine := by
    have h1 := length_mergeK kvs []
    rw [List.length_nil] at h1
    rw [sizeLine_eq]; omega
  have he : ∃ q, h'.get? s.heap.objs.size = some q := let ⟨q, _, _, hq, _⟩ := dd'; ⟨q, hq⟩
  exact d_write I2 (by rw [e]; exact True.intro) hs he (dk_new hz hd (rk.merge .nil) dd')
end L2
namespace L2
open PySem PySem.Spec PyProof.Rows
end L2
namespace L2
open PySem PySem.Spec PyProof.Rows
end L2
set_option Elab.async false
set_option linter.all false
set_option maxRecDepth 100000
set_option maxHeartbeats 1000000
namespace L2
open PySem PySem.Spec PyProof.Rows
section
variable {X : Cx}
inductive TyX (K : PySem.W.Frag) (H : Hp) : V → Value → Prop where
  | of {x : V} {t : Value} (h : TyOf K H x t) : TyX K H x t
  | tupK {a : Addr} {xs : List V} (h : SqT K H a xs) : TyX K H (.ref a) (.type "tuple")
  | lstK {a : Addr} {xs : List V} (h : SqL K H a xs) : TyX K H (.ref a) (.type "list")
noncomputable def rIsi (K : PySem.W.Frag) : List V → Hp → VK → Prop := fun xs H Q => ∃ x T t b, xs = [x, .ty T] ∧ TyX K H x t ∧ PySem.W.kitOne K t (.type T) = some b ∧ Q (.bl b) H
theorem call_isi : CallR X (.builtin "isinstance") (rIsi X.K) := by
  intro pins s σ H xs us Q I r h
  obtain ⟨x, T, t, b, rfl, ty, e, q⟩ := h
  obtain ⟨u, c, rfl, rx, rc⟩ := vals2 r
  cases (show c = Value.type T from rc)
  cases ty with
  | of h => exact isinst_ok I rx h e fun tk => ⟨.bl b, H, I.tok tk, rfl, q⟩
  | @tupK a xs h =>
    cases (show u = Value.ref a from rx)
    obtain ⟨its, _, ⟨o, h1, h2, _⟩, _⟩ := I.tuple h
    exact PySem.W.kia_one PySem.W.kitx_tuple I.kIn ⟨o, h1, h2⟩ e (fun z => nomatch z) fun tk => ⟨.bl b, H, I.tok tk, rfl, q⟩
  | @lstK a xs h =>
    cases (show u = Value.ref a from rx)
    obtain ⟨its, _, ⟨o, n, h1, h2, _⟩, _⟩ := I.list h
    exact PySem.W.kia_one PySem.W.kitx_list I.kIn ⟨o, h1, h2⟩ e (fun z => nomatch z) fun tk => ⟨.bl b, H, I.tok tk, rfl, q⟩
theorem kit_same (K : PySem.W.Frag) (T : String) : PySem.W.kitOne K (.type T) (.type T) = some true := by
  unfold PySem.W.kitOne
  rw [if_pos (beq_self_eq_true _)]
noncomputable def rMulS : R2 := fun x y H Q => ∃ z n, x = .str z ∧ y = .int n ∧ z.length ≤ 1000 ∧ -1000 ≤ n ∧ n ≤ 1000 ∧ Q (.str (Txt.mul z n)) H
theorem mulOk_small {z : Str} {n : Int} (h1 : z.length ≤ 1000) (h2 : -1000 ≤ n) (h3 : n ≤ 1000) : MulOk z n := by
  refine ⟨?_, fun h4 h5 => ?_, fun h4 h5 => ?_⟩
  · have a : ¬ n < -(2 ^ 63 : Int) := by omega
    have b : ¬ n ≥ 2 ^ 63 := by omega
    rw [decide_eq_false a, decide_eq_false b]; rfl
  · have : (1000 : Int) ≤ (2 ^ 63 - 1) / n := by
      rw [Int.le_ediv_iff_mul_le (by omega)]
      omega
    omega
  · have : z.length * n.toNat ≤ 1000 * 1000 := Nat.mul_le_mul h1 (by omega)
    unfold Builtin.Str.tooLong
    rw [decide_eq_false]
    have e := sizeLine_eq
    first | omega | (simp at *; omega)
theorem op_mulS : OpR X (binaryOp .Mult) rMulS := by
  intro pins s σ H x y v u Q I rx ry h
  obtain ⟨z, n, rfl, rfl, h1, h2, h3, q⟩ := h
  obtain ⟨t, rfl⟩ := rx
  obtain ⟨t', rfl⟩ := ry
  exact SB.mul (mulOk_small h1 h2 h3) fun t' k => ⟨.str _, H, I.tok k, ⟨_, rfl⟩, q⟩
noncomputable def rSlS : V → Option Int → Option Int → Hp → VK → Prop := fun x lo hi H Q => ∃ z, x = .str z ∧ z.length ≤ sizeLine ∧ Q (.str (Txt.slice z lo hi)) H
theorem part_of {v : Value} {o : Option Int} (p : IsPart v o) : ∃ l : Option (Int × Tok), v = partValue l ∧ l.map (·.1) = o := by
  cases p with
  | none => exact ⟨none, rfl, rfl⟩
  | int i t => exact ⟨some (i, t), rfl, rfl⟩
theorem sl_str : SlR X rSlS := by
  intro pins s σ H x v vl vu lo hi sl Q I rx hs pl pu h
  obtain ⟨z, rfl, hz, q⟩ := h
  obtain ⟨t, rfl⟩ := rx
  obtain ⟨l, rfl, el⟩ := part_of pl
  obtain ⟨u, rfl, eu⟩ := part_of pu
  refine ⟨"str", _, F.slot_str_getitem.lookup, typeIs_str _ _ _, wpAny_getItem_str_slice (l := l) (u := u) (st := none) hs rfl ?_⟩
  refine post_val_or_str ⟨?_, fun t' k => ?_⟩
  · subst el; subst eu
    exact Nat.le_trans (Txt.slice_le z _ _) hz
  · subst el; subst eu
    exact ⟨.str _, H, I.tok k, ⟨_, rfl⟩, q⟩
theorem strsAre_of : ∀ {ys : List Str} {us : List Value}, Vals (ys.map V.str) us → StrsAre us ys
  | [], _, r => by cases r; exact .nil
  | y :: ys, _, r => by
    cases r with
    | cons h t =>
      obtain ⟨tk, rfl⟩ := h
      exact .cons _ _ (strsAre_of t)
noncomputable def rJoin (K : PySem.W.Frag) : V → List V → Hp → VK → Prop := fun x vs H Q => ∃ sep l ys, x = .str sep ∧ vs = [.ref l] ∧ SqL K H l (ys.map V.str) ∧ (ys.map (·.length)).sum + ys.length * sep.length ≤ 16777216 ∧ Q (.str (Txt.join sep ys)) H
theorem mt_join : MtM X "str.join" (rJoin X.K) := by
  intro pins s σ H x vs v us Q I rx rv h
  obtain ⟨sep, l, ys, rfl, rfl, hx, hz, q⟩ := h
  obtain ⟨t, rfl⟩ := rx
  obtain ⟨u, rfl, ru⟩ := rv.one
  cases ru
  obtain ⟨its, r, ht, _⟩ := I.list hx
  exact join_list ht.isList (strsAre_of (by simpa using r)) hz fun t' k => ⟨.str _, H, I.tok k, ⟨_, rfl⟩, q⟩
noncomputable abbrev TF := Str → St → Hp → VK → Prop
noncomputable def PF (X : Cx) (es : List Expr) (t : TF) : Prop :=
  ∀ (out : Str) (pins : List (Addr × Obj)) (s : Shared) (σ : St) (H : Hp) (Q : VK), Inv X pins σ H s → t out σ H Q → wpAny (model X.prog X.w) X.A (joinParts out (evalEach es X.env)) (EP X pins σ Q) X.xe s
noncomputable def tF0 : TF := fun out _ H Q => out.length ≤ sizeLine ∧ Q (.str out) H
noncomputable def tFc (x : Str) (t : TF) : TF := fun out σ H Q => (out ++ x).length ≤ sizeLine ∧ t (out ++ x) σ H Q
theorem pf_nil : PF X [] tF0 := fun out pins s σ H Q I h => joinParts_nil ⟨.str out, H, I.tok _, ⟨_, rfl⟩, h.2⟩ h.1
theorem pf_str {x : Str} {j : Nat} {pos : Pos} {es : List Expr} {t : TF} (h : PF X es t) (hs : evalEach (.Constant (.str x) j pos :: es) X.env = eval (.Constant (.str x) j pos) X.env :: evalEach es X.env := by rfl) : PF X (.Constant (.str x) j pos :: es) (tFc x t) := by
  intro out pins s σ H Q I hw
  rw [hs]
  refine joinParts_cons (Calls.Constant_str ?_)
  exact ⟨hw.1, h _ pins _ σ H Q (I.tok _) hw.2⟩
noncomputable def tFs (t : TF) : TE := fun σ H Q => t Str.empty σ H Q
theorem pe_fstr {e1 e2 : Expr} {es : List Expr} {t : TF} {pos : Pos} (h : PF X (e1 :: e2 :: es) t) (hs : evalEach (e1 :: e2 :: es) X.env = eval e1 X.env :: eval e2 X.env :: evalEach es X.env := by rfl) : PE X (.JoinedStr (e1 :: e2 :: es) pos) (tFs t) := by
  intro pins s σ H Q I hw
  refine JoinedStr_many ?_
  rw [← hs]
  exact h _ pins s σ H Q I hw
end
end L2
set_option Elab.async false
set_option linter.all false
set_option maxRecDepth 100000
set_option maxHeartbeats 1000000
namespace L2
open PySem PySem.Spec PyProof.Rows
mutual
noncomputable def Dn (K : PySem.W.Frag) (H : Hp) : V → PyData → Prop
  | v, .none => v = .non
  | v, .bool b => v = .bl b
  | v, .int i => v = .int i
  | v, .str x => v = .str x
  | v, .list ds => ∃ a xs, v = .ref a ∧ SqL K H a xs ∧ DnAll K H xs ds
  | v, .tuple ds => ∃ a xs, v = .ref a ∧ SqT K H a xs ∧ DnAll K H xs ds
  | _, .dict _ => False
noncomputable def DnAll (K : PySem.W.Frag) (H : Hp) : List V → List PyData → Prop
  | xs, [] => xs = []
  | xs, d :: ds => ∃ x r, xs = x :: r ∧ Dn K H x d ∧ DnAll K H r ds
end
noncomputable def KeepT (K : PySem.W.Frag) (H H' : Hp) : Prop := ∀ a xs, SqT K H a xs → SqT K H' a xs
mutual
noncomputable def noList : PyData → Bool
  | .list _ => false
  | .tuple ds => noLists ds
  | .dict _ => false
  | _ => true
noncomputable def noLists : List PyData → Bool
  | [] => true
  | d :: ds => noList d && noLists ds
end
mutual
theorem Dn.keepT {K : PySem.W.Frag} {H H' : Hp} (k : KeepT K H H') : ∀ {d : PyData} {v : V}, noList d = true → Dn K H v d → Dn K H' v d
  | .none, v, _, h => by rw [Dn] at h ⊢; exact h
  | .bool _, v, _, h => by rw [Dn] at h ⊢; exact h
  | .int _, v, _, h => by rw [Dn] at h ⊢; exact h
  | .str _, v, _, h => by rw [Dn] at h ⊢; exact h
  | .list _, v, n, h => by rw [noList] at n; cases n
  | .dict _, v, n, h => by rw [noList] at n; cases n
  | .tuple ds, v, n, h => by
    rw [Dn] at h ⊢
    rw [noList] at n
    obtain ⟨a, xs, e, hs, hd⟩ := h
    exact ⟨a, xs, e, k a xs hs, DnAll.keepT k n hd⟩
theorem DnAll.keepT {K : PySem.W.Frag} {H H' : Hp} (k : KeepT K H H') : ∀ {ds : List PyData} {xs : List V}, noLists ds = true → DnAll K H xs ds → DnAll K H' xs ds
  | [], xs, _, h => by rw [DnAll] at h ⊢; exact h
  | d :: ds, xs, n, h => by
    rw [DnAll] at h ⊢
    rw [noLists, Bool.and_eq_true] at n
    obtain ⟨x, r, e, h1, h2⟩ := h
    exact ⟨x, r, e, Dn.keepT k n.1 h1, DnAll.keepT k n.2 h2⟩
end
section
variable {X : Cx} {pins : List (Addr × Obj)} {σ : St} {H : Hp} {s : Shared}
mutual
theorem Dn.reads (I : Inv X pins σ H s) : ∀ {d : PyData} {v : V} {u : Value}, Dn X.K H v d → RelV v u → ∃ as, Reads s.heap u d as
  | .none, v, u, h, r => by rw [Dn] at h; subst h; cases (show u = Value.none from r); exact ⟨_, .none⟩
  | .bool b, v, u, h, r => by rw [Dn] at h; subst h; cases (show u = Value.bool b from r); exact ⟨_, .bool b⟩
  | .int i, v, u, h, r => by rw [Dn] at h; subst h; obtain ⟨t, rfl⟩ := r; exact ⟨_, .int i t⟩
  | .str x, v, u, h, r => by rw [Dn] at h; subst h; obtain ⟨t, rfl⟩ := r; exact ⟨_, .str x t⟩
  | .dict _, v, u, h, r => by rw [Dn] at h; exact h.elim
  | .list ds, v, u, h, r => by
    rw [Dn] at h
    obtain ⟨a, xs, rfl, hs, hd⟩ := h
    cases (show u = Value.ref a from r)
    obtain ⟨its, rv, ⟨o, n, h1, h2, _, h3⟩, _⟩ := I.list hs
    obtain ⟨as, q⟩ := DnAll.reads I hd rv
    exact ⟨_, .list h1 h2 h3 (by simpa using q)⟩
  | .tuple ds, v, u, h, r => by
    rw [Dn] at h
    obtain ⟨a, xs, rfl, hs, hd⟩ := h
    cases (show u = Value.ref a from r)
    obtain ⟨its, rv, ⟨o, h1, h2, n, h3⟩, _⟩ := I.tuple hs
    obtain ⟨as, q⟩ := DnAll.reads I hd rv
    exact ⟨_, .tuple h1 h2 h3 (by simpa using q)⟩
theorem DnAll.reads (I : Inv X pins σ H s) : ∀ {ds : List PyData} {xs : List V} {us : List Value}, DnAll X.K H xs ds → Vals xs us → ∃ as, ReadsAll s.heap us ds as
  | [], xs, us, h, r => by rw [DnAll] at h; subst h; cases r; exact ⟨_, .nil⟩
  | d :: ds, xs, us, h, r => by
    rw [DnAll] at h
    obtain ⟨x, r', rfl, h1, h2⟩ := h
    cases r with
    | cons r1 r2 =>
      obtain ⟨as, q1⟩ := Dn.reads I h1 r1
      obtain ⟨bs, q2⟩ := DnAll.reads I h2 r2
      exact ⟨_, .cons q1 q2⟩
end
end
section
variable {X : Cx}
noncomputable def rEqD (K : PySem.W.Frag) (neg : Bool) : R2 := fun x y H Q => ∃ d e, Dn K H x d ∧ Dn K H y e ∧ d.canLay0 = true ∧ e.canLay0 = true ∧ min d.depth e.depth ≤ 150 ∧ Q (.bl (if neg then !PyData.eqv d e else PyData.eqv d e)) H
theorem op_eqD (hu : X.A.units + 150 < cLine) : OpR X (compareOp .Eq) (rEqD X.K false) := by
  intro pins s σ H x y v u Q I rx ry h
  obtain ⟨d, e, h1, h2, l1, l2, hz, q⟩ := h
  obtain ⟨as, r1⟩ := h1.reads I rx
  obtain ⟨bs, r2⟩ := h2.reads I ry
  exact PySem.W.cmp_ofEq (SeqAt.rcAt_reads r1 r2 l1 l2 (by omega) _ _ _ _ ⟨.bl _, H, I, rfl, q⟩)
theorem op_neD (hu : X.A.units + 150 < cLine) : OpR X (compareOp .NotEq) (rEqD X.K true) := by
  intro pins s σ H x y v u Q I rx ry h
  obtain ⟨d, e, h1, h2, l1, l2, hz, q⟩ := h
  obtain ⟨as, r1⟩ := h1.reads I rx
  obtain ⟨bs, r2⟩ := h2.reads I ry
  exact PySem.W.cmp_ofNotEq (SeqAt.rcNeAt_reads r1 r2 l1 l2 (by omega) _ _ _ _ ⟨.bl _, H, I, rfl, q⟩)
end
theorem hu_150 {A : Around} {k : Nat} (hr : Room k A) : A.units + 150 < cLine := by have := hr.un; omega
end L2
set_option Elab.async false
set_option linter.all false
set_option maxRecDepth 100000
set_option maxHeartbeats 2000000
namespace L2
open PySem PySem.Spec PyProof.Rows
noncomputable def blk (X : Cx) (N' : List Str) (scope : Scope) (cl : List (Str × Addr)) (s : Shared) (H : Hp) (C : Addr) (ex : List Addr) : Cx where
  prog := X.prog
  w := X.w
  K := X.K
  mg := X.mg
  base := X.base
  A := X.A
  N := N'
  s₀ := s
  H₀ := H
  env := compEnvC scope cl C X.env
  outer := X.stack
  stack := X.stack
  ex := ex
  fn := fun _ => false
  calm := X.calm
  pn := []
  xe := fun _ _ => False
structure BlkOk (X : Cx) (scope : Scope) (cl : List (Str × Addr)) (N' : List Str) (nt : Nat) (ci : List Nat) : Prop where
  clos : closureFor scope X.env = pure cl
  cell : ∀ y ∈ scope.names, y.2 ≠ .cell
  kind : scope.kind = .function
  names : ∀ y ∈ scope.names, y.2 = .local → scope.names.lookup y.1 = some .local
  sub : ∀ x c, cl.lookup x = some c → X.env.cells.lookup x = some c
  has : ∀ x, ((relabel scope X.env).names.lookup x = some .cell ∨ (relabel scope X.env).names.lookup x = some .free) → ∃ c, cl.lookup x = some c
  len : N'.length = nt + ci.length
  cap : ∀ (j i : Nat), ci[j]? = some i → ∃ x, N'[nt + j]? = some x ∧ X.N[i]? = some x ∧ X.env.scope.names.lookup x = some .cell ∧ ((relabel scope X.env).names.lookup x = some .cell ∨ (relabel scope X.env).names.lookup x = some .free)
noncomputable def capt (nt : Nat) (ci : List Nat) (σ : St) : St := List.replicate nt none ++ ci.map fun i => (σ[i]?).join
section
variable {X : Cx} {scope : Scope} {cl : List (Str × Addr)} {N' : List Str} {nt : Nat} {ci : List Nat} {pins : List (Addr × Obj)} {σ : St} {H : Hp} {s : Shared}
theorem blk_start (B : BlkOk X scope cl N' nt ci) (I : Inv X pins σ H s) {fp : List Addr} (hf : ∀ b ∈ fp, FpOk X pins H b) (ho : ∀ b ∈ fp, ∃ o, s.heap.get? b = some o) {C acc : Addr} {h1 : Heap} {tk : Nat}
    (hacc : acc = s.heap.objs.size) (hC : C = s.heap.objs.size + 1) (k : ∀ b u, s.heap.get? b = some u → h1.get? b = some u) (ns : h1.Ns C fun _ => none) (ha : h1.get? acc = some { cls := .type "list", data := .seq #[] }) :
    Inv (blk X N' scope cl s H C fp) [] (capt nt ci σ) (upd H acc (.lst [])) { s with heap := h1, toks := tk } := by
  have hn : H acc = none := I.hok.fresh (by rw [hacc]; exact Nat.le_refl _)
  have hnC : H C = none := I.hok.fresh (by rw [hC]; exact Nat.le_succ _)
  have cellLt : ∀ x c, cl.lookup x = some c → c < s.heap.objs.size := fun x c e => by
    obtain ⟨v, q⟩ := I.cell x c (B.sub x c e)
    exact q.lt
  refine ⟨⟨I.ok.mod, B.kind, I.ok.glob, I.ok.blt, ?_, fun x y c e1 e2 => I.ok.inj x y c (B.sub _ _ e1) (B.sub _ _ e2), fun x hx => B.has x hx, fun x c (z : false = true) => Bool.noConfusion z, fun hc => I.ok.hd hc, I.ok.frames, .inl rfl, fun b hb => ?_, I.bs, ?_, fun b o e hb => ?_, fun b hb => ?_, I.stack, fun b hb => I.stkFree b hb⟩,
    rfl, I.bare, Un.laid (a := acc) (o := .lst []) k (by rw [hacc]; exact Nat.le_refl _) hn, ⟨_, ns, fun i x v e1 e2 e3 => ?_⟩, fun x c e => ?_, ?_, fun x c e => ?_, fun p hp => absurd (show p ∈ ([] : List (Addr × Obj)) from hp) (by simp), I.hok.laid k (by rw [hacc]; exact Nat.le_refl _) ⟨Nat.zero_le _, [], 0, .nil, ha⟩, ?_⟩
  · show s.heap.objs.size ≤ C
    rw [hC]; exact Nat.le_succ _
  · obtain ⟨f0, f1, f2, f3, f4, f5⟩ := hf b hb
    obtain ⟨o, e⟩ := ho b hb
    refine ⟨?_, fun x c e' => f4 x c (B.sub x c e')⟩
    show b ≠ C
    rw [hC]
    exact Nat.ne_of_lt (Nat.lt_succ_of_lt (Heap.lt_size e))
  · exact Nat.le_trans I.ok.bsz I.sz
  · obtain ⟨f0, f1, f2, f3, f4, f5⟩ := hf b hb
    rcases f3 with z | z
    · exact I.ok.noex b o e z
    · exact absurd (Nat.lt_of_lt_of_le (Heap.lt_size e) (Nat.le_trans I.ok.bsz z)) (Nat.lt_irrefl _)
  · intro z
    obtain ⟨f0, f1, f2, f3, f4, f5⟩ := hf b hb
    rcases List.mem_cons.mp (I.stkSub b z) with y | y
    · exact f1 y
    · exact f2 y
  · -- the names
    obtain ⟨m, hm, hl⟩ := I.loc
    unfold capt at e2
    by_cases hi : i < nt
    · rw [List.getElem?_append_left (by simpa using hi), List.getElem?_replicate] at e2
      split at e2 <;> cases e2
    · rw [List.getElem?_append_right (by simpa using hi), List.length_replicate, List.getElem?_map] at e2
      cases q : ci[i - nt]? with
      | none => rw [q] at e2; cases e2
      | some j =>
        rw [q] at e2
        have e2' : (σ[j]?).join = some v := Option.some.inj e2
        obtain ⟨y, a1, a2, a3, a4⟩ := B.cap _ j q
        have ei : nt + (i - nt) = i := by omega
        rw [ei, show N'[i]? = some x from e1] at a1
        cases a1
        have e2'' : σ[j]? = some (some v) := by
          cases z : σ[j]? with
          | none => rw [z] at e2'; cases e2'
          | some w => rw [z] at e2'; exact congrArg some e2'
        obtain ⟨u, r, l⟩ := hl j x v a2 e2'' (.inr (.inl a3))
        refine ⟨u, r, .inr ⟨a4, ?_⟩⟩
        rcases l with ⟨kk, _⟩ | ⟨_, c, c1, c2⟩
        · have kk' : X.env.scope.names.lookup x = some .local := kk
          rw [a3] at kk'; cases kk'
        · obtain ⟨c', ec⟩ := B.has x a4
          have := B.sub x c' ec
          rw [c1] at this; cases this
          exact ⟨c, ec, let ⟨o, e, d⟩ := c2; ⟨o, k _ _ e, d⟩⟩
  · obtain ⟨v, q⟩ := I.cell x c (B.sub x c e)
    exact ⟨v, let ⟨o, e, d⟩ := q; ⟨o, k _ _ e, d⟩⟩
  · show upd H acc (.lst []) C = none
    rw [upd_ne (by rw [hacc, hC]; exact Nat.succ_ne_self _)]; exact hnC
  · have lt := cellLt x c e
    rw [upd_ne (by rw [hacc]; exact Nat.ne_of_lt lt)]
    exact I.freeC x c (B.sub x c e)
  · show (capt nt ci σ).length = N'.length
    unfold capt
    rw [List.length_append, List.length_replicate, List.length_map, B.len]
noncomputable def Wk (σ σ' : St) : Prop := σ'.length = σ.length ∧ ∀ (i : Nat) v, σ[i]? = some (some v) → σ'[i]? = some (some v)
theorem wk_set {σ : St} {i : Nat} {x : V} (h : σ[i]? = some none) : Wk σ (σ.set i (some x)) := by
  refine ⟨by simp, fun j v e => ?_⟩
  by_cases hj : j = i
  · subst hj; rw [h] at e; cases e
  · rw [List.getElem?_set_ne (Ne.symm hj)]; exact e
theorem wk_head {x : V} {r : St} : Wk (none :: r) (some x :: r) := wk_set (σ := none :: r) (i := 0) rfl
noncomputable def lcW (K : PySem.W.Frag) (σ0 : St) (J : It) (acc : Addr) (g : TG) (te : TE) (Q : VK) (W : Nat → Nat → List V → Hp → Prop) : Prop :=
  ∀ i m ys H2, W i m ys H2 → H2 acc = some (.lst ys) ∧ ys.length < sizeLine ∧ ((J.stop i H2 ∧ Q (.ref acc) H2) ∨
    (J.go i H2 ∧ ∀ x H3, J.yld i H2 x H3 → g x σ0 H3 fun σ4 H4 => Wk σ0 σ4 ∧ te σ4 H4 fun y H5 => H5 acc = some (.lst ys) ∧ ∃ m', m' < m ∧ W (i + 1) m' (ys ++ [y]) (upd H5 acc (.lst (ys ++ [y])))))
noncomputable def tLC (K : PySem.W.Frag) (nt : Nat) (ci : List Nat) (wi : TI) (g : TG) (te : TE) : TE := fun σ H Q => wi σ H fun J H1 => ∀ acc, H1 acc = none → ∃ W : Nat → Nat → List V → Hp → Prop, (∃ m, W 0 m [] (upd H1 acc (.lst []))) ∧ lcW K (capt nt ci σ) J acc g te Q W
theorem compTurn_one (elt target iter : Expr) (scope : Scope) (pos : Pos) (it acc : Value) (env : Env) :
    compTurn (.ListComp elt [⟨target, iter, [], 0⟩] scope pos) 0 it acc env = (standAt iter.pos >>= fun _ => pyNext it >>= fun r => match r with
      | none => pure (.done .next)
      | some v => letOwnedTupleGo target it v >>= fun _ => assign target env v >>= fun _ =>
        (eval elt env >>= fun x => call (.builtin "list.append") [acc, x] >>= fun _ => pure ()) >>= fun _ =>
          again (.compLoop (.ListComp elt [⟨target, iter, [], 0⟩] scope pos) 0 it acc env)) := by rfl
theorem noE {M : Model} {A : Around} {env : Env} {E : Value → Shared → Prop} : ∀ e s, (fun (_ : Value) (_ : Shared) => False) e s → notedBy M A env E e s := fun _ _ z => z.elim
theorem lc_loop {tg elt iter : Expr} {pos : Pos} {g : TG} {te : TE} {it acc C : Addr} {fp : List Addr} {tn : Nat → Heap → Prop} {J : It} {Q : VK} {s0 : Shared} {H0 : Hp} {σ0 : St} {R : Result → Shared → Prop} {s : Shared} {i0 m0 : Nat} {ys0 : List V} {H1 : Hp} {W : Nat → Nat → List V → Hp → Prop}
    (hc : X.calm = true) (hg : PG (blk X N' scope cl s0 H0 C fp) tg g) (he : PE (blk X N' scope cl s0 H0 C fp) elt te) (T : Turn X.prog X.w X.K tg J fp it tn)
    (hfp : ∀ (H' : Hp), (∀ b ∈ fp, H' b = none) → ∀ b ∈ fp, FpOk (blk X N' scope cl s0 H0 C fp) [] H' b) (hW : lcW X.K σ0 J acc g te Q W)
    (hR : ∀ s' H', Inv (blk X N' scope cl s0 H0 C fp) [] σ0 H' s' → Q (.ref acc) H' → R (.ok .next) s')
    (I : Inv (blk X N' scope cl s0 H0 C fp) [] σ0 H1 s) (hst : tn i0 s.heap) (hfr : ∀ b ∈ fp, H1 b = none) (w : W i0 m0 ys0 H1) :
    codeAny (model X.prog X.w) X.A (.compLoop (.ListComp elt [⟨tg, iter, [], 0⟩] scope pos) 0 (.ref it) (.ref acc) (compEnvC scope cl C X.env)) R s := by
  refine codeAny_loop rfl (fun n s => ∃ i ys H2, Inv (blk X N' scope cl s0 H0 C fp) [] σ0 H2 s ∧ tn i s.heap ∧ (∀ b ∈ fp, H2 b = none) ∧ W i n ys H2) (fun n s hI => ?_) m0 ⟨i0, ys0, H1, I, hst, hfr, w⟩
  obtain ⟨i, ys, H2, I2, st2, fr2, w2⟩ := hI
  show wpAny _ _ ((compTurn (.ListComp elt [⟨tg, iter, [], 0⟩] scope pos) 0 (.ref it) (.ref acc) (compEnvC scope cl C X.env)).onRaise (fun x => do noteFrame x (compEnvC scope cl C X.env); theTreesLotGoes x)) _ _ s
  refine wpAny_noted ?_
  rw [compTurn_one]
  refine wpAny_bind (wpAny_standAt (wpAny_bind ?_))
  obtain ⟨hacc, hlen, hcase⟩ := hW i n ys H2 w2
  rcases hcase with ⟨stop, q⟩ | ⟨go, step⟩
  · refine thn (T.done (blk X N' scope cl s0 H0 C fp) rfl rfl rfl hc i [] s σ0 H2 _ I2 (hfp H2 fr2) st2 stop) fun r s1 ⟨hr, I3⟩ => ?_
    subst hr
    exact wpAny_pure (hR s1 H2 I3 q)
  · refine thn (T.item (blk X N' scope cl s0 H0 C fp) rfl rfl rfl hc i [] s σ0 H2 _ I2 (hfp H2 fr2) st2 go) fun r s1 ⟨u, hr, h4⟩ => ?_
    subst hr
    refine wpAny_bind (thn h4 fun _ s5 ⟨x, H5, I5, r5, y5, st5, fr5⟩ => ?_)
    have I5' := I5.pinned (hfp H5 fr5) (T.obj _ _ st5)
    refine wpAny_bind (wpAny_mono (hg _ s5 σ0 H5 x u _ I5' r5 (step x H5 y5)) (fun _ s6 ⟨σ6, H6, I6, hw6, q6⟩ => ?_) noE)
    refine wpAny_bind (wpAny_bind (wpAny_mono (he _ s6 σ6 H6 _ I6 q6) (fun v s7 ⟨y, H7, I7, r7, ha7, m', hm', w7⟩ => ?_) noE))
    refine wpAny_bind (wpAny_mono (mt_append (X := blk X N' scope cl s0 H0 C fp) _ s7 σ6 H7 (.ref acc) [y] (.ref acc) [v] (fun _ H8 => H8 = upd H7 acc (.lst (ys ++ [y]))) I7 rfl (.cons r7 .nil) ⟨acc, ys, y, rfl, rfl, ha7, hlen, rfl⟩) (fun _ s8 ⟨_, H8, I8, _, e8⟩ => ?_) noE)
    subst e8
    refine wpAny_pure (wpAny_pure ⟨rfl, m', hm', i + 1, ys ++ [y], _, ?_, ?_, fun b hb => ?_, w7⟩)
    · exact I8.unpinned.weak hw6.1.symm hw6.2
    · exact T.keep _ _ _ st5 fun b hb o e => (I8.pin (b, o) (List.mem_append_right _ (List.mem_append_right _ (mem_pinsAt hb e)))).1
    · obtain ⟨o, e, d⟩ := T.obj _ _ st5 b hb
      exact (I8.pin (b, o) (List.mem_append_right _ (List.mem_append_right _ (mem_pinsAt hb e)))).2.1
theorem lc_core {tg elt iter : Expr} {pos pos' : Pos} {wi : TI} {g : TG} {te : TE} {use : Option (Value → Sem Unit)} {Q : VK} {Qf : Value → Shared → Prop} (B : BlkOk X scope cl N' nt ci) (hc : X.calm = true) (hi : PI X tg iter wi)
    (hg : ∀ s H C ex, PG (blk X N' scope cl s H C ex) tg g) (he : ∀ s H C ex, PE (blk X N' scope cl s H C ex) elt te) (hs : ∀ x, foldedSetIterable iter X.env x = pure x) (I : Inv X pins σ H s) (h : tLC X.K nt ci wi g te σ H Q)
    (fin : ∀ (acc C : Addr) (s' : Shared) (H' : Hp), Inv X pins σ H' s' → Q (.ref acc) H' → (∃ m, s'.heap.Ns C m) → FpOk X pins H' C → (∃ o, s'.heap.get? C = some o ∧ ∀ v, o.data ≠ .cell v) → compPost (model X.prog X.w) X.A X.xe use Qf (.ref acc) C (.ok .next) s') :
    wpAny (model X.prog X.w) X.A (comprehension (.ListComp elt [⟨tg, iter, [], 0⟩] scope pos) scope X.env pos' (newList []) false (eval iter X.env) use) Qf X.xe s := by
  refine wpAny_comprehension_free (use := use) rfl hs B.clos B.kind B.names (thn (hi pins s σ H _ I h) fun v s1 h1 => thn h1 fun itv s2 h2 => ?_)
  obtain ⟨it, fp, tn, J, H2, e, I2, T, st2, f2, q2⟩ := h2
  subst e
  have hacc : H2 s2.heap.objs.size = none := I2.hok.fresh (Nat.le_refl _)
  obtain ⟨W, ⟨m0, w0⟩, hW⟩ := q2 s2.heap.objs.size hacc
  refine wpAny_newObj_type (wpAny_newFunctionEnv B.cell (by intro y hy; simp at hy) (fun h₁ hns₁ hsb₁ => ?_) B.kind)
  dsimp only at hns₁ hsb₁ ⊢
  have hCs : (s2.heap.push { cls := .type "list", dict := none, data := .seq ([] : List Value).toArray }).objs.size = s2.heap.objs.size + 1 := Heap.size_push ..
  have k1 : ∀ b u, s2.heap.get? b = some u → h₁.get? b = some u := fun b u e => hsb₁.extBut b u (by rw [hCs]; exact Nat.ne_of_lt (Nat.lt_succ_of_lt (Heap.lt_size e))) (Heap.get?_push_of_some _ (Heap.get?_push_of_some _ e))
  have a1 : h₁.get? s2.heap.objs.size = some { cls := .type "list", data := .seq #[] } := hsb₁.extBut _ _ (by rw [hCs]; exact Nat.ne_of_lt (Nat.lt_succ_self _)) (Heap.get?_push_of_some _ (Heap.get?_push_size _ rfl))
  rw [hCs] at hns₁ ⊢
  have I3 := blk_start (tk := s2.toks + ([] : List (Str × Value)).length) B I2 f2 (fun b hb => let ⟨o, e, _⟩ := T.obj _ _ st2 b hb; ⟨o, e⟩) rfl rfl k1 (by simpa using hns₁) a1
  have hfpB : ∀ (H' : Hp), (∀ b ∈ fp, H' b = none) → ∀ b ∈ fp, FpOk (blk X N' scope cl s2 H2 (s2.heap.objs.size + 1) fp) [] H' b := fun H' hn b hb => by
    obtain ⟨f0, f1, f3, f4, f5, f6⟩ := f2 b hb
    obtain ⟨o, e, _⟩ := T.obj _ _ st2 b hb
    refine ⟨hn b hb, ?_, fun z => ?_, .inl hb, fun x c e' => f5 x c (B.sub x c e'), fun p hp => absurd (show p ∈ ([] : List (Addr × Obj)) from hp) (by simp)⟩
    · exact Nat.ne_of_lt (Nat.lt_succ_of_lt (Heap.lt_size e))
    · rcases List.mem_cons.mp (I2.stkSub b z) with y | y
      · exact f1 y
      · exact f3 y
  have hfr3 : ∀ b ∈ fp, upd H2 s2.heap.objs.size (.lst []) b = none := fun b hb => by
    obtain ⟨o, e, _⟩ := T.obj _ _ st2 b hb
    rw [upd_ne (Nat.ne_of_lt (Heap.lt_size e))]; exact (f2 b hb).1
  have st3 : tn 0 h₁ := T.keep _ _ _ st2 fun b _ o e => k1 b o e
  have loop : codeAny (model X.prog X.w) X.A (.compLoop (.ListComp elt [⟨tg, iter, [], 0⟩] scope pos) 0 (.ref it) (.ref s2.heap.objs.size) (compEnvC scope cl (s2.heap.objs.size + 1) X.env))
      (compPost (model X.prog X.w) X.A X.xe use Qf (.ref s2.heap.objs.size) (s2.heap.objs.size + 1)) { s2 with heap := h₁, toks := s2.toks + ([] : List (Str × Value)).length } := by
    refine lc_loop (Q := Q) hc (hg _ _ _ _) (he _ _ _ _) T hfpB hW (fun s' H' I' q => ?_) I3 st3 hfr3 w0
    have un := I'.base
    have ns := I'.loc
    have fC : H' (s2.heap.objs.size + 1) = none := I'.free
    have I4 : Inv X pins σ H' s' := I2.call' I'.os un I'.hok I'.bare fun b hb => by
      obtain ⟨f0, f1, f3, f4, f5, f6⟩ := f2 b hb
      exact ⟨f4, f1, f5, f6⟩
    obtain ⟨m, hm, _⟩ := ns
    have hm' : s'.heap.Ns (s2.heap.objs.size + 1) m := hm
    refine fin _ _ s' H' I4 q ⟨m, hm'⟩ (I2.fpOk (Nat.le_succ _) fC) ?_
    obtain ⟨o, es, ep, e, d, _⟩ := hm'
    exact ⟨o, e, fun v z => by rw [d] at z; cases z⟩
  exact codeAny_compStart_list loop (T.self _ _ _ _ _ st3 loop)
theorem pe_lc {tg elt iter : Expr} {pos : Pos} {wi : TI} {g : TG} {te : TE} (B : X.Ok → BlkOk X scope cl N' nt ci) (hc : X.calm = true) (hi : PI X tg iter wi)
    (hg : ∀ s H C ex, PG (blk X N' scope cl s H C ex) tg g) (he : ∀ s H C ex, PE (blk X N' scope cl s H C ex) elt te) (hs : ∀ x, foldedSetIterable iter X.env x = pure x := by intro _; rfl) :
    PE X (.ListComp elt [⟨tg, iter, [], 0⟩] scope pos) (tLC X.K nt ci wi g te) := by
  intro pins s σ H Q I h
  rw [eval_ListComp]
  refine lc_core (B I.ok) hc hi hg he hs I h fun acc C s' H' I' q hm hf ho => ?_
  obtain ⟨m, hm⟩ := hm
  obtain ⟨f0, f1, f2, f3, f4, f5⟩ := hf
  exact ⟨m, hm, fun h' sb => ⟨.ref acc, H', I'.turned (t' := s'.toks) (fun b o hb e => (sb.2 b hb).trans e) f0 f1 f3 f4 f5, rfl, q⟩⟩
theorem ps_setLC {i : Nat} {x : Str} {tg elt iter : Expr} {pos spos pos' : Pos} {wi : TI} {g : TG} {te : TE} (hN : X.N.Nodup) (hi : X.N[i]? = some x) (hx : Loc X.env.scope x) (B : X.Ok → BlkOk X scope cl N' nt ci) (hc : X.calm = true) (hit : PI X tg iter wi)
    (hg : ∀ s H C ex, PG (blk X N' scope cl s H C ex) tg g) (he : ∀ s H C ex, PE (blk X N' scope cl s H C ex) elt te) (hsw : swapsWith (.ListComp elt [⟨tg, iter, [], 0⟩] scope pos) (some (.Name x pos')) spos.line X.env = pure true)
    (hs : ∀ x, foldedSetIterable iter X.env x = pure x := by intro _; rfl) (hf : X.fn x = true ∨ X.env.scope.names.lookup x = some .local := by first | exact .inl rfl | exact .inr rfl | assumption) :
    PS X (.Assign [.Name x pos'] (.ListComp elt [⟨tg, iter, [], 0⟩] scope pos) spos) (tAsg (tLC X.K nt ci wi g te) (gName i)) := by
  intro pins s σ H D I h
  rw [exec_Assign_Name_used _ _ _ _ hsw]
  refine wpAny_bind (wpAny_standAt (wpAny_bind ?_))
  rw [arm_evalThenUse_ListComp]
  refine wpAny_bind (lc_core (B I.ok) hc hit hg he hs I h fun acc C s' H' I' q hm hfC ho => ?_)
  obtain ⟨f0, f1, f2, f3, f4, f5⟩ := hfC
  obtain ⟨m, hm⟩ := hm
  obtain ⟨o, e, d⟩ := ho
  have Ip : Inv X (pins ++ [(C, o)]) σ H' s' := I'.pins_of fun p hp => (List.mem_append.mp hp).elim (fun z => I'.pin p (List.mem_append_right _ z)) fun z => by
    have e' : p = (C, o) := by simpa using z
    subst e'
    exact ⟨e, f0, f1, f2, d⟩
  refine wpAny_assign_Name (store_ok Ip hN hi hx (show RelV (.ref acc) (Value.ref acc) from rfl) (fun s2 I2 => ?_) hf)
  have e2 := (I2.pin (C, o) (List.mem_append_right _ (List.mem_append_right _ (by simp)))).1
  obtain ⟨o', es, ep, h1, h2, h3⟩ := hm
  rw [e] at h1; cases h1
  refine ⟨m, ⟨o, es, ep, e2, h2, h3⟩, fun h' sb => wpAny_pure (wpAny_pure ?_)⟩
  have I3 : Inv X pins (σ.set i (some (.ref acc))) H' s2 := I2.unpinned
  exact ⟨_, H', I3.turned (t' := s2.toks) (fun b o hb e => (sb.2 b hb).trans e) f0 f1 f3 f4 f5, q⟩
end
end L2
set_option Elab.async false
set_option linter.all false
set_option maxRecDepth 100000
set_option maxHeartbeats 2000000
namespace L2
open PySem PySem.Spec PyProof.Rows
end L2
set_option Elab.async false
set_option linter.all false
set_option maxRecDepth 100000
set_option maxHeartbeats 2000000
namespace PySem
open Sem (wp)
namespace F
end F
end PySem
namespace L2
open PySem PySem.Spec PyProof.Rows
end L2
set_option Elab.async false
set_option linter.all false
set_option maxRecDepth 100000
set_option maxHeartbeats 2000000
namespace L2
open PySem PySem.Spec PyProof.Rows
structure KDict (K : PySem.W.Frag) (w : World) (a : Addr) (kvs : List (Str × V)) : Prop where
  ex : ∃ (o : Obj) (es : Array DictEntry) (ep : Nat), K.lookup a = some o ∧ o.ExactDict ∧ o.data = .dict es ep ∧ Paired (fun (p : Str × V) (e : DictEntry) => (∃ tk, e.key = .str p.1 tk) ∧ e.hash = PyData.keyHash w.params p.1 ∧ RelV p.2 e.val) kvs es.toList
  nd : (kvs.map (·.1)).Nodup
  ns : (a == sysModules) = false
noncomputable def kvK (kvs : List (Str × V)) : List (Key × V) := kvs.map fun p => (Sum.inr p.1, p.2)
section
variable {X : Cx} {pins : List (Addr × Obj)} {σ : St} {H : Hp} {s : Shared} {a : Addr} {kvs : List (Str × V)}
theorem kd_pairs {P : Program} {w : World} : ∀ {kvs : List (Str × V)} {es : List DictEntry}, Paired (fun (p : Str × V) (e : DictEntry) => (∃ tk, e.key = .str p.1 tk) ∧ e.hash = PyData.keyHash w.params p.1 ∧ RelV p.2 e.val) kvs es →
    (∀ e ∈ es, ∃ k, (mixKind P w).is k e.key = true ∧ e.hash = (mixKind P w).hash k) ∧ Pairs (mixKind P w) es (List.zip (kvs.map fun p => (Sum.inr p.1 : Key)) (es.map (·.val))) ∧ KV (kvK kvs) (List.zip (kvs.map fun p => (Sum.inr p.1 : Key)) (es.map (·.val)))
  | [], _, r => by cases r; exact ⟨(fun _ h => (nomatch h)), .nil, .nil⟩
  | p :: kvs, _, r => by
    cases r with
    | @cons _ e _ es h t =>
      obtain ⟨⟨tk, h1⟩, h2, h3⟩ := h
      obtain ⟨q1, q2, q3⟩ := kd_pairs (P := P) t
      have hi : (mixKind P w).is (Sum.inr p.1) e.key = true := by rw [h1]; exact mixKind_str P w p.1 tk
      refine ⟨fun e' he => ?_, .cons hi rfl q2, .cons ⟨rfl, h3⟩ q3⟩
      rcases List.mem_cons.mp he with rfl | he
      · exact ⟨Sum.inr p.1, hi, h2⟩
      · exact q1 e' he
theorem KDict.of (D : KDict X.K X.w a kvs) (I : Inv X pins σ H s) : ∃ vs, KV (kvK kvs) vs ∧ s.heap.DictOf (mixKind X.prog X.w) a vs := by
  obtain ⟨o, es, ep, lk, ex, d, pr⟩ := D.ex
  obtain ⟨q1, q2, q3⟩ := kd_pairs (P := X.prog) pr
  refine ⟨_, q3, o, es, ep, I.kIn a o lk, ex, d, fun e he => q1 e (by simpa using he), q2, ?_⟩
  have e : (List.zip (kvs.map fun p => (Sum.inr p.1 : Key)) (es.toList.map (·.val))).map (·.1) = kvs.map fun p => (Sum.inr p.1 : Key) := by
    rw [List.map_fst_zip]
    have := Paired.length pr
    simp only [List.length_map]; omega
  rw [e]
  have inj : ∀ l : List (Str × V), (l.map (·.1)).Nodup → (l.map fun p => (Sum.inr p.1 : Key)).Nodup := by
    intro l
    induction l with
    | nil => intro _; exact List.nodup_nil
    | cons p r ih =>
      intro h
      rw [List.map_cons, List.nodup_cons] at h
      rw [List.map_cons, List.nodup_cons]
      refine ⟨fun m => h.1 ?_, ih h.2⟩
      obtain ⟨q, hq, eq⟩ := List.mem_map.mp m
      exact List.mem_map.mpr ⟨q, hq, Sum.inr.inj eq⟩
  exact inj kvs D.nd
theorem valV_kvK (kvs : List (Str × V)) (x : Str) : valV (kvK kvs) (Sum.inr x) = kvs.lookup x := by
  unfold valV kvK
  induction kvs with
  | nil => rfl
  | cons p r ih =>
    rw [List.map_cons, List.find?_cons]
    obtain ⟨k, v⟩ := p
    by_cases e : k = x
    · subst e; simp [List.lookup_cons]
    · have e1 : ¬ (Sum.inr k : Key) = Sum.inr x := fun q => e (Sum.inr.inj q)
      have e2 : (x == k) = false := beq_eq_false_iff_ne.mpr (Ne.symm e)
      simp only [decide_eq_false e1, List.lookup_cons, e2]
      exact ih
noncomputable def tKD (kvs : List (Str × V)) (ti : TE) : TE := fun σ H Q => ti σ H fun y H1 => ∃ x v, y = .str x ∧ kvs.lookup x = some v ∧ Q v H1
theorem pe_kdget {name : Str} {i : Expr} {ti : TE} {p pos : Pos} (D : KDict X.K X.w a kvs) (hg : Gl X name) (hm : X.mg name = some (.ref a)) (hi : PE X i ti) (hs : NoSl i := by exact fun _ _ => rfl) (hd : (name == ("__debug__" : Str)) = false := by decide) :
    PE X (.Subscript (.Name name p) i pos) (tKD kvs ti) := by
  intro pins s σ H Q I h
  refine subD_of PySem.F.slot_dict_getitem.lookup hs (ld_glob I hg hm (thn (hi pins s σ H _ I h) fun iv s2 ⟨y, H2, I2, ry, x, v, ey, hl, q2⟩ => ?_) hd)
  subst ey
  obtain ⟨vs, rel, dd⟩ := D.of I2
  obtain ⟨w', hw, rw'⟩ := RelO.some_of (v := v) (o := valueAt vs (Sum.inr x)) (by rw [← hl, ← valV_kvK]; exact rel.val (Sum.inr x))
  exact ⟨dd.typeIs, wpAny_getItem_of (kV_is (k := Sum.inr x) ry) dd.mapOf hw ⟨v, H2, I2.tok _, rw', q2⟩⟩
noncomputable def tKNotIn (kvs : List (Str × V)) (ti : TE) : TE := fun σ H Q => ti σ H fun y H1 => ∃ x, y = .str x ∧ Q (.bl (!(kvs.lookup x).isSome)) H1
theorem pc_knotin {name : Str} {i : Expr} {ti : TE} {p : Pos} (D : KDict X.K X.w a kvs) (hg : Gl X name) (hm : X.mg name = some (.ref a)) (hi : PE X i ti) (hd : (name == ("__debug__" : Str)) = false := by decide) :
    PC X .NotIn i (.Name name p) (tKNotIn kvs ti) := by
  intro pins s σ H Q I h
  refine thn (hi pins s σ H _ I h) fun iv s1 ⟨y, H1, I1, ry, x, ey, q1⟩ => ?_
  subst ey
  refine ld_glob I1 hg hm ?_ hd
  obtain ⟨vs, rel, dd⟩ := D.of I1
  refine wpAny_notIn_of (kV_is (k := Sum.inr x) ry) D.ns dd.mapOf ?_
  rw [← (rel.val (Sum.inr x)).isSome_eq, valV_kvK]
  exact ⟨.bl _, H1, I1.tok _, rfl, q1⟩
end
end L2
set_option Elab.async false
set_option linter.all false
set_option maxRecDepth 100000
set_option maxHeartbeats 2000000
namespace L2
open PySem PySem.Spec PyProof.Rows
section
variable {X : Cx} {scope : Scope} {N' : List Str}
theorem relabel_nofree {scope : Scope} {env : Env} (h : ∀ y ∈ scope.names, y.2 ≠ .free) : (relabel scope env).names = scope.names := by
  unfold relabel
  simp only
  have aux : ∀ l : List (Str × NameKind), (∀ y ∈ l, y.2 ≠ .free) → l.map (fun (n, k) => if (k == NameKind.free && env.scope.kind == .function && env.kindOf n == some .cell) then (n, NameKind.cell) else (n, k)) = l := by
    intro l
    induction l with
    | nil => intro _; rfl
    | cons y r ih =>
      intro h
      rw [List.map_cons, ih fun z hz => h z (List.mem_cons_of_mem _ hz)]
      obtain ⟨n, k⟩ := y
      have : (k == NameKind.free) = false := by simpa using h (n, k) List.mem_cons_self
      simp [this]
  exact aux _ h
theorem blk0 (hc : ∀ y ∈ scope.names, y.2 ≠ .cell) (hf : ∀ y ∈ scope.names, y.2 ≠ .free) (hk : scope.kind = .function) (hn : ∀ y ∈ scope.names, y.2 = .local → scope.names.lookup y.1 = some .local) (_ : X.Ok) : BlkOk X scope [] N' N'.length [] where
  clos := closureFor_none hf
  cell := hc
  kind := hk
  names := hn
  sub := fun _ _ h => by cases h
  has := fun x h => by
    rw [relabel_nofree hf] at h
    rcases h with h | h
    · exact absurd rfl (hc _ (PySem.mem_of_lookup h))
    · exact absurd rfl (hf _ (PySem.mem_of_lookup h))
  len := by simp
  cap := fun j i h => by simp at h
noncomputable def closL (cells : List (Str × Addr)) : List (Str × NameKind) → List (Str × Addr) → List (Str × Addr)
  | [], acc => acc
  | (n, k) :: r, acc => if k == .free then closL cells r ((n, (cells.lookup n).getD 0) :: acc) else closL cells r acc
theorem closL_eq {env : Env} : ∀ (names : List (Str × NameKind)) (acc : List (Str × Addr)), (∀ y ∈ names, y.2 = .free → ∃ c, env.cells.lookup y.1 = some c) →
    (forIn names acc fun (x : Str × NameKind) cs => (match x with | (name, kind) => if (kind == .free) = true then do let c ← cellOf env name; pure (ForInStep.yield ((name, c) :: cs)) else pure (ForInStep.yield cs) : Sem (ForInStep (List (Str × Addr))))) = pure (closL env.cells names acc)
  | [], acc, _ => rfl
  | (n, k) :: r, acc, h => by
    rw [List.forIn_cons]
    unfold closL
    by_cases hk : (k == NameKind.free) = true
    · obtain ⟨c, hc⟩ := h (n, k) List.mem_cons_self (by simpa using hk)
      have e : cellOf env n = pure c := by unfold cellOf; rw [show env.cells.lookup n = some c from hc]
      have hc' : env.cells.lookup n = some c := hc
      simp only [hk, if_true, e, pure_bind, hc', Option.getD_some]
      exact closL_eq r _ fun y hy => h y (List.mem_cons_of_mem _ hy)
    · simp only [hk, if_false, pure_bind]
      exact closL_eq r acc fun y hy => h y (List.mem_cons_of_mem _ hy)
theorem closureFor_eq {scope : Scope} {env : Env} (h : ∀ y ∈ scope.names, y.2 = .free → ∃ c, env.cells.lookup y.1 = some c) : closureFor scope env = pure (closL env.cells scope.names []) := by
  unfold closureFor
  have e := closL_eq (env := env) scope.names [] h
  simp only [bind_pure_comp] at e ⊢
  first
    | exact e
    | (rw [e]; rfl)
    | (refine Eq.trans ?_ e; rfl)
theorem closL_mem {cells : List (Str × Addr)} : ∀ {names : List (Str × NameKind)} {acc : List (Str × Addr)} {x : Str} {c : Addr}, (x, c) ∈ closL cells names acc → (x, c) ∈ acc ∨ ((x, NameKind.free) ∈ names ∧ c = (cells.lookup x).getD 0)
  | [], acc, x, c, h => .inl h
  | (n, k) :: r, acc, x, c, h => by
    unfold closL at h
    by_cases hk : (k == NameKind.free) = true
    · rw [if_pos hk] at h
      have hk' : k = .free := by simpa using hk
      rcases closL_mem h with h | ⟨h1, h2⟩
      · rcases List.mem_cons.mp h with e | h
        · cases e
          subst hk'
          exact .inr ⟨List.mem_cons_self, rfl⟩
        · exact .inl h
      · exact .inr ⟨List.mem_cons_of_mem _ h1, h2⟩
    · rw [if_neg hk] at h
      rcases closL_mem h with h | ⟨h1, h2⟩
      · exact .inl h
      · exact .inr ⟨List.mem_cons_of_mem _ h1, h2⟩
theorem closL_has {cells : List (Str × Addr)} : ∀ {names : List (Str × NameKind)} {acc : List (Str × Addr)} {x : Str}, (x, NameKind.free) ∈ names ∨ (∃ c, (x, c) ∈ acc) → ∃ c, (x, c) ∈ closL cells names acc
  | [], acc, x, h => by
    rcases h with h | h
    · cases h
    · exact h
  | (n, k) :: r, acc, x, h => by
    unfold closL
    by_cases hk : (k == NameKind.free) = true
    · rw [if_pos hk]
      refine closL_has ?_
      rcases h with h | ⟨c, h⟩
      · rcases List.mem_cons.mp h with e | h
        · cases e
          exact .inr ⟨_, List.mem_cons_self⟩
        · exact .inl h
      · exact .inr ⟨c, List.mem_cons_of_mem _ h⟩
    · rw [if_neg hk]
      refine closL_has ?_
      rcases h with h | h
      · rcases List.mem_cons.mp h with e | h
        · cases e
          exact absurd (beq_self_eq_true NameKind.free) hk
        · exact .inl h
      · exact .inr h
theorem lookup_of_mem {l : List (Str × Addr)} {x : Str} {c : Addr} (h : (x, c) ∈ l) : ∃ c', l.lookup x = some c' := by
  induction l with
  | nil => cases h
  | cons p r ih =>
    obtain ⟨n, a⟩ := p
    by_cases e : (x == n) = true
    · exact ⟨a, by simp [List.lookup_cons, e]⟩
    · have e' : (x == n) = false := by simpa using e
      rcases List.mem_cons.mp h with h | h
      · cases h; simp at e
      · obtain ⟨c', q⟩ := ih h
        exact ⟨c', by simp only [List.lookup_cons, e']; exact q⟩
theorem relabel_free {env : Env} : ∀ {names : List (Str × NameKind)} {x : Str} {k : NameKind}, (names.map fun (n, k) => if (k == NameKind.free && env.scope.kind == .function && env.kindOf n == some .cell) then (n, NameKind.cell) else (n, k)).lookup x = some k → (k = .cell ∨ k = .free) → (∀ y ∈ names, y.2 ≠ .cell) → (x, NameKind.free) ∈ names
  | [], x, k, h, _, _ => by cases h
  | (n, j) :: r, x, k, h, hk, hc => by
    rw [List.map_cons] at h
    by_cases e : (x == n) = true
    · have e' : x = n := by simpa using e
      subst e'
      have hj : j ≠ .cell := hc (x, j) List.mem_cons_self
      by_cases q : (j == NameKind.free && env.scope.kind == .function && env.kindOf x == some .cell) = true
      · have : j = .free := by
          rw [Bool.and_eq_true, Bool.and_eq_true] at q
          simpa using q.1.1
        subst this
        exact List.mem_cons_self
      · simp only [q, if_false, List.lookup_cons, beq_self_eq_true] at h
        have h' : j = k := by simpa using h
        subst h'
        rcases hk with z | z
        · exact absurd z hj
        · subst z; exact List.mem_cons_self
    · have e' : (x == n) = false := by simpa using e
      refine List.mem_cons_of_mem _ (relabel_free (env := env) (k := k) ?_ hk fun y hy => hc y (List.mem_cons_of_mem _ hy))
      have h' : List.lookup x ((if (j == NameKind.free && env.scope.kind == .function && env.kindOf n == some .cell) = true then (n, NameKind.cell) else (n, j)) :: _) = some k := h
      by_cases q : (j == NameKind.free && env.scope.kind == .function && env.kindOf n == some .cell) = true
      · rw [if_pos q, List.lookup_cons, e'] at h'; exact h'
      · rw [if_neg q, List.lookup_cons, e'] at h'; exact h'
theorem relabel_cell {env : Env} {x : Str} (h1 : env.scope.kind = .function) (h2 : env.kindOf x = some .cell) : ∀ {names : List (Str × NameKind)}, names.lookup x = some .free → (names.map fun (n, k) => if (k == NameKind.free && env.scope.kind == .function && env.kindOf n == some .cell) then (n, NameKind.cell) else (n, k)).lookup x = some .cell
  | [], h => by cases h
  | (n, j) :: r, h => by
    rw [List.map_cons]
    by_cases e : (x == n) = true
    · have e' : x = n := by simpa using e
      subst e'
      simp only [List.lookup_cons, beq_self_eq_true] at h
      have hj : j = .free := by simpa using h
      subst hj
      have q : ((NameKind.free == NameKind.free) && env.scope.kind == .function && env.kindOf x == some .cell) = true := by rw [h1, h2]; rfl
      show List.lookup x ((if ((NameKind.free == NameKind.free) && env.scope.kind == .function && env.kindOf x == some .cell) = true then (x, NameKind.cell) else (x, NameKind.free)) :: _) = _
      rw [if_pos q, List.lookup_cons, beq_self_eq_true]
    · have e' : (x == n) = false := by simpa using e
      simp only [List.lookup_cons, e'] at h
      by_cases q : (j == NameKind.free && env.scope.kind == .function && env.kindOf n == some .cell) = true
      · show List.lookup x ((if (j == NameKind.free && env.scope.kind == .function && env.kindOf n == some .cell) = true then (n, NameKind.cell) else (n, j)) :: _) = _
        rw [if_pos q, List.lookup_cons, e']; exact relabel_cell h1 h2 h
      · show List.lookup x ((if (j == NameKind.free && env.scope.kind == .function && env.kindOf n == some .cell) = true then (n, NameKind.cell) else (n, j)) :: _) = _
        rw [if_neg q, List.lookup_cons, e']; exact relabel_cell h1 h2 h
noncomputable def capOk (N' : List Str) (nt : Nat) (ci : List Nat) (Xn : List Str) (fsc scope : Scope) : Bool :=
  (List.range ci.length).all fun j => match ci[j]?, N'[nt + j]? with
    | some i, some x => Xn[i]? == some x && fsc.names.lookup x == some .cell && scope.names.lookup x == some .free
    | _, _ => false
theorem blkC {nt : Nat} {ci : List Nat} (Xn : List Str) (fsc : Scope) (hN : X.N = Xn) (hs : X.env.scope = fsc) (hc : ∀ y ∈ scope.names, y.2 ≠ .cell) (hk : scope.kind = .function) (hn : ∀ y ∈ scope.names, y.2 = .local → scope.names.lookup y.1 = some .local)
    (hfr : ∀ y ∈ scope.names, y.2 = .free → fsc.names.lookup y.1 = some .cell) (hl : N'.length = nt + ci.length) (cap : capOk N' nt ci Xn fsc scope = true) (ok : X.Ok) : BlkOk X scope (closL X.env.cells scope.names []) N' nt ci := by
  have fr : ∀ y ∈ scope.names, y.2 = .free → ∃ c, X.env.cells.lookup y.1 = some c := fun y hy e => ok.has y.1 (.inl (by show X.env.scope.names.lookup y.1 = _; rw [hs]; exact hfr y hy e))
  have sub : ∀ x c, (closL X.env.cells scope.names []).lookup x = some c → X.env.cells.lookup x = some c := fun x c h => by
    rcases closL_mem (PySem.mem_of_lookup h) with z | ⟨z1, z2⟩
    · cases z
    · obtain ⟨c', e⟩ := fr _ z1 rfl
      rw [show X.env.cells.lookup x = some c' from e] at z2 ⊢
      rw [z2]; rfl
  refine ⟨closureFor_eq fr, hc, hk, hn, sub, fun x h => ?_, hl, fun j i h => ?_⟩
  · have hm : (x, NameKind.free) ∈ scope.names := by
      rcases h with h | h
      · exact relabel_free h (.inl rfl) hc
      · exact relabel_free h (.inr rfl) hc
    obtain ⟨c, q⟩ := closL_has (cells := X.env.cells) (acc := []) (.inl hm)
    exact lookup_of_mem q
  · unfold capOk at cap
    rw [List.all_eq_true] at cap
    have hj : j < ci.length := (List.getElem?_eq_some_iff.mp h).1
    have q := cap j (List.mem_range.mpr hj)
    rw [h] at q
    cases e : N'[nt + j]? with
    | none => rw [e] at q; cases q
    | some x =>
      rw [e] at q
      simp only [Bool.and_eq_true, beq_iff_eq] at q
      refine ⟨x, rfl, by rw [hN]; exact q.1.1, by rw [hs]; exact q.1.2, .inl (relabel_cell ok.kind ?_ q.2)⟩
      show X.env.scope.names.lookup x = _
      rw [hs]; exact q.1.2
end
theorem Same.sqt {K : PySem.W.Frag} {H H' : Hp} {a : Addr} {xs : List V} (e : Same H H') (h : SqT K H a xs) : SqT K H' a xs := by
  rcases h with (h | ⟨o, h⟩) | h
  · exact .inl (.inl (e _ _ h))
  · exact .inl (.inr ⟨o, e _ _ h⟩)
  · exact .inr h
theorem Same.keepT {K : PySem.W.Frag} {H H' : Hp} (e : Same H H') : KeepT K H H' := fun _ _ h => e.sqt h
theorem same_new {H : Hp} {p : Addr} (h : H p = none) (o : HO) : Same H (upd H p o) := fun b u q => by rw [upd_ne (ne_of_none q h)]; exact q
theorem KeepT.trans {K : PySem.W.Frag} {H H1 H2 : Hp} (a : KeepT K H H1) (b : KeepT K H1 H2) : KeepT K H H2 := fun x xs h => b x xs (a x xs h)
theorem KeepT.refl {K : PySem.W.Frag} (H : Hp) : KeepT K H H := fun _ _ h => h
theorem keepT_lst {K : PySem.W.Frag} {H : Hp} {l : Addr} {xs : List V} {o : HO} (h : H l = some (.lst xs)) : KeepT K H (upd H l o) := fun a ys q => by
  rcases q with (q | ⟨ob, q⟩) | q
  · exact .inl (.inl (by rw [upd_ne (ne_of q h (by intro z; cases z))]; exact q))
  · exact .inl (.inr ⟨ob, by rw [upd_ne (ne_of q h (by intro z; cases z))]; exact q⟩)
  · exact .inr q
theorem keepT_new {K : PySem.W.Frag} {H : Hp} {l : Addr} {o : HO} (h : H l = none) : KeepT K H (upd H l o) := (same_new h o).keepT
theorem Same.write {H0 H : Hp} {l : Addr} {o : HO} (e : Same H0 H) (h : H0 l = none) : Same H0 (upd H l o) := fun b u q => by
  rw [upd_ne (ne_of_none q h)]; exact e b u q
theorem sqL_ne {K : PySem.W.Frag} {H : Hp} {l a : Addr} {xs : List V} {o : HO} (q : SqL K H a xs) (h : a ≠ l) : SqL K (upd H l o) a xs := by
  rcases q with (q | ⟨ob, q⟩) | q
  · exact .inl (.inl (by rw [upd_ne h]; exact q))
  · exact .inl (.inr ⟨ob, by rw [upd_ne h]; exact q⟩)
  · exact .inr q
theorem cxOf_K (CX : CXT) (P : Program) (w : World) (K : PySem.W.Frag) (mg : Str → Option Value) (base : Heap) (N : List Str) (qual : Str) (scope : Scope) (f : Addr) (cd : Value) (A : Around) (outer : List Env) (s : Shared) (H : Hp) (E : XK) : (cxOf CX P w K mg base N qual scope f cd A outer s H E).K = K := rfl
theorem blk_K (X : Cx) (N' : List Str) (scope : Scope) (cl : List (Str × Addr)) (s : Shared) (H : Hp) (C : Addr) (ex : List Addr) : (blk X N' scope cl s H C ex).K = X.K := rfl
theorem scal_int (a b : Int) : scal (.int a) (.int b) = true := rfl
theorem scal_str (a b : Str) : scal (.str a) (.str b) = true := rfl
theorem scal_bl (a b : Bool) : scal (.bl a) (.bl b) = true := rfl
theorem mul_left {i j : Int} (h1 : -(2 ^ 64) < i) (h2 : i < 2 ^ 64) : CMul i j := .inl ⟨h1, h2⟩
theorem mul_right {i j : Int} (h1 : -(2 ^ 64) < j) (h2 : j < 2 ^ 64) : CMul i j := .inr ⟨h1, h2⟩
theorem seq_then {t u : TS} {D : Ends} {σ : St} {H : Hp} (R : St → Hp → Prop) (rest : ∀ σ' H', R σ' H' → u D σ' H') (first : ∀ C : St → Hp → Prop, (∀ σ' H', R σ' H' → C σ' H') → t { D with nx := C } σ H) : tSeq t u D σ H := first (u D) rest
theorem lcW_range {K : PySem.W.Frag} {σ0 : St} {n : Nat} {lo : Int} {acc : Addr} {g : TG} {te : TE} {Q : VK} {H : Hp} (Pv : Nat → List V → Hp → Prop) (h0 : Pv 0 [] (upd H acc (.lst []))) (hl : ∀ i ys H2, i ≤ n → Pv i ys H2 → H2 acc = some (.lst ys) ∧ ys.length < sizeLine)
    (hs : ∀ i ys H2, i < n → Pv i ys H2 → ∀ C : VK, (∀ y H5, H5 acc = some (.lst ys) → Pv (i + 1) (ys ++ [y]) (upd H5 acc (.lst (ys ++ [y]))) → C y H5) → g (.int (lo + i)) σ0 H2 fun σ4 H4 => Wk σ0 σ4 ∧ te σ4 H4 C) (hd : ∀ ys H2, Pv n ys H2 → Q (.ref acc) H2) :
    ∃ W : Nat → Nat → List V → Hp → Prop, (∃ m, W 0 m [] (upd H acc (.lst []))) ∧ lcW K σ0 (Itr lo n) acc g te Q W := by
  refine ⟨fun i m ys H2 => m = n - i ∧ i ≤ n ∧ Pv i ys H2, ⟨n, by simp, Nat.zero_le _, h0⟩, ?_⟩
  rintro i m ys H2 ⟨rfl, hi, p⟩
  obtain ⟨a, b⟩ := hl i ys H2 hi p
  refine ⟨a, b, ?_⟩
  by_cases hlt : i < n
  · refine .inr ⟨hlt, fun x H3 y => ?_⟩
    obtain ⟨e, y⟩ := y
    subst e y
    exact hs i ys _ hlt p _ fun v H5 z1 z2 => ⟨z1, n - (i + 1), by omega, rfl, hlt, z2⟩
  · have e : i = n := by omega
    subst e
    exact .inl ⟨Nat.le_refl _, hd ys H2 p⟩
theorem str_ext {x y : Str} (h : x.cps.toList = y.cps.toList) : x = y := by
  obtain ⟨a⟩ := x
  obtain ⟨b⟩ := y
  have : a = b := by simpa using congrArg List.toArray h
  rw [this]
theorem cps_append (x y : Str) : (x ++ y).cps.toList = x.cps.toList ++ y.cps.toList := by
  show (x.cps ++ y.cps).toList = _
  simp
theorem len_cps (x : Str) : x.length = x.cps.toList.length := by simp [Str.length]
theorem join_cps : ∀ ys : List Str, (Txt.join Str.empty ys).cps.toList = (ys.map fun y => y.cps.toList).flatten := by
  intro ys
  show (Builtin.Str.glued Str.empty ys).cps.toList = _
  rw [StrLaws.glued_eq_join]
  induction ys with
  | nil => rfl
  | cons y r ih =>
    cases r with
    | nil => simp [Str.join]
    | cons z r =>
      show (y ++ Str.empty ++ Str.join Str.empty (z :: r)).cps.toList = _
      rw [cps_append, cps_append, ih]
      simp [Str.empty]
theorem slice_cps (x : Str) (a b : Nat) (hab : a ≤ b) (hb : b ≤ x.length) : (Txt.slice x (some (a : Int)) (some (b : Int))).cps.toList = (x.cps.toList.drop a).take (b - a) := by
  have e : Txt.slice x (some (a : Int)) (some (b : Int)) = StrLaws.sliceText x (some (a : Int)) (some (b : Int)) := rfl
  rw [e, StrLaws.sliceText_nat x hab hb]
end L2
set_option Elab.async false
set_option linter.all false
set_option maxRecDepth 100000
set_option maxHeartbeats 2000000
namespace Ken
open PySem L2
theorem boot_len : bootBuiltins "len" = some (.builtin "len") := by decide +kernel
theorem boot_isinstance : bootBuiltins "isinstance" = some (.builtin "isinstance") := by decide +kernel
theorem boot_max : bootBuiltins "max" = some (.builtin "max") := by decide +kernel
theorem boot_str : bootBuiltins "str" = some (.type "str") := by decide +kernel
theorem boot_int : bootBuiltins "int" = some (.type "int") := by decide +kernel
theorem boot_bool : bootBuiltins "bool" = some (.type "bool") := by decide +kernel
theorem boot_tuple : bootBuiltins "tuple" = some (.type "tuple") := by decide +kernel
theorem kit_ts (K : PySem.W.Frag) : PySem.W.kitOne K (.type "tuple") (.type "str") = some false := rfl
inductive Kd where
  | both | one | thn
  deriving DecidableEq
noncomputable def Kd.str : Kd → Str
  | .both => "both"
  | .one => "one"
  | .thn => "then"
inductive Tm where
  | low
  | ltr (w : Str)
  | nd (k : Kd) (a b : Tm)
  deriving DecidableEq
noncomputable def Tm.data : Tm → PyData
  | .low => .tuple [.str "low"]
  | .ltr w => .tuple [.str "letter", .str w]
  | .nd k a b => .tuple [.str k.str, a.data, b.data]
noncomputable def Tm.parts : Tm → Nat
  | .low => 1
  | .ltr _ => 1
  | .nd _ a b => 1 + a.parts + b.parts
noncomputable def Tm.deep : Tm → Nat
  | .low => 1
  | .ltr _ => 1
  | .nd _ a b => 1 + max a.deep b.deep
theorem Tm.parts_pos : ∀ t : Tm, 1 ≤ t.parts
  | .low => Nat.le_refl _
  | .ltr _ => Nat.le_refl _
  | .nd _ a b => by show 1 ≤ 1 + a.parts + b.parts; omega
noncomputable def Word (x : Str) : Prop := 1 ≤ x.cps.toList.length ∧ x.cps.toList.length ≤ 8 ∧ ∀ c ∈ x.cps.toList, 97 ≤ c ∧ c ≤ 122
theorem Word.strOk {x : Str} (h : Word x) : PySem.PyData.strOk x = true := by
  unfold PySem.PyData.strOk
  rw [Array.all_eq_true_iff_forall_mem]
  intro c hc
  have := h.2.2 c (by simpa using hc)
  exact decide_eq_true (by omega)
noncomputable def Tm.ok : Tm → Prop
  | .low => True
  | .ltr w => Word w
  | .nd _ a b => a.ok ∧ b.ok
noncomputable abbrev IsT (K : PySem.W.Frag) (H : Hp) (v : V) (t : Tm) : Prop := Dn K H v t.data
theorem Tm.noList : ∀ t : Tm, L2.noList t.data = true
  | .low => rfl
  | .ltr _ => rfl
  | .nd k a b => by
    show (true && (L2.noList a.data && (L2.noList b.data && true))) = true
    rw [a.noList, b.noList]; rfl
theorem Tm.lay : ∀ t : Tm, t.ok → t.data.canLay0 = true
  | .low, _ => by
    show (PySem.PyData.strOk "low" && true) = true
    decide +kernel
  | .ltr w, h => by
    show (PySem.PyData.strOk "letter" && (PySem.PyData.strOk w && true)) = true
    rw [Word.strOk h]; decide +kernel
  | .nd k a b, h => by
    show (PySem.PyData.strOk k.str && (a.data.canLay0 && (b.data.canLay0 && true))) = true
    rw [a.lay h.1, b.lay h.2]
    cases k <;> decide +kernel
theorem Tm.depth : ∀ t : Tm, t.data.depth = t.deep
  | .low => rfl
  | .ltr _ => rfl
  | .nd k a b => by
    show max 0 (max a.data.depth (max b.data.depth 0)) + 1 = 1 + max a.deep b.deep
    rw [a.depth, b.depth]; omega
section
variable {K : PySem.W.Frag} {H H' : Hp} {v : V}
theorem IsT.keep {t : Tm} (h : IsT K H v t) (k : KeepT K H H') : IsT K H' v t := Dn.keepT k t.noList h
theorem isT_low : IsT K H v .low ↔ ∃ a, v = .ref a ∧ SqT K H a [.str "low"] := by
  show Dn K H v (.tuple [.str "low"]) ↔ _
  rw [Dn]
  constructor
  · rintro ⟨a, xs, rfl, hs, hd⟩
    rw [DnAll] at hd
    obtain ⟨x, r, rfl, h1, h2⟩ := hd
    rw [Dn] at h1
    rw [DnAll] at h2
    subst h1; subst h2
    exact ⟨a, rfl, hs⟩
  · rintro ⟨a, rfl, hs⟩
    refine ⟨a, _, rfl, hs, ?_⟩
    rw [DnAll]
    exact ⟨_, _, rfl, by rw [Dn], by rw [DnAll]⟩
theorem isT_ltr {w : Str} : IsT K H v (.ltr w) ↔ ∃ a, v = .ref a ∧ SqT K H a [.str "letter", .str w] := by
  show Dn K H v (.tuple [.str "letter", .str w]) ↔ _
  rw [Dn]
  constructor
  · rintro ⟨a, xs, rfl, hs, hd⟩
    rw [DnAll] at hd
    obtain ⟨x, r, rfl, h1, h2⟩ := hd
    rw [DnAll] at h2
    obtain ⟨y, r, rfl, h3, h4⟩ := h2
    rw [Dn] at h1 h3
    rw [DnAll] at h4
    subst h1; subst h3; subst h4
    exact ⟨a, rfl, hs⟩
  · rintro ⟨a, rfl, hs⟩
    refine ⟨a, _, rfl, hs, ?_⟩
    rw [DnAll]
    refine ⟨_, _, rfl, by rw [Dn], ?_⟩
    rw [DnAll]
    exact ⟨_, _, rfl, by rw [Dn], by rw [DnAll]⟩
theorem isT_nd {k : Kd} {a b : Tm} : IsT K H v (.nd k a b) ↔ ∃ p x y, v = .ref p ∧ SqT K H p [.str k.str, x, y] ∧ IsT K H x a ∧ IsT K H y b := by
  show Dn K H v (.tuple [.str k.str, a.data, b.data]) ↔ _
  rw [Dn]
  constructor
  · rintro ⟨p, xs, rfl, hs, hd⟩
    rw [DnAll] at hd
    obtain ⟨x, r, rfl, h1, h2⟩ := hd
    rw [DnAll] at h2
    obtain ⟨y, r, rfl, h3, h4⟩ := h2
    rw [DnAll] at h4
    obtain ⟨z, r, rfl, h5, h6⟩ := h4
    rw [Dn] at h1
    rw [DnAll] at h6
    subst h1; subst h6
    exact ⟨p, y, z, rfl, hs, h3, h5⟩
  · rintro ⟨p, x, y, rfl, hs, h1, h2⟩
    refine ⟨p, _, rfl, hs, ?_⟩
    rw [DnAll]
    refine ⟨_, _, rfl, by rw [Dn], ?_⟩
    rw [DnAll]
    refine ⟨_, _, rfl, h1, ?_⟩
    rw [DnAll]
    exact ⟨_, _, rfl, h2, by rw [DnAll]⟩
end
theorem eqvAll3 (a b c d e f : PyData) : PyData.eqvAll [a, b, c] [d, e, f] = (PyData.eqv a d && (PyData.eqv b e && PyData.eqv c f)) := by
  simp [PyData.eqvAll]
theorem Kd.str_inj {a b : Kd} (h : a.str = b.str) : a = b := by
  cases a <;> cases b <;> first | rfl | exact absurd h (by decide)
theorem Tm.eqv : ∀ s t : Tm, PyData.eqv s.data t.data = decide (s = t)
  | .low, .low => by decide
  | .low, .ltr w => by
    show PyData.eqvAll [.str "low"] [.str "letter", .str w] = _
    simp [PyData.eqvAll]
  | .low, .nd k a b => by
    show PyData.eqvAll [.str "low"] [.str k.str, a.data, b.data] = _
    simp [PyData.eqvAll]
  | .ltr w, .low => by
    show PyData.eqvAll [.str "letter", .str w] [.str "low"] = _
    simp [PyData.eqvAll]
  | .ltr w, .ltr v => by
    show (PyData.eqv (.str "letter") (.str "letter") && (PyData.eqv (.str w) (.str v) && true)) = _
    simp [PyData.eqv]
    rfl
  | .ltr w, .nd k a b => by
    show PyData.eqvAll [.str "letter", .str w] [.str k.str, a.data, b.data] = _
    simp [PyData.eqvAll]
  | .nd k a b, .low => by
    show PyData.eqvAll [.str k.str, a.data, b.data] [.str "low"] = _
    simp [PyData.eqvAll]
  | .nd k a b, .ltr w => by
    show PyData.eqvAll [.str k.str, a.data, b.data] [.str "letter", .str w] = _
    simp [PyData.eqvAll]
  | .nd k a b, .nd l c d => by
    show PyData.eqvAll [.str k.str, a.data, b.data] [.str l.str, c.data, d.data] = _
    rw [eqvAll3, a.eqv c, b.eqv d]
    have e : PyData.eqv (.str k.str) (.str l.str) = decide (k = l) := by
      show (k.str == l.str) = _
      by_cases h : k = l
      · subst h; simp
      · have : ¬ k.str = l.str := fun z => h (Kd.str_inj z)
        rw [decide_eq_false h]; exact beq_eq_false_iff_ne.mpr this
    rw [e]
    by_cases h1 : k = l <;> by_cases h2 : a = c <;> by_cases h3 : b = d <;> simp [h1, h2, h3]
end Ken
set_option Elab.async false
set_option linter.all false
set_option maxRecDepth 100000
set_option maxHeartbeats 2000000
namespace Ken
open PySem L2
noncomputable def mix (c k : Int) : Int := ((c + 1) * (48271 + 118 * k) % 2147483629 / 977 * 16807 + (c + 1) * (48271 + 118 * k) % 2147483629 * (k * k + 7) + k) % 2147483587
theorem mix_nn (c k : Int) : 0 ≤ mix c k := by unfold mix; exact Int.emod_nonneg _ (by decide)
noncomputable def sp_mix : Sp := fun vs H Q _ => ∃ c k : Int, vs = [.int c, .int k] ∧ 0 ≤ k ∧ k ≤ 100000 ∧ Q (.int (mix c k)) H
noncomputable def cellOf (ns : List Int) (k : Int) : Int := mix (if k < (ns.length : Int) then (ns[k.toNat]?.getD 0) % 2147483647 else 0) (k + 101)
theorem cell_nn (ns : List Int) (k : Int) : 0 ≤ cellOf ns k := mix_nn _ _
noncomputable def sp_cell (K : PySem.W.Frag) : Sp := fun vs H Q _ => ∃ (a : Addr) (ns : List Int) (k : Int), vs = [.ref a, .int k] ∧ SqL K H a (ns.map V.int) ∧ ns.length ≤ 63 ∧ 0 ≤ k ∧ k ≤ 1000 ∧ Q (.int (cellOf ns k)) H
noncomputable def Words (ws : List Str) : Prop := 2 ≤ ws.length ∧ ws.length ≤ 6 ∧ ∀ w ∈ ws, Word w
noncomputable def sp_words : Sp := fun vs H Q _ => ∃ c m : Int, vs = [.int c, .int m] ∧ 0 ≤ c ∧ 2 ≤ m ∧ m ≤ 6 ∧
  ∀ (r : Addr) (H' : Hp) (ws : List Str), Same H H' → H r = none → H' r = some (.lst (ws.map V.str)) → Words ws → Q (.ref r) H'
noncomputable def Tm.inW (ws : List Str) : Tm → Prop
  | .low => True
  | .ltr w => w ∈ ws
  | .nd _ a b => a.inW ws ∧ b.inW ws
theorem Tm.inW.ok {ws : List Str} (hw : ∀ w ∈ ws, Word w) : ∀ {t : Tm}, t.inW ws → t.ok
  | .low, _ => trivial
  | .ltr w, h => hw w h
  | .nd _ a b, h => ⟨Tm.inW.ok hw h.1, Tm.inW.ok hw h.2⟩
noncomputable def Made (K : PySem.W.Frag) (H : Hp) (ws : List Str) (p d : Nat) (r : V) (t : Tm) : Prop := IsT K H r t ∧ t.inW ws ∧ t.parts ≤ p ∧ t.deep ≤ d
theorem Made.mono {K : PySem.W.Frag} {H H' : Hp} {ws : List Str} {p d p' d' : Nat} {r : V} {t : Tm} (h : Made K H ws p d r t) (k : KeepT K H H') (hp : p ≤ p') (hd : d ≤ d') : Made K H' ws p' d' r t :=
  ⟨h.1.keep k, h.2.1, Nat.le_trans h.2.2.1 hp, Nat.le_trans h.2.2.2 hd⟩
noncomputable def sp_leaf (K : PySem.W.Frag) : Sp := fun vs H Q _ => ∃ (c : Int) (wa : Addr) (ws : List Str), vs = [.int c, .ref wa] ∧ SqL K H wa (ws.map V.str) ∧ Words ws ∧
  ∀ (r : V) (H' : Hp) (t : Tm), Same H H' → Made K H' ws 1 1 r t → Q r H'
noncomputable def rk (n : Int) : Nat := if n < 40 then n.toNat else if n ≤ 53 then 40 else if n ≤ 71 then 41 else if n ≤ 95 then 42 else if n ≤ 127 then 43 else if n ≤ 170 then 44 else if n ≤ 227 then 45 else 46
theorem rk_le (n : Int) : rk n ≤ 46 := by
  unfold rk
  repeat' split
  all_goals omega
theorem rk_two {n : Int} (h0 : 3 ≤ n) (h1 : n < 40) : rk (n - 2) < rk n := by
  unfold rk
  rw [if_pos (by omega), if_pos (by omega)]
  omega
theorem rk_less {n m : Int} (h0 : 3 ≤ n) (h1 : n < 40) (h2 : m ≤ n - 1) : rk m < rk n := by
  unfold rk
  rw [if_pos (by omega), if_pos (by omega)]
  omega
theorem rk_big {n m : Int} (h0 : 40 ≤ n) (h1 : n ≤ 300) (h2 : m ≤ n - 1 - (n - 1) / 4) : rk m < rk n := by
  unfold rk
  rw [if_neg (show ¬ n < 40 by omega)]
  repeat' split
  all_goals omega
noncomputable def sp_stm (K : PySem.W.Frag) (n : Nat) : Sp := fun vs H Q _ => ∃ (c size : Int) (wa : Addr) (ws : List Str), vs = [.int c, .int size, .ref wa] ∧ 0 ≤ c ∧ 0 ≤ size ∧ size ≤ 300 ∧ rk size < n ∧ SqL K H wa (ws.map V.str) ∧ Words ws ∧
  ∀ (r : V) (H' : Hp) (t : Tm), Same H H' → Made K H' ws (max 1 size.toNat) (rk size + 1) r t → Q r H'
noncomputable def sp_comb (K : PySem.W.Frag) : Sp := fun vs H Q _ => ∃ (c many : Int) (wa : Addr) (ws : List Str), vs = [.int c, .int many, .ref wa] ∧ 0 ≤ c ∧ 0 ≤ many ∧ many ≤ 100 ∧ SqL K H wa (ws.map V.str) ∧ Words ws ∧
  ∀ (r : V) (H' : Hp) (t : Tm), Same H H' → Made K H' ws (1 + 2 * many.toNat) (1 + many.toNat) r t → Q r H'
noncomputable def sp_drawn (K : PySem.W.Frag) : Sp := fun vs H Q _ => ∃ (c most : Int) (wa : Addr) (ws : List Str), vs = [.int c, .int most, .ref wa] ∧ 0 ≤ c ∧ 1 ≤ most ∧ most ≤ 40 ∧ SqL K H wa (ws.map V.str) ∧ Words ws ∧
  ∀ (r : V) (H' : Hp) (t : Tm), Same H H' → Made K H' ws 300 47 r t → Q r H'
section
variable {K : PySem.W.Frag} {H : Hp} {p : Addr}
theorem made_low (ws : List Str) (hp : H p = none) : Made K (upd H p (.tup [.str "low"])) ws 1 1 (.ref p) .low :=
  ⟨isT_low.mpr ⟨p, rfl, .inl (.inl upd_same)⟩, trivial, Nat.le_refl _, Nat.le_refl _⟩
theorem made_ltr {ws : List Str} {w : Str} (hw : w ∈ ws) (hp : H p = none) : Made K (upd H p (.tup [.str "letter", .str w])) ws 1 1 (.ref p) (.ltr w) :=
  ⟨isT_ltr.mpr ⟨p, rfl, .inl (.inl upd_same)⟩, hw, Nat.le_refl _, Nat.le_refl _⟩
theorem made_nd {ws : List Str} {k : Kd} {x y : V} {a b : Tm} {pa da pb db : Nat} (ha : Made K H ws pa da x a) (hb : Made K H ws pb db y b) (hp : H p = none) :
    Made K (upd H p (.tup [.str k.str, x, y])) ws (1 + pa + pb) (1 + max da db) (.ref p) (.nd k a b) := by
  refine ⟨isT_nd.mpr ⟨p, x, y, rfl, .inl (.inl upd_same), ha.1.keep (keepT_new hp), hb.1.keep (keepT_new hp)⟩, ⟨ha.2.1, hb.2.1⟩, ?_, ?_⟩
  · show 1 + a.parts + b.parts ≤ _
    have := ha.2.2.1
    have := hb.2.2.1
    omega
  · show 1 + max a.deep b.deep ≤ _
    have := ha.2.2.2
    have := hb.2.2.2
    omega
end
theorem word_mul {c : Nat} {n : Int} (h1 : 97 ≤ c) (h2 : c ≤ 122) (h3 : 1 ≤ n) (h4 : n ≤ 8) : Word (Txt.mul ⟨#[c]⟩ n) := by
  unfold Word
  rw [PyProof.Rows.mul_one_list]
  refine ⟨by rw [List.length_replicate]; omega, by rw [List.length_replicate]; omega, fun d hd => ?_⟩
  rw [List.mem_replicate] at hd
  omega
theorem word_mid {c d : Nat} {a b : Int} (h1 : 97 ≤ c) (h2 : c ≤ 122) (h3 : 97 ≤ d) (h4 : d ≤ 122) (h5 : 0 ≤ a) (h6 : 0 ≤ b) (h7 : a + b ≤ 7) : Word (Txt.mul ⟨#[c]⟩ a ++ ⟨#[d]⟩ ++ Txt.mul ⟨#[c]⟩ b) := by
  unfold Word
  rw [cps_append, cps_append, PyProof.Rows.mul_one_list, PyProof.Rows.mul_one_list]
  refine ⟨by simp only [List.length_append, List.length_replicate, List.length_cons, List.length_nil]; omega, by simp only [List.length_append, List.length_replicate, List.length_cons, List.length_nil]; omega, fun e he => ?_⟩
  simp only [List.mem_append, List.mem_replicate, List.mem_cons, List.not_mem_nil, or_false] at he
  omega
theorem mul_len {c : Nat} {n : Int} : (Txt.mul ⟨#[c]⟩ n).length = n.toNat := by rw [len_cps, PyProof.Rows.mul_one_list, List.length_replicate]
noncomputable def wordB (x : Str) : Bool := decide (1 ≤ x.cps.toList.length) && decide (x.cps.toList.length ≤ 8) && x.cps.toList.all fun c => decide (97 ≤ c) && decide (c ≤ 122)
theorem word_of {x : Str} (h : wordB x = true) : Word x := by
  unfold wordB at h
  simp only [Bool.and_eq_true, decide_eq_true_eq, List.all_eq_true] at h
  exact ⟨h.1.1, h.1.2, fun c hc => by have := h.2 c hc; simpa using this⟩
noncomputable def Six (H0 H : Hp) (p : Addr) (ws : List Str) : Prop := Same H0 H ∧ H0 p = none ∧ H p = some (.lst (ws.map V.str)) ∧ ws.length = 6 ∧ ∀ w ∈ ws, Word w
theorem cut_map (ws : List Str) (lo hi : Option Int) : cutV (ws.map V.str) lo hi = ((ws.drop (HT.sIx ws.length 0 lo)).take (HT.sIx ws.length ws.length hi - HT.sIx ws.length 0 lo)).map V.str := by
  unfold cutV
  rw [List.length_map, ← List.map_drop, ← List.map_take]
noncomputable def kd4 (i : Int) : Kd := if i = 0 then .both else if i = 1 then .one else .thn
theorem at_kd4 {i : Int} (h0 : 0 ≤ i) (h1 : i < 4) : atI [V.str "both", V.str "one", V.str "then", V.str "then"] i = some (.str (kd4 i).str) := by
  have : i = 0 ∨ i = 1 ∨ i = 2 ∨ i = 3 := by omega
  rcases this with rfl | rfl | rfl | rfl <;> rfl
theorem at_list {α : Type} {xs : List α} {i : Int} (h0 : 0 ≤ i) (h1 : i < (xs.length : Int)) : ∃ v, v ∈ xs ∧ atI xs i = some v := by
  obtain ⟨j, rfl⟩ := Int.eq_ofNat_of_zero_le h0
  have hj : j < xs.length := by omega
  exact ⟨xs[j], List.getElem_mem hj, atI_nat (List.getElem?_eq_getElem hj)⟩
end Ken
set_option Elab.async false
set_option linter.all false
set_option maxRecDepth 100000
set_option maxHeartbeats 2000000
namespace Ken
open PySem L2
theorem small1M {n : Nat} (h : n ≤ 1000000) : n < sizeLine := Nat.lt_of_le_of_lt h (by rw [sizeLine_eq]; decide)
noncomputable def Kd.sgn : Kd → Nat
  | .both => 38
  | .one => 124
  | .thn => 62
noncomputable abbrev Itm := Str ⊕ Tm
noncomputable def itW : Itm → Nat
  | .inl _ => 1
  | .inr t => 6 * t.parts
noncomputable def itsW (is : List Itm) : Nat := (is.map itW).sum
theorem itsW_cons (i : Itm) (is : List Itm) : itsW (i :: is) = itW i + itsW is := by simp [itsW]
theorem len_le_w : ∀ is : List Itm, is.length ≤ itsW is
  | [] => Nat.le_refl _
  | i :: is => by
    rw [itsW_cons, List.length_cons]
    have := len_le_w is
    have : 1 ≤ itW i := by
      cases i with
      | inl x => exact Nat.le_refl _
      | inr t => have := t.parts_pos; show 1 ≤ 6 * t.parts; omega
    omega
noncomputable def DIt (K : PySem.W.Frag) (H : Hp) : V → Itm → Prop
  | v, .inl x => v = .str x
  | v, .inr t => IsT K H v t ∧ t.ok
noncomputable abbrev DIts (K : PySem.W.Frag) (H : Hp) : List V → List Itm → Prop := Paired (DIt K H)
theorem DIt.keep {K : PySem.W.Frag} {H H' : Hp} (k : KeepT K H H') : ∀ {v : V} {i : Itm}, DIt K H v i → DIt K H' v i
  | _, .inl _, h => h
  | _, .inr _, h => ⟨h.1.keep k, h.2⟩
theorem DIts.keep {K : PySem.W.Frag} {H H' : Hp} (k : KeepT K H H') {vs : List V} {is : List Itm} (h : DIts K H vs is) : DIts K H' vs is := Paired.mapP h fun _ _ q => q.keep k
theorem isT_tup {K : PySem.W.Frag} {H : Hp} {v : V} {t : Tm} (h : IsT K H v t) : ∃ a xs, v = .ref a ∧ SqT K H a xs := by
  cases t with
  | low => obtain ⟨a, rfl, hs⟩ := isT_low.mp h; exact ⟨a, _, rfl, hs⟩
  | ltr w => obtain ⟨a, rfl, hs⟩ := isT_ltr.mp h; exact ⟨a, _, rfl, hs⟩
  | nd k x y => obtain ⟨a, vx, vy, rfl, hs, _, _⟩ := isT_nd.mp h; exact ⟨a, _, rfl, hs⟩
theorem paired_len {K : PySem.W.Frag} {H : Hp} {vs : List V} {is : List Itm} (h : DIts K H vs is) : vs.length = is.length := Paired.length h
noncomputable def itD : Itm → PyData
  | .inl x => .str x
  | .inr t => t.data
noncomputable def itOk : Itm → Prop
  | .inl x => PyData.strOk x = true
  | .inr t => t.ok
theorem itD_lay : ∀ {i : Itm}, itOk i → (itD i).canLay0 = true
  | .inl x, h => h
  | .inr t, h => t.lay h
theorem dnAll_append {K : PySem.W.Frag} {H : Hp} : ∀ {a b : List V} {c d : List PyData}, DnAll K H a c → DnAll K H b d → DnAll K H (a ++ b) (c ++ d)
  | a, b, [], d, h, q => by rw [DnAll] at h; subst h; exact q
  | a, b, e :: c, d, h, q => by
    rw [DnAll] at h
    obtain ⟨x, r, rfl, h1, h2⟩ := h
    show DnAll K H (x :: (r ++ b)) (e :: (c ++ d))
    rw [DnAll]
    exact ⟨x, _, rfl, h1, dnAll_append h2 q⟩
theorem its_dn {K : PySem.W.Frag} {H : Hp} : ∀ {st : List V} {is : List Itm}, DIts K H st is → DnAll K H st.reverse (is.map itD).reverse
  | _, _, .nil => by show DnAll K H [] []; rw [DnAll]
  | _, _, .cons (a := v) (b := i) h t => by
    rw [List.reverse_cons, List.map_cons, List.reverse_cons]
    refine dnAll_append (its_dn t) ?_
    rw [DnAll]
    refine ⟨v, [], rfl, ?_, by rw [DnAll]⟩
    cases i with
    | inl x => show Dn K H v (.str x); rw [Dn]; exact h
    | inr t => exact h.1
theorem canLay_list {ds : List PyData} (h : ∀ d ∈ ds, d.canLay0 = true) : (PyData.list ds).canLay0 = true := by
  show PyData.canLayAll0 ds = true
  induction ds with
  | nil => rfl
  | cons d ds ih =>
    show (d.canLay0 && PyData.canLayAll0 ds) = true
    rw [h d List.mem_cons_self, ih fun e he => h e (List.mem_cons_of_mem _ he)]; rfl
theorem eqv_nil (ds : List PyData) : PyData.eqv (.list ds) (.list []) = ds.isEmpty := by
  cases ds <;> rfl
end Ken
set_option Elab.async false
set_option linter.all false
set_option maxRecDepth 100000
set_option maxHeartbeats 2000000
namespace Ken
open PySem L2
noncomputable def sp_law (K : PySem.W.Frag) : Sp := fun vs H Q _ => ∃ (a : Addr) (ns : List Int), vs = [.ref a] ∧ SqL K H a (ns.map V.int) ∧ ns.length ≤ 63 ∧ ∀ H', Q (.bl true) H'
end Ken
set_option Elab.async false
set_option linter.all false
set_option maxRecDepth 100000
set_option maxHeartbeats 2000000
namespace L2
open PySem PySem.Spec PyProof.Rows
noncomputable def Its (x : Str) : It := ⟨fun i _ => i < x.length, fun i H v H' => H' = H ∧ ∃ c, x.cps.toList[i]? = some c ∧ v = .str ⟨#[c]⟩, fun i _ => x.length ≤ i⟩
theorem turn_str {P : Program} {w : World} {K : PySem.W.Frag} {tg : Expr} (it : Addr) (x : Str) (t : Tok) : Turn P w K tg (Its x) [it] it (fun i h => h.IsStrIter it "str_ascii_iterator" x t i) where
  mem := by simp
  obj := fun i h st b hb => by
    have e : b = it := by simpa using hb
    subst e
    obtain ⟨o, e, c, d⟩ := st
    exact ⟨o, e, fun v z => by rw [d] at z; cases z⟩
  keep := fun i h h' st k => by
    obtain ⟨o, e, c, d⟩ := st
    exact ⟨o, k it (by simp) o e, c, d⟩
  item := by
    intro X hP hw hK hc i pins s σ H E I hf st hg
    subst hP hw hK
    have hg' : i < x.cps.size := hg
    obtain ⟨f0, f1, f2, f3, f4, f5⟩ := hf it (by simp)
    refine wpAny_pyNext_ascii_item st (c := x.cps[i]) (by simp [hg']) fun h' st' sb => ?_
    have I1 : Inv X pins σ H { s with heap := h', toks := s.toks + 1 } := I.turned (t' := s.toks + 1) (fun b o hb e => (sb.2 b hb).trans e) f0 f1 f3 f4 f5
    obtain ⟨o, e, c, d⟩ := id st'
    exact ⟨_, rfl, go_of (s := { s with heap := h', toks := s.toks + 1 }) e c d (by decide) ⟨.str _, H, I1, ⟨_, rfl⟩, ⟨rfl, _, by simp [hg'], rfl⟩, st', fun b hb => (hf b hb).1⟩⟩
  done := by
    intro X hP hw hK hc i pins s σ H E I hf st hg
    subst hP hw hK
    have hg' : x.cps.size ≤ i := hg
    obtain ⟨f0, f1, f2, f3, f4, f5⟩ := hf it (by simp)
    exact wpAny_pyNext_ascii_end (I.ok.hd hc) st (by simp; omega) fun h' eb => ⟨rfl, I.turned (t' := s.toks) (fun b o hb e => eb b o hb e) f0 f1 f3 f4 f5⟩
  self := fun _ _ _ _ _ st h => wpAny_pyIter_striter_ascii st h
section
variable {X : Cx}
noncomputable def iStr (te : TE) : TI := fun σ H R => te σ H fun v H1 => ∃ x : Str, v = .str x ∧ (x.cps.all fun c => decide (c < 128)) = true ∧ R (Its x) H1
theorem pi_str {tg e : Expr} {te : TE} (he : PE X e te) : PI X tg e (iStr te) := by
  intro pins s σ H R I h
  refine thn (he pins s σ H _ I h) fun v s1 ⟨x, H1, I1, r1, q1⟩ => ?_
  obtain ⟨x, rfl, ha, q⟩ := q1
  obtain ⟨t, rfl⟩ := r1
  refine wpAny_pyIter_strU ?_
  have et : strIterType x = "str_ascii_iterator" := by rw [strIterType, if_pos ha]
  rw [et]
  have I2 : Inv X pins σ H1 { s1 with heap := s1.heap.push { cls := .type "str_ascii_iterator", data := .fields #[.str x t, .int 0 0] } } := I1.kept (t' := s1.toks) fun b o e => Heap.get?_push_of_some _ e
  refine ⟨_, _, _, _, H1, rfl, I2, turn_str _ x t, ⟨_, Heap.get?_push_size _ rfl, rfl, rfl⟩, fun b hb => ?_, q⟩
  have hb' : b = s1.heap.objs.size := by simpa using hb
  subst hb'
  exact I1.fpOk (Nat.le_refl _) (I1.hok.fresh (Nat.le_refl _))
theorem op_le_str : OpR X (compareOp .LtE) (fun x y H Q => ∃ i j, x = .str i ∧ y = .str j ∧ Q (.bl (!decide (j.cps.toList < i.cps.toList))) H) := by
  intro pins s σ H x y v u Q I rx ry h
  obtain ⟨i, j, rfl, rfl, q⟩ := h
  obtain ⟨t, rfl⟩ := rx
  obtain ⟨t', rfl⟩ := ry
  exact P.le_str (fin_bl I q rfl)
end
theorem lcW_str {K : PySem.W.Frag} {σ0 : St} {x : Str} {acc : Addr} {g : TG} {te : TE} {Q : VK} {H : Hp} (Pv : Nat → List V → Hp → Prop) (h0 : Pv 0 [] (upd H acc (.lst []))) (hl : ∀ i ys H2, i ≤ x.length → Pv i ys H2 → H2 acc = some (.lst ys) ∧ ys.length < sizeLine)
    (hs : ∀ i c ys H2, x.cps.toList[i]? = some c → Pv i ys H2 → ∀ C : VK, (∀ y H5, H5 acc = some (.lst ys) → Pv (i + 1) (ys ++ [y]) (upd H5 acc (.lst (ys ++ [y]))) → C y H5) → g (.str ⟨#[c]⟩) σ0 H2 fun σ4 H4 => Wk σ0 σ4 ∧ te σ4 H4 C) (hd : ∀ ys H2, Pv x.length ys H2 → Q (.ref acc) H2) :
    ∃ W : Nat → Nat → List V → Hp → Prop, (∃ m, W 0 m [] (upd H acc (.lst []))) ∧ lcW K σ0 (Its x) acc g te Q W := by
  refine ⟨fun i m ys H2 => m = x.length - i ∧ i ≤ x.length ∧ Pv i ys H2, ⟨x.length, by simp, Nat.zero_le _, h0⟩, ?_⟩
  rintro i m ys H2 ⟨rfl, hi, p⟩
  obtain ⟨e1, e2⟩ := hl i ys H2 hi p
  refine ⟨e1, e2, ?_⟩
  by_cases hlt : i < x.length
  · refine .inr ⟨hlt, fun v H3 y => ?_⟩
    obtain ⟨rfl, c, hc, rfl⟩ := y
    exact hs i c ys _ hc p _ fun v H5 z1 z2 => ⟨z1, x.length - (i + 1), by omega, rfl, hlt, z2⟩
  · have e : i = x.length := by omega
    subst e
    exact .inl ⟨Nat.le_refl _, hd ys H2 p⟩
end L2
set_option Elab.async false
set_option linter.all false
set_option maxRecDepth 100000
set_option maxHeartbeats 2000000
namespace L2
open PySem PySem.Spec PyProof.Rows
noncomputable def Ites (x : Str) : It :=
  ⟨fun i _ => i < x.length,
   fun i H v H' => ∃ T c, v = .ref T ∧ H T = none ∧ x.cps.toList[i]? = some c ∧ H' = upd H T (.tup [.int i, .str ⟨#[c]⟩]),
   fun i _ => i = x.length⟩
noncomputable def enStS (e it : Addr) (x : Str) (t : Tok) (i : Nat) (h : Heap) : Prop := (∃ old, IsEnum h e it i old) ∧ h.IsStrIter it "str_ascii_iterator" x t i
theorem turn_enumS {P : Program} {w : World} {K : PySem.W.Frag} {elts : List Expr} {k0 : Nat} {tpos : Pos} (e it : Addr) (x : Str) (t : Tok) (hne : e ≠ it) :
    Turn P w K (.Tuple elts k0 tpos) (Ites x) [e, it] e (enStS e it x t) where
  mem := by simp
  obj := fun i h st b hb => by
    obtain ⟨⟨old, hz⟩, ⟨o1, e1, c1, d1⟩⟩ := st
    simp only [List.mem_cons, List.not_mem_nil, or_false] at hb
    rcases hb with rfl | rfl
    · exact ⟨_, hz, fun v q => by cases q⟩
    · exact ⟨o1, e1, fun v q => by rw [d1] at q; cases q⟩
  keep := fun i h h' st k => by
    obtain ⟨⟨old, hz⟩, ⟨o, e, c, d⟩⟩ := st
    exact ⟨⟨old, k _ (by simp) _ hz⟩, ⟨o, k it (by simp) o e, c, d⟩⟩
  item := by
    intro X hP hw hK hc i pins s σ H E I hf st hg
    subst hP hw hK
    obtain ⟨⟨old, hz⟩, h1⟩ := st
    have hg' : i < x.cps.size := hg
    refine wpAny_pyNext_enum_itemD (Draws.strAscii (A := X.A.in1) (I.ok.hd hc) it x t) hz h1 hg' hne (by simpa using hne) fun v h' tk hv a1 a2 a5 a6 kk => ?_
    obtain ⟨c, u, hcc, rfl⟩ := hv
    have hT : H s.heap.objs.size = none := I.hok.fresh (Nat.le_refl _)
    have nch : ∀ b u, H b = some u → b ∉ [e, it] := fun b u q hb => by rw [(hf b hb).1] at q; cases q
    have kk' : ∀ b o, b ∉ [e, it] → s.heap.get? b = some o → h'.get? b = some o := fun b o hb q => by
      simp only [List.mem_cons, List.not_mem_nil, or_false, not_or] at hb
      exact kk b o hb.1 hb.2 q
    have ltT : ∀ b o, s.heap.get? b = some o → b ≠ s.heap.objs.size := fun b o q => Nat.ne_of_lt (Heap.lt_size q)
    have hokT : HOk X.prog X.w (upd H s.heap.objs.size (.tup [.int i, .str ⟨#[c]⟩])) h' := fun b ob q => by
      by_cases hb : b = s.heap.objs.size
      · subst hb
        rw [upd_same] at q
        cases q
        exact ⟨by show 2 ≤ sizeLine; decide, [.int i tk, .str ⟨#[c]⟩ u], .cons ⟨_, rfl⟩ (.cons ⟨_, rfl⟩ .nil), _, a5, rfl, _, rfl⟩
      · rw [upd_ne hb] at q
        refine (I.hok b ob q).stay (fun c v hcv q' => kk' c v ?_ q') (fun c q' => by rw [upd_ne (ne_of_none q' hT)]; exact q') fun c xs q' => by rw [upd_ne (ne_of_none q' hT)]; exact q'
        rcases hcv with rfl | hcv
        · exact nch _ _ q
        · exact nch _ _ hcv
    have I1 : Inv X pins σ (upd H s.heap.objs.size (.tup [.int i, .str ⟨#[c]⟩])) { s with heap := h', toks := tk + 1 } := by
      refine I.step (g' := s.gens) (d' := s.drawn) (t' := tk + 1) (ch := [e, it]) (fun b hb => ?_) (fun b o _ _ hb q _ => kk' b o hb q) (fun b o _ _ hb q _ => ⟨o.slots, kk' b o hb q⟩) (fun b o _ q n => by rw [upd_ne (ltT b o q)]; exact n) (fun b o hb q => ⟨o, kk' b o hb q⟩)
        (fun b xs q => by rw [upd_ne (ne_of_none q hT)]; exact q) (fun b o u q => by rw [upd_ne (ne_of_none q hT)]; exact q) (fun b ps q => ⟨#[], by rw [upd_ne (ne_of_none q hT), q]; simp⟩) (fun m hm => ?_) hokT I.bare
      · obtain ⟨f0, f1, f2, f3, f4, f5⟩ := hf b hb
        exact ⟨f3, f1, f4, f5⟩
      · obtain ⟨o, es, ep, ho, r⟩ := hm
        refine ⟨o, es, ep, kk' _ o ?_ ho, r⟩
        simp only [List.mem_cons, List.not_mem_nil, or_false, not_or]
        exact ⟨((hf e (by simp)).2.1).symm, ((hf it (by simp)).2.1).symm⟩
    refine ⟨_, rfl, wpAny_letOwnedTupleGo_enum a1 fun h'' hz'' sb => ?_⟩
    obtain ⟨f0, f1, f2, f3, f4, f5⟩ := hf e (by simp)
    have ltz : ∀ b ∈ [e, it], b ≠ s.heap.objs.size := fun b hb => by
      simp only [List.mem_cons, List.not_mem_nil, or_false] at hb
      obtain ⟨o1, e1, _⟩ := h1
      rcases hb with rfl | rfl
      · exact ltT _ _ hz
      · exact ltT _ _ e1
    have fn : ∀ b ∈ [e, it], upd H s.heap.objs.size (.tup [.int i, .str ⟨#[c]⟩]) b = none := fun b hb => by rw [upd_ne (ltz b hb)]; exact (hf b hb).1
    have I2 : Inv X pins σ (upd H s.heap.objs.size (.tup [.int i, .str ⟨#[c]⟩])) { s with heap := h'', toks := tk + 1 } := I1.turned (t' := tk + 1) (fun b o hb q => (sb.2 b hb).trans q) (fn e (by simp)) f1 f3 f4 f5
    refine ⟨.ref s.heap.objs.size, _, I2, rfl, ⟨_, c, rfl, hT, by rw [Array.getElem?_toList]; exact hcc, rfl⟩, ⟨⟨.str ⟨#[c]⟩ u, ?_⟩, ?_⟩, fn⟩
    · rw [Int.natCast_add]; exact hz''
    · obtain ⟨o, eo, co, dd⟩ := a2
      exact ⟨o, (sb.2 _ (Ne.symm hne)).trans eo, co, dd⟩
  done := by
    intro X hP hw hK hc i pins s σ H E I hf st hg
    subst hP hw hK
    obtain ⟨⟨old, hz⟩, h1⟩ := st
    have hg' : i = x.cps.size := hg
    subst hg'
    refine wpAny_pyNext_enum_endD (Draws.strAscii (A := X.A.in1) (I.ok.hd hc) it x t) hz h1 fun h' eb => ⟨rfl, ?_⟩
    obtain ⟨f0, f1, f2, f3, f4, f5⟩ := hf it (by simp)
    exact I.turned (t' := s.toks) (fun b o hb q => eb b o hb q) f0 f1 f3 f4 f5
  self := fun _ _ _ _ _ st h => by
    obtain ⟨⟨old, hz⟩, _⟩ := st
    exact wpAny_pyIter_enum hz h
section
variable {X : Cx}
noncomputable def iEnumS (ta : TA) : TI := fun σ H R => ta σ H fun vs H1 => ∃ x : Str, vs = [.str x] ∧ (x.cps.all fun c => decide (c < 128)) = true ∧ R (Ites x) H1
theorem pi_enumS {a : Expr} {ta : TA} {p pos : Pos} {elts : List Expr} {k0 : Nat} {tpos : Pos} (hg : Gl X "enumerate") (hm : X.mg "enumerate" = none) (ha : PA X [a] ta) (hs : starEach [a] X.env = [(false, eval a X.env)] := by rfl) :
    PI X (.Tuple elts k0 tpos) (.Call (.Name "enumerate" p) [a] [] pos) (iEnumS ta) := by
  intro pins s σ H R I h
  refine Call_ (ld_blt I hg hm (by first | exact PySem.boot_enumerate | rfl) (PyProof.Rows.callWith_type1 (thn (ha pos pins s σ H _ I h) fun us s1 ⟨vs, H1, I1, r1, q1⟩ => ?_) (by rw [hs]; rfl) rfl))
  obtain ⟨x, e, hx, q⟩ := q1
  subst e
  obtain ⟨u1, rfl, ru1⟩ := r1.one
  obtain ⟨t, rfl⟩ := ru1
  have et : strIterType x = "str_ascii_iterator" := by rw [strIterType, if_pos hx]
  refine call_enumerate_str fun h' hz hi _ hk => wpAny_pyIter_enum hz ?_
  rw [et] at hi
  have I2 : Inv X pins σ H1 { s1 with heap := h' } := I1.kept (t' := s1.toks) hk
  refine ⟨_, _, _, _, H1, rfl, I2, turn_enumS _ _ x t (Nat.succ_ne_self _), ⟨⟨_, hz⟩, hi⟩, fun b hb => ?_, q⟩
  have hb' : s1.heap.objs.size ≤ b := by
    simp only [List.mem_cons, List.not_mem_nil, or_false] at hb
    rcases hb with rfl | rfl <;> omega
  exact I1.fpOk hb' (I1.hok.fresh hb')
end
theorem for_enumS {x : Str} {g : TG} {tb : TS} {D : Ends} {σ : St} {H : Hp} (Pv : Nat → St → Hp → Prop) (h0 : Pv 0 σ H)
    (hs : ∀ i c σ H T, x.cps.toList[i]? = some c → H T = none → Pv i σ H → g (.ref T) σ (upd H T (.tup [.int i, .str ⟨#[c]⟩])) fun σ2 H2 => tb { D with nx := Pv (i + 1), ct := Pv (i + 1), bk := D.nx } σ2 H2) (hd : ∀ σ H, Pv x.length σ H → D.nx σ H) :
    ∃ W : Nat → Nat → St → Hp → Prop, (∃ m, W 0 m σ H) ∧ ∀ i m σ H, W i m σ H →
      ((Ites x).stop i H ∧ D.nx σ H) ∨ ((Ites x).go i H ∧ ∃ N : St → Hp → Prop, (∀ σ' H', N σ' H' → ∃ m', m' < m ∧ W (i + 1) m' σ' H') ∧ ∀ v H', (Ites x).yld i H v H' → g v σ H' fun σ2 H2 => tb { D with nx := N, ct := N, bk := D.nx } σ2 H2) := by
  refine ⟨fun i m σ H => m = x.length - i ∧ i ≤ x.length ∧ Pv i σ H, ⟨x.length, by simp, Nat.zero_le _, h0⟩, ?_⟩
  rintro i m σ H ⟨rfl, hi, p⟩
  by_cases hlt : i < x.length
  · refine .inr ⟨hlt, Pv (i + 1), fun σ' H' p' => ⟨x.length - (i + 1), by omega, rfl, hlt, p'⟩, fun v H' z => ?_⟩
    obtain ⟨T, c, rfl, hT, hc, rfl⟩ := z
    exact hs i c σ H T hc hT p
  · have e : i = x.length := by omega
    subst e
    exact .inl ⟨rfl, hd σ H p⟩
end L2
set_option Elab.async false
set_option linter.all false
set_option maxRecDepth 100000
set_option maxHeartbeats 2000000
namespace Ken
open PySem L2
inductive Wr : Tm → List Nat → Prop where
  | low : Wr .low [48]
  | ltr (w : Str) : Wr (.ltr w) w.cps.toList
  | neg {a : Tm} {x : List Nat} : Wr a x → Wr (.nd .thn a .low) (126 :: x)
  | nd {k : Kd} {a b : Tm} {x y : List Nat} : Wr a x → Wr b y → Wr (.nd k a b) (40 :: (x ++ (32 :: k.sgn :: 32 :: (y ++ [41]))))
theorem Wr.len : ∀ {t : Tm} {x : List Nat}, Wr t x → t.ok → x.length ≤ 10 * t.parts
  | _, _, .low, _ => by decide
  | _, _, .ltr w, h => by
    show w.cps.toList.length ≤ 10
    have := h.2.1
    omega
  | _, _, .neg (a := a) (x := x) ha, h => by
    have := ha.len h.1
    show x.length + 1 ≤ 10 * (1 + a.parts + 1)
    omega
  | _, _, .nd (k := k) (a := a) (b := b) (x := x) (y := y) ha hb, h => by
    have h1 := ha.len h.1
    have h2 := hb.len h.2
    show (40 :: (x ++ (32 :: k.sgn :: 32 :: (y ++ [41])))).length ≤ 10 * (1 + a.parts + b.parts)
    simp
    omega
theorem Wr.ascii : ∀ {t : Tm} {x : List Nat}, Wr t x → t.ok → ∀ c ∈ x, c < 128
  | _, _, .low, _, c, hc => by simp at hc; omega
  | _, _, .ltr w, h, c, hc => by have := h.2.2 c hc; omega
  | _, _, .neg ha, h, c, hc => by
    rcases List.mem_cons.mp hc with rfl | hc
    · decide
    · exact ha.ascii h.1 c hc
  | _, _, .nd (k := k) ha hb, h, c, hc => by
    simp only [List.mem_cons, List.mem_append, List.not_mem_nil, or_false] at hc
    rcases hc with rfl | hc | rfl | rfl | rfl | hc | rfl
    · decide
    · exact ha.ascii h.1 c hc
    · decide
    · cases k <;> decide
    · decide
    · exact hb.ascii h.2 c hc
    · decide
inductive Fr where
  | ng
  | op (k : Kd) (b : Tm) (y : List Nat)
  | sn (k : Kd) (a : Tm)
noncomputable def DFr (K : PySem.W.Frag) (H : Hp) (v : V) : Fr → Prop
  | .ng => ∃ p, v = .ref p ∧ SqT K H p [.str "~", .non]
  | .op _ _ _ => ∃ p, v = .ref p ∧ SqT K H p [.str "(", .non]
  | .sn k a => ∃ p x, v = .ref p ∧ SqT K H p [.str k.str, x] ∧ IsT K H x a
theorem DFr.keep {K : PySem.W.Frag} {H H' : Hp} (k : KeepT K H H') : ∀ {v : V} {f : Fr}, DFr K H v f → DFr K H' v f
  | _, .ng, ⟨p, e, h⟩ => ⟨p, e, k _ _ h⟩
  | _, .op _ _ _, ⟨p, e, h⟩ => ⟨p, e, k _ _ h⟩
  | _, .sn _ _, ⟨p, x, e, h, i⟩ => ⟨p, x, e, k _ _ h, i.keep k⟩
noncomputable abbrev DFrs (K : PySem.W.Frag) (H : Hp) : List V → List Fr → Prop := Paired (DFr K H)
theorem DFrs.keep {K : PySem.W.Frag} {H H' : Hp} (k : KeepT K H H') {vs : List V} {fs : List Fr} (h : DFrs K H vs fs) : DFrs K H' vs fs := Paired.mapP h fun _ _ q => q.keep k
theorem slice1 (x : Str) (a : Nat) (ha : a ≤ x.length) : (Txt.slice x (some (a : Int)) (some ((a : Int) + 1))).cps.toList = (x.cps.toList.drop a).take 1 := by
  by_cases h : a + 1 ≤ x.length
  · have := slice_cps x a (a + 1) (by omega) h
    rw [Nat.add_sub_cancel_left] at this
    rw [← this]
    rfl
  · have e : a = x.length := by omega
    subst e
    have z : Builtin.Str.strSliceIndices (some ((x.length : Nat) : Int)) (some (((x.length : Nat) : Int) + 1)) 1 x.length = Builtin.Str.strSliceIndices (some ((x.length : Nat) : Int)) (some ((x.length : Nat) : Int)) 1 x.length := by
      unfold Builtin.Str.strSliceIndices
      have n1 : ¬ ((x.length : Nat) : Int) + 1 < 0 := by omega
      have n2 : ¬ ((x.length : Nat) : Int) < 0 := by omega
      have m : min (((x.length : Nat) : Int) + 1) ((x.length : Nat) : Int) = min ((x.length : Nat) : Int) ((x.length : Nat) : Int) := by omega
      have p1 : (1 : Int) > 0 := by decide
      simp only [if_neg n1, if_neg n2, m, if_pos p1]
    have z2 : Txt.slice x (some ((x.length : Nat) : Int)) (some (((x.length : Nat) : Int) + 1)) = Txt.slice x (some ((x.length : Nat) : Int)) (some ((x.length : Nat) : Int)) := by
      unfold Txt.slice
      rw [z]
    have e2 : x.length = x.cps.toList.length := len_cps x
    rw [z2, slice_cps x x.length x.length (Nat.le_refl _) (Nat.le_refl _), Nat.sub_self, List.take_zero, e2, List.drop_length, List.take_nil]
theorem sign_at {x : Str} {a c : Nat} {r : List Nat} (h : x.cps.toList.drop a = c :: r) : Txt.slice x (some (a : Int)) (some ((a : Int) + 1)) = ⟨#[c]⟩ := by
  have hl : a < x.cps.toList.length := by
    by_cases q : a < x.cps.toList.length
    · exact q
    · rw [List.drop_of_length_le (by omega)] at h; cases h
  refine str_ext ?_
  rw [slice1 x a (by rw [len_cps]; omega), h]
  rfl
theorem sign_end {x : Str} {a : Nat} (ha : a ≤ x.length) (h : x.cps.toList.drop a = []) : Txt.slice x (some (a : Int)) (some ((a : Int) + 1)) = Str.empty := by
  refine str_ext ?_
  rw [slice1 x a ha, h]
  rfl
theorem drop_add {α : Type} {l : List α} {a : Nat} {p q : List α} (h : l.drop a = p ++ q) : l.drop (a + p.length) = q := by
  rw [← List.drop_drop, h, List.drop_left]
theorem drop_lt {α : Type} {l : List α} {a : Nat} {p q : List α} (ha : a ≤ l.length) (h : l.drop a = p ++ q) : a + p.length ≤ l.length := by
  have := congrArg List.length h
  rw [List.length_drop, List.length_append] at this
  omega
noncomputable def At (x : Str) (a : Nat) (cs : List Nat) : Prop := x.length ≤ 5000 ∧ a ≤ x.length ∧ x.cps.toList.drop a = cs
theorem At.move {x : Str} {a : Nat} {p q : List Nat} (h : At x a (p ++ q)) : At x (a + p.length) q := by
  refine ⟨h.1, ?_, drop_add h.2.2⟩
  have := drop_lt (by rw [← len_cps]; exact h.2.1) h.2.2
  rw [len_cps]; exact this
theorem At.step {x : Str} {a c : Nat} {q : List Nat} (h : At x a (c :: q)) : At x (a + 1) q := At.move (p := [c]) h
noncomputable def noOpen : List Nat → Prop
  | [] => True
  | c :: _ => c ≠ 40 ∧ c ≠ 126
noncomputable def sp_opens : Sp := fun vs H Q _ => ∃ (x : Str) (a : Nat) (os r : List Nat), vs = [.str x, .int a] ∧ (∀ c ∈ os, c = 40 ∨ c = 126) ∧ noOpen r ∧ At x a (os ++ r) ∧ ∀ H', Same H H' → Q (.int ((a + os.length : Nat) : Int)) H'
noncomputable def sp_neg (K : PySem.W.Frag) : Sp := fun vs H Q _ => ∃ v t, vs = [v] ∧ IsT K H v t ∧ ∀ (r : V) (H' : Hp), Same H H' → IsT K H' r (.nd .thn t .low) → Q r H'
noncomputable def sp_written (K : PySem.W.Frag) : Sp := fun vs H Q _ => ∃ (v : V) (t : Tm) (c : Int), vs = [v, .int c] ∧ IsT K H v t ∧ t.ok ∧ t.parts ≤ 300 ∧ ∀ (x : Str) (H' : Hp), Same H H' → Wr t x.cps.toList → Q (.str x) H'
theorem str1_inj {c d : Nat} : ((⟨#[c]⟩ : Str) = ⟨#[d]⟩) ↔ c = d := by
  constructor
  · intro h
    have := congrArg (fun z : Str => z.cps.toList) h
    simpa using this
  · rintro rfl; rfl
theorem in_open (z : Str) : inV (.str z) [.str "(", .str "~"] = (decide (z = "(") || decide (z = "~")) := by
  show (eqV (.str "(") (.str z) || (eqV (.str "~") (.str z) || false)) = _
  rw [Bool.or_false]
  congr 1
  · show decide (("(" : Str) = z) = decide (z = "(")
    exact decide_eq_decide.mpr eq_comm
  · show decide (("~" : Str) = z) = decide (z = "~")
    exact decide_eq_decide.mpr eq_comm
theorem in_open1 (c : Nat) : inV (.str ⟨#[c]⟩) [.str "(", .str "~"] = (decide (c = 40) || decide (c = 126)) := by
  rw [in_open]
  congr 1
  · exact decide_eq_decide.mpr (str1_inj (d := 40))
  · exact decide_eq_decide.mpr (str1_inj (d := 126))
theorem lt1 {c d : Nat} : (([c] : List Nat) < [d]) ↔ c < d := by
  simp [List.cons_lt_cons_iff]
theorem paired_rev {α β : Type} {F : α → β → Prop} : ∀ {l : List α} {m : List β}, Paired F l m → Paired F l.reverse m.reverse
  | _, _, .nil => .nil
  | _, _, .cons h t => by rw [List.reverse_cons, List.reverse_cons]; exact Paired.snoc (paired_rev t) h
theorem paired_app {α β : Type} {F : α → β → Prop} : ∀ {l l' : List α} {m m' : List β}, Paired F l m → Paired F l' m' → Paired F (l ++ l') (m ++ m')
  | _, _, _, _, .nil, q => q
  | _, _, _, _, .cons h t, q => .cons h (paired_app t q)
theorem at_last {α : Type} (l : List α) (u : α) : atI (l ++ [u]) (-1) = some u := by
  unfold atI ixN
  rw [if_neg (by decide), if_pos (by rw [List.length_append]; simp; omega)]
  show (l ++ [u])[((-1 : Int) + ((l ++ [u]).length : Int)).toNat]? = some u
  have : ((-1 : Int) + ((l ++ [u]).length : Int)).toNat = l.length := by rw [List.length_append]; simp; omega
  rw [this]; simp
theorem ix_last {α : Type} (l : List α) (u : α) : ixN (l ++ [u]).length (-1) = some l.length := by
  unfold ixN
  rw [if_neg (by decide), if_pos (by rw [List.length_append]; simp; omega)]
  congr 1
  rw [List.length_append]; simp; omega
theorem set_last {α : Type} (l : List α) (u v : α) : (l ++ [u]).set l.length v = l ++ [v] := by
  rw [List.set_append_right _ _ (Nat.le_refl _), Nat.sub_self]; rfl
end Ken
set_option Elab.async false
set_option linter.all false
set_option maxRecDepth 100000
set_option maxHeartbeats 2000000
namespace Ken
open PySem L2
inductive WrI : List Itm → List Nat → Prop where
  | nil : WrI [] []
  | str {x : Str} {is : List Itm} {z : List Nat} : WrI is z → WrI (.inl x :: is) (x.cps.toList ++ z)
  | tm {t : Tm} {is : List Itm} {y z : List Nat} : Wr t y → WrI is z → WrI (.inr t :: is) (y ++ z)
theorem flat_snoc (ys : List Str) (y : Str) (z : List Nat) : ((ys ++ [y]).map fun y => y.cps.toList).flatten ++ z = (ys.map fun y => y.cps.toList).flatten ++ (y.cps.toList ++ z) := by simp
noncomputable def sgs : Kd → Str
  | .both => " & "
  | .one => " | "
  | .thn => " > "
theorem sgs_cps (k : Kd) : (sgs k).cps.toList = [32, k.sgn, 32] := by cases k <;> rfl
theorem sgs_ok (k : Kd) : PyData.strOk (sgs k) = true := by cases k <;> decide +kernel
theorem par_ok : itOk (.inl ")") := by show PyData.strOk ")" = true; decide +kernel
end Ken
set_option Elab.async false
set_option linter.all false
set_option maxRecDepth 100000
set_option maxHeartbeats 2000000
namespace L2
open PySem PySem.Spec PyProof.Rows
end L2
set_option Elab.async false
set_option linter.all false
set_option maxRecDepth 100000
set_option maxHeartbeats 2000000
namespace L2
open PySem PySem.Spec PyProof.Rows
noncomputable def emitS (elt : Expr) (acc : Value) (env : Env) : Sem Unit := eval elt env >>= fun v => standAt elt.pos >>= fun _ => call (.builtin "set.add") [acc, v] >>= fun _ => pure ()
noncomputable def emitD (k v : Expr) (d : Addr) (env : Env) : Sem Unit := eval k env >>= fun kv => holding [kv] (eval v env) >>= fun vv => standAt { line := k.pos.line, col := k.pos.col, endLine := v.pos.endLine, endCol := v.pos.endCol } >>= fun _ => holding [kv, vv] (dictSet d kv vv)
noncomputable def nestB (e : Expr) (d : Nat) (iter : Expr) (acc : Value) (env : Env) : Sem Unit := eval iter env >>= fun x => standAt iter.pos >>= fun _ => foldedSetIterable iter env x >>= fun x => holding [x] (pyIter x) >>= fun it => runOwn (.compStart e d it acc env) env >>= fun _ => pure ()
end L2
set_option Elab.async false
set_option linter.all false
set_option maxRecDepth 100000
set_option maxHeartbeats 2000000
namespace L2
open PySem PySem.Spec PyProof.Rows Ken
end L2
set_option Elab.async false
set_option linter.all false
set_option maxRecDepth 100000
set_option maxHeartbeats 2000000
namespace L2
open PySem PySem.Spec PyProof.Rows Ken
end L2
set_option Elab.async false
set_option linter.all false
set_option maxRecDepth 100000
set_option maxHeartbeats 2000000
namespace Ken
open PySem L2
end Ken
set_option Elab.async false
set_option linter.all false
set_option maxRecDepth 100000
set_option maxHeartbeats 2000000
namespace L2
open PySem PySem.Spec PyProof.Rows
end L2
set_option Elab.async false
set_option linter.all false
set_option maxRecDepth 100000
set_option maxHeartbeats 2000000
namespace L2
open PySem PySem.Spec PyProof.Rows
end L2
set_option Elab.async false
set_option linter.all false
set_option maxRecDepth 100000
set_option maxHeartbeats 2000000
namespace L2
open PySem PySem.Spec PyProof.Rows
end L2
set_option Elab.async false
set_option linter.all false
set_option maxRecDepth 100000
set_option maxHeartbeats 2000000
namespace Ken
open PySem L2
end Ken
set_option Elab.async false
set_option linter.all false
set_option maxRecDepth 100000
set_option maxHeartbeats 2000000
namespace Ken
open PySem L2
end Ken
set_option Elab.async false
set_option linter.all false
set_option maxRecDepth 100000
set_option maxHeartbeats 2000000
namespace L2
open PySem PySem.Spec PyProof.Rows
end L2
set_option Elab.async false
set_option linter.all false
set_option maxRecDepth 100000
set_option maxHeartbeats 2000000
namespace L2
open PySem PySem.Spec PyProof.Rows
end L2
set_option Elab.async false
set_option linter.all false
set_option maxRecDepth 100000
set_option maxHeartbeats 2000000
namespace L2
open PySem PySem.Spec PyProof.Rows
end L2
set_option Elab.async false
set_option linter.all false
set_option maxRecDepth 100000
set_option maxHeartbeats 2000000
namespace L2
open PySem PySem.Spec PyProof.Rows Ken
end L2
set_option Elab.async false
set_option linter.all false
set_option maxRecDepth 100000
set_option maxHeartbeats 2000000
namespace L2
open PySem PySem.Spec PyProof.Rows Ken
end L2
set_option Elab.async false
set_option linter.all false
set_option maxRecDepth 100000
set_option maxHeartbeats 2000000
namespace L2
open PySem PySem.Spec PyProof.Rows Ken
theorem cxOf_prog (CX : CXT) (P : Program) (w : World) (K : PySem.W.Frag) (mg : Str → Option Value) (base : Heap) (N : List Str) (qual : Str) (scope : Scope) (f : Addr) (cd : Value) (A : Around) (outer : List Env) (s : Shared) (H : Hp) (E : XK) : (cxOf CX P w K mg base N qual scope f cd A outer s H E).prog = P := rfl
theorem cxOf_w (CX : CXT) (P : Program) (w : World) (K : PySem.W.Frag) (mg : Str → Option Value) (base : Heap) (N : List Str) (qual : Str) (scope : Scope) (f : Addr) (cd : Value) (A : Around) (outer : List Env) (s : Shared) (H : Hp) (E : XK) : (cxOf CX P w K mg base N qual scope f cd A outer s H E).w = w := rfl
theorem blk_prog (X : Cx) (N' : List Str) (scope : Scope) (cl : List (Str × Addr)) (s : Shared) (H : Hp) (C : Addr) (ex : List Addr) : (blk X N' scope cl s H C ex).prog = X.prog := rfl
theorem blk_w (X : Cx) (N' : List Str) (scope : Scope) (cl : List (Str × Addr)) (s : Shared) (H : Hp) (C : Addr) (ex : List Addr) : (blk X N' scope cl s H C ex).w = X.w := rfl
end L2
namespace Ken
open PySem L2 PyProof.Rows
end Ken
set_option Elab.async false
set_option linter.all false
set_option maxRecDepth 100000
set_option maxHeartbeats 4000000
namespace L2
open PySem PySem.Spec PyProof.Rows Ken
end L2
set_option Elab.async false
set_option linter.all false
set_option maxRecDepth 100000
set_option maxHeartbeats 4000000
namespace L2
open PySem PySem.Spec PyProof.Rows Ken
end L2
set_option Elab.async false
set_option linter.all false
set_option maxRecDepth 100000
set_option maxHeartbeats 4000000
namespace L2
open PySem PySem.Spec PyProof.Rows
noncomputable def ExcO (e : Addr) (C : Value) (dd T : Option Addr) : HO := .ext fun h => ∃ vs sl, h.get? e = some ⟨C, dd, .fields vs, sl⟩ ∧ vs.size = 6 ∧ vs[1]? = some (T.elim Value.none Value.ref)
noncomputable def TbO (t : Addr) (fl : Value) : HO := .ext fun h => ∃ c d ts sl, h.get? t = some ⟨c, d, .fields ts, sl⟩ ∧ ts[3]? = some fl
section
variable {P : Program} {w : World} {H : Hp} {h : Heap} {e t : Addr} {C fl : Value} {dd T : Option Addr}
theorem exc_get (hok : HOk P w H h) (q : H e = some (ExcO e C dd T)) : ∃ vs sl, h.get? e = some ⟨C, dd, .fields vs, sl⟩ ∧ vs.size = 6 ∧ vs[1]? = some (T.elim Value.none Value.ref) := (hok e _ q).1
theorem exc_mk (z : ∃ vs sl, h.get? e = some ⟨C, dd, .fields vs, sl⟩ ∧ vs.size = 6 ∧ vs[1]? = some (T.elim Value.none Value.ref)) : ObjOk P w H h e (ExcO e C dd T) :=
  ⟨z, let ⟨_, _, q, _⟩ := z; ⟨_, q⟩, fun _ _ ⟨vs, sl, a, b⟩ k => ⟨vs, sl, k _ a, b⟩⟩
theorem tb_get (hok : HOk P w H h) (q : H t = some (TbO t fl)) : ∃ c d ts sl, h.get? t = some ⟨c, d, .fields ts, sl⟩ ∧ ts[3]? = some fl := (hok t _ q).1
theorem tb_mk (z : ∃ c d ts sl, h.get? t = some ⟨c, d, .fields ts, sl⟩ ∧ ts[3]? = some fl) : ObjOk P w H h t (TbO t fl) :=
  ⟨z, let ⟨_, _, _, _, q, _⟩ := z; ⟨_, q⟩, fun _ _ ⟨c, d, ts, sl, a, b⟩ k => ⟨c, d, ts, sl, k _ a, b⟩⟩
end
noncomputable def FlyAt (fl : Value) (H : Hp) (e : Addr) (C : Value) (dd T : Option Addr) : Prop := H e = some (ExcO e C dd T) ∧ ∀ t, T = some t → t ≠ e ∧ H t = some (TbO t fl)
noncomputable abbrev FlyT := FlyAt .none
noncomputable def XStep (e : Addr) (T : Option Addr) (H : Hp) (T' : Option Addr) (H' : Hp) : Prop :=
  (∀ b o, H b = some o → b ≠ e → T ≠ some b → H' b = some o) ∧ ∀ t, T' = some t → t ≠ e ∧ (T = some t ∨ H t = none)
theorem XStep.refl {e : Addr} {T : Option Addr} {H : Hp} (h : ∀ t, T = some t → t ≠ e) : XStep e T H T H := ⟨fun _ _ q _ _ => q, fun t q => ⟨h t q, .inl q⟩⟩
theorem XStep.trans {e : Addr} {T T' T'' : Option Addr} {H H' H'' : Hp} (a : XStep e T H T' H') (b : XStep e T' H' T'' H'') : XStep e T H T'' H'' := by
  refine ⟨fun c o q n1 n2 => b.1 c o (a.1 c o q n1 n2) n1 fun z => ?_, fun t q => ⟨(b.2 t q).1, ?_⟩⟩
  · rcases (a.2 c z).2 with y | y
    · exact n2 y
    · rw [q] at y; cases y
  · rcases (b.2 t q).2 with z | z
    · exact (a.2 t z).2
    · by_cases hT : T = some t
      · exact .inl hT
      · cases e1 : H t with
        | none => exact .inr rfl
        | some o => rw [a.1 t o e1 (b.2 t q).1 hT] at z; cases z
section
variable {X : Cx} {pins : List (Addr × Obj)} {σ : St} {H : Hp} {s : Shared} {M : Model} {A : Around} {E : Value → Shared → Prop} {e L : Addr} {C : Value} {dd T : Option Addr}
theorem Inv.noted {s' : Shared} {t : Addr} {fl : Value} (I : Inv X pins σ H s) (F : FlyT H e C dd T) (hos : s'.os = s.os) (hg : s'.gens = s.gens)
    (hn : s.heap.objs.size ≤ t)
    (keep : ∀ b o, s.heap.get? b = some o → b ∉ frs X.stack → b ≠ e → T ≠ some b → s'.heap.get? b = some o)
    (slot : ∀ b o, s.heap.get? b = some o → b ∈ frs X.stack → ∃ sl, s'.heap.get? b = some { o with slots := sl })
    (old : ∀ b, T = some b → ∃ c d ts sl, s'.heap.get? b = some ⟨c, d, .fields ts, sl⟩ ∧ ts[3]? = some Value.none)
    (exc : ∃ vs sl, s'.heap.get? e = some ⟨C, dd, .fields vs, sl⟩ ∧ vs.size = 6 ∧ vs[1]? = some (Value.ref t))
    (tb : ∃ c d ts sl, s'.heap.get? t = some ⟨c, d, .fields ts, sl⟩ ∧ ts[3]? = some fl) :
    Inv X pins σ (upd (upd H t (TbO t fl)) e (ExcO e C dd (some t))) s' := by
  have hnt : H t = none := I.hok.fresh hn
  have het : e ≠ t := ne_of_none F.1 hnt
  have hfe : e ∉ frs X.stack := fun z => by have := I.stkFree e z; rw [F.1] at this; cases this
  have nx : ∀ b o, H b = some o → (∀ φ, o ≠ .ext φ) → b ≠ e ∧ b ≠ t ∧ T ≠ some b := fun b o q n => by
    refine ⟨fun z => ?_, ne_of_none q hnt, fun z => ?_⟩
    · subst z; rw [F.1] at q; cases q; exact n _ rfl
    · have := (F.2 b z).2; rw [q] at this; cases this; exact n _ rfl
  have up : ∀ b o, H b = some o → b ≠ e → upd (upd H t (TbO t fl)) e (ExcO e C dd (some t)) b = some o := fun b o q n => by
    rw [upd_ne n, upd_ne (ne_of_none q hnt)]; exact q
  have upn : ∀ b, H b = none → b ≠ t → upd (upd H t (TbO t fl)) e (ExcO e C dd (some t)) b = none := fun b q n => by
    rw [upd_ne (ne_of_none F.1 q).symm, upd_ne n]; exact q
  refine I.call' (ch := []) hos ⟨fun b o q n hb _ => ?_, fun b o q n hb _ => slot b o q hb, fun b o q n _ => upn b n (Nat.ne_of_lt (Nat.lt_of_lt_of_le (Heap.lt_size q) hn)), fun b o q _ => ?_, fun b xs q => up b _ q (nx b _ q fun φ z => nomatch z).1, fun b o u q => up b _ q (nx b _ q fun φ z => nomatch z).1,
    fun b ps q => ⟨#[], by rw [up b _ q (nx b _ q fun φ z => nomatch z).1]; simp⟩⟩ (fun b o q => ?_) (by rw [hg]; exact I.bare) (fun b z => nomatch z)
  · exact keep b o q hb (ne_of_none F.1 n).symm fun z => by have := (F.2 b z).2; rw [n] at this; cases this
  · by_cases hb : b ∈ frs X.stack
    · obtain ⟨sl, z⟩ := slot b o q hb; exact ⟨_, z⟩
    · by_cases he : b = e
      · subst he; obtain ⟨_, _, z, _⟩ := exc; exact ⟨_, z⟩
      · by_cases hT : T = some b
        · obtain ⟨_, _, _, _, z, _⟩ := old b hT; exact ⟨_, z⟩
        · exact ⟨o, keep b o q hb he hT⟩
  · by_cases he : b = e
    · subst he; rw [upd_same] at q; cases q; exact exc_mk exc
    · rw [upd_ne he] at q
      by_cases ht : b = t
      · subst ht; rw [upd_same] at q; cases q; exact tb_mk tb
      · rw [upd_ne ht] at q
        by_cases hT : T = some b
        · have q2 := (F.2 b hT).2
          rw [q] at q2; cases q2
          exact tb_mk (old b hT)
        · refine (I.hok b o q).stay (fun c u hc z => keep c u z ?_ ?_ ?_) (fun c z => up c _ z (nx c _ z fun φ y => nomatch y).1) fun c xs z => up c _ z (nx c _ z fun φ y => nomatch y).1
          · intro y
            have y2 := I.stkFree c y
            rcases hc with hc | hc
            · subst hc; rw [q] at y2; cases y2
            · rw [hc] at y2; cases y2
          · rcases hc with hc | hc
            · rw [hc]; exact he
            · exact (nx c _ hc fun φ y => nomatch y).1
          · rcases hc with hc | hc
            · rw [hc]; exact hT
            · exact (nx c _ hc fun φ y => nomatch y).2.2
theorem entry_ok {head : Value} {hadNext : Bool} {Q : Unit → Shared → Prop} (I : Inv X pins σ H s) (F : FlyT H e C dd T) (hA : A.frames = some X.stack) (hst : X.stack = X.env :: X.outer) (hf : X.env.frame = some L)
    (h : ∀ s' t, H t = none → Inv X pins σ (upd (upd H t (TbO t (rawInt L))) e (ExcO e C dd (some t))) s' → Q () s') :
    wpAny M A (do let a ← frameOf X.env; let pl ← entryPlaceOf L hadNext; let b ← EntryCells.newEntry head a .none (rawInt L) .none pl; setField (.ref e) 1 b) Q E s := by
  obtain ⟨vs, sl, he, hz, h1⟩ := exc_get I.hok F.1
  have hfe : e ∉ frs X.stack := fun z => by have := I.stkFree e z; rw [F.1] at this; cases this
  have FF := I.stack
  rw [hst] at FF hA
  refine wpAny_bind (wpAny_frameOf_fun hA FF hf fun h₁ hs₁ => ?_)
  refine wpAny_bind (wpAny_entryPlaceOf fun pl hpl => ?_)
  unfold EntryCells.newEntry newFields
  refine wpAny_bind (wpAny_newObj_type ?_ (hpl.sizeOk5 _ _ _ _ _))
  have hs2 : ∀ b, b ∉ frs X.stack → h₁.get? b = s.heap.get? b := fun b hb => hs₁.2.1 b (by rw [hst] at hb; exact hb)
  have he₁ : h₁.get? e = some ⟨C, dd, .fields vs, sl⟩ := (hs2 e hfe).trans he
  have he₂ := Heap.get?_push_of_some (h := h₁) { cls := .type "traceback", dict := none, data := .fields ([head, .ref L, .none, rawInt L, .none] ++ (if pl.isEmpty then List.replicate 6 Value.none else pl)).toArray } he₁
  refine wpAny_setField he₂ rfl (by rw [hz]; decide) ?_
  have hTe : h₁.objs.size ≠ e := Nat.ne_of_gt (Heap.lt_size he₁)
  have hsz : s.heap.objs.size ≤ h₁.objs.size := Nat.le_of_eq hs₁.1.symm
  refine h _ h₁.objs.size (I.hok.fresh hsz) (Inv.noted I F rfl rfl hsz (fun b o q hb hbe hT => ?_) (fun b o q hb => ?_) (fun b hT => ?_) ?_ ?_)
  · show (Heap.update _ e _).get? b = some o
    rw [Heap.get?_update_other _ _ (Ne.symm hbe)]
    exact Heap.get?_push_of_some _ ((hs2 b hb).trans q)
  · obtain ⟨sl', z⟩ := hs₁.2.2 b o q
    refine ⟨sl', ?_⟩
    show (Heap.update _ e _).get? b = _
    rw [Heap.get?_update_other _ _ (fun y => hfe (by rw [y]; exact hb))]
    exact Heap.get?_push_of_some _ z
  · obtain ⟨c, d, ts, sl', z, z3⟩ := tb_get I.hok (F.2 b hT).2
    have hb : b ∉ frs X.stack := fun y => by have := I.stkFree b y; rw [(F.2 b hT).2] at this; cases this
    refine ⟨c, d, ts, sl', ?_, z3⟩
    show (Heap.update _ e _).get? b = _
    rw [Heap.get?_update_other _ _ (Ne.symm (F.2 b hT).1)]
    exact Heap.get?_push_of_some _ ((hs2 b hb).trans z)
  · refine ⟨vs.setIfInBounds 1 (.ref h₁.objs.size), sl, ?_, by simp [hz], by simp [hz]⟩
    show (Heap.update _ e _).get? e = _
    rw [Heap.get?_update_self _ he₂ rfl]
    rfl
  · exact ⟨_, _, _, _, (Heap.get?_update_other _ _ (Ne.symm hTe)).trans (Heap.get?_push_size h₁ rfl), by simp⟩
theorem note_ok {Q : Unit → Shared → Prop} (I : Inv X pins σ H s) (F : FlyT H e C dd T) (hA : A.frames = some X.stack) (hst : X.stack = X.env :: X.outer) (hf : X.env.frame = some L)
    (h : ∀ s' H' t, Inv X pins σ H' s' → FlyAt (rawInt L) H' e C dd (some t) → XStep e T H (some t) H' → Q () s') : wpAny M A (noteFrame (.ref e) X.env) Q E s := by
  obtain ⟨vs, sl, he, hz, h1⟩ := exc_get I.hok F.1
  have fin : ∀ s' t, H t = none → Inv X pins σ (upd (upd H t (TbO t (rawInt L))) e (ExcO e C dd (some t))) s' → Q () s' := fun s' t hn J => by
    have het : e ≠ t := ne_of_none F.1 hn
    refine h s' _ t J ⟨upd_same, fun u q => ?_⟩ ⟨fun b o q n1 n2 => ?_, fun u q => ?_⟩
    · cases q; exact ⟨het.symm, by rw [upd_ne het.symm, upd_same]⟩
    · rw [upd_ne n1, upd_ne (ne_of_none q hn)]; exact q
    · cases q; exact ⟨het.symm, .inr hn⟩
  unfold noteFrame
  simp only [hf]
  refine wpAny_bind (wpAny_field he rfl h1 ?_)
  cases hT : T with
  | none =>
    subst hT
    rw [if_neg (by decide)]
    exact entry_ok I F hA hst hf fin
  | some t =>
    subst hT
    obtain ⟨hte, ht⟩ := F.2 t rfl
    obtain ⟨c, d, ts, sl', z, z3⟩ := tb_get I.hok ht
    rw [if_pos (show ((Option.some t).elim Value.none Value.ref != Value.none) = true from by simp)]
    refine wpAny_bind (wpAny_field z rfl z3 ?_)
    rw [if_neg (by simp [rawInt])]
    refine wpAny_bind (wpAny_setField z rfl (Array.getElem?_eq_some_iff.mp z3).1 ?_)
    refine entry_ok (T := some t) ?_ F hA hst hf fin
    have I2 := I.write (o := TbO t .none) (h' := s.heap.update t (Obj.mapFields (·.setIfInBounds 3 .none))) (x := t) (e := t) (t' := s.toks) (by rw [ht]; trivial) (.inl rfl) (fun b u n q => by rw [Heap.get?_update_other _ _ (Ne.symm n)]; exact q)
      ⟨_, Heap.get?_update_self _ z rfl⟩ (tb_mk ⟨c, d, ts.setIfInBounds 3 .none, sl', by rw [Heap.get?_update_self _ z rfl]; rfl, by simp [(Array.getElem?_eq_some_iff.mp z3).1]⟩)
    have : upd H t (TbO t .none) = H := by
      funext b
      by_cases hb : b = t
      · subst hb; rw [upd_same, ht]
      · rw [upd_ne hb]
    rw [this] at I2
    exact I2
theorem land_ok {Q : Unit → Shared → Prop} {fl : Value} (I : Inv X pins σ H s) (F : FlyAt fl H e C dd T)
    (h : ∀ s' H', Inv X pins σ H' s' → FlyT H' e C dd T → XStep e T H T H' → Q () s') : wpAny M A (setFlight (.ref e) none) Q E s := by
  obtain ⟨vs, sl, he, hz, h1⟩ := exc_get I.hok F.1
  unfold setFlight
  refine wpAny_bind (wpAny_field he rfl h1 ?_)
  cases hT : T with
  | none =>
    subst hT
    rw [if_neg (by decide)]
    exact wpAny_pure (h s H I ⟨F.1, fun t q => nomatch q⟩ (XStep.refl fun t q => nomatch q))
  | some t =>
    subst hT
    obtain ⟨hte, ht⟩ := F.2 t rfl
    obtain ⟨c, d, ts, sl', z, z3⟩ := tb_get I.hok ht
    rw [if_pos (show ((Option.some t).elim Value.none Value.ref != Value.none) = true from by simp)]
    refine wpAny_setField z rfl (Array.getElem?_eq_some_iff.mp z3).1 ?_
    have I2 := I.write (o := TbO t .none) (h' := s.heap.update t (Obj.mapFields (·.setIfInBounds 3 .none))) (x := t) (e := t) (t' := s.toks) (by rw [ht]; trivial) (.inl rfl) (fun b u n q => by rw [Heap.get?_update_other _ _ (Ne.symm n)]; exact q)
      ⟨_, Heap.get?_update_self _ z rfl⟩ (tb_mk ⟨c, d, ts.setIfInBounds 3 .none, sl', by rw [Heap.get?_update_self _ z rfl]; rfl, by simp [(Array.getElem?_eq_some_iff.mp z3).1]⟩)
    refine h _ _ I2 ⟨by rw [upd_ne (Ne.symm hte)]; exact F.1, fun u q => ?_⟩ ⟨fun b o q n1 n2 => ?_, fun u q => ?_⟩
    · cases q; exact ⟨hte, upd_same⟩
    · rw [upd_ne (fun y => n2 (by rw [y]))]; exact q
    · cases q; exact ⟨hte, .inl rfl⟩
end
noncomputable def CXe (P : Program) (w : World) : CXT := fun outer H s E e s' => ∃ ea C dd T H', e = .ref ea ∧ s'.os = s.os ∧ AllBare s'.gens ∧ Un (frs outer) [] H H' s.heap s'.heap ∧ HOk P w H' s'.heap ∧ FlyT H' ea C dd T ∧
  ∀ T'' H'', XStep ea T H' T'' H'' → FlyT H'' ea C dd T'' → E (.ref ea) dd H''
noncomputable def XOk (X : Cx) (E : XK) : Prop := ∀ (pins : List (Addr × Obj)) (σ : St) (H : Hp) (s : Shared) (ea : Addr) (C : Value) (dd T : Option Addr), Inv X pins σ H s → FlyT H ea C dd T →
  (∀ T'' H'', XStep ea T H T'' H'' → FlyT H'' ea C dd T'' → E (.ref ea) dd H'') → X.xe (.ref ea) s
theorem leave_ok {X : Cx} {pins : List (Addr × Obj)} {σ : St} {H : Hp} {s : Shared} {M : Model} {A : Around} {E : Value → Shared → Prop} {e L : Addr} {C : Value} {dd T : Option Addr} {Q : Unit → Shared → Prop}
    (I : Inv X pins σ H s) (F : FlyT H e C dd T) (hA : A.frames = some X.stack) (hst : X.stack = X.env :: X.outer) (hf : X.env.frame = some L)
    (h : ∀ s' H' T', Inv X pins σ H' s' → FlyT H' e C dd T' → XStep e T H T' H' → Q () s') : wpAny M A (leaving X.env (.ref e)) Q E s := by
  unfold leaving
  exact wpAny_bind (note_ok I F hA hst hf fun s1 H1 t I1 F1 S1 => land_ok I1 F1 fun s2 H2 I2 F2 S2 => h s2 H2 _ I2 F2 (S1.trans S2))
theorem xok_cxOf {P : Program} {w : World} {K : PySem.W.Frag} {mg : Str → Option Value} {base : Heap} {N : List Str} {qual : Str} {scope : Scope} {f : Addr} {cd : Value} {A : Around} {outer : List Env} {s : Shared} {H : Hp} {E : XK} :
    XOk (cxOf (CXe P w) P w K mg base N qual scope f cd A outer s H E) E := by
  intro pins σ H1 s1 ea C dd T I F h
  refine leave_ok (X := cxOf (CXe P w) P w K mg base N qual scope f cd A outer s H E) (L := s.heap.objs.size) I F I.ok.frames rfl rfl fun s2 H2 T' I2 F2 S2 => ?_
  exact ⟨ea, C, dd, T', H2, rfl, I2.os, I2.bare, I2.base, I2.hok, F2, fun T'' H'' S F => h T'' H'' (S2.trans S) F⟩
theorem passX {X : Cx} {E : XK} (h : XOk X E) : Passes (CXe X.prog X.w) X E := by
  rintro pins σ H s e s' I ⟨ea, C, dd, T, H', rfl, ho, hg, hu, hk, F, q⟩
  exact h pins σ H' s' ea C dd T (I.call' (ch := []) ho hu hk hg fun b z => nomatch z) F q
end L2
set_option Elab.async false
set_option linter.all false
set_option maxRecDepth 100000
set_option maxHeartbeats 4000000
namespace L2
open PySem PySem.Spec PyProof.Rows
noncomputable abbrev bmV : List Value := [.type "ValueError", .type "Exception", .type "BaseException", .type "object"]
noncomputable def IsXC (h : Heap) (C : Addr) (bm : List Value) (mN : Str → Option Value) : Prop := ∃ nm q N bs hdct sn sub ab col dd k0 k1 k2 k3 k5, h.get? C = some (excClassObj nm q C N bs bm hdct sn sub ab col dd k0 k1 k2 k3 k5 "ValueError.__new__") ∧ h.Ns N mN ∧ OwnTail h bmV bm
theorem IsXC.keeps {h h' : Heap} {C : Addr} {bm : List Value} {mN : Str → Option Value} (x : IsXC h C bm mN) (k : ∀ b o, h.get? b = some o → h'.get? b = some o) : IsXC h' C bm mN :=
  let ⟨nm, q, N, bs, hdct, sn, sub, ab, col, dd, k0, k1, k2, k3, k5, a, b, c⟩ := x
  ⟨nm, q, N, bs, hdct, sn, sub, ab, col, dd, k0, k1, k2, k3, k5, k _ _ a, b.keeps k, c.keeps k⟩
section
variable {P : Program} {w : World} {H : Hp} {h h' : Heap} {a : Addr} {o : HO}
theorem ObjOk.obj (x : ObjOk P w H h a o) : ∃ ob, h.get? a = some ob := by
  cases o with
  | lst xs => obtain ⟨_, _, _, _, e⟩ := x; exact ⟨_, e⟩
  | tup xs => obtain ⟨_, _, _, o, e, _⟩ := x; exact ⟨_, e⟩
  | dK kvs => obtain ⟨_, _, _, _, o, _, _, e, _⟩ := x; exact ⟨_, e⟩
  | dT kvs => obtain ⟨_, _, _, _, o, _, _, e, _⟩ := x; exact ⟨_, e⟩
  | set S n => obtain ⟨o, _, _, _, e, _⟩ := x; exact ⟨_, e⟩
  | ins C dx fs => obtain ⟨_, _, _, e, _⟩ := x; exact ⟨_, e⟩
  | own y => exact x
  | xd fs => obtain ⟨_, ⟨_, _, _, e, _⟩, _⟩ := x; exact ⟨_, e⟩
  | rng lo hi => obtain ⟨_, _, _, e⟩ := x; exact ⟨_, e⟩
  | frz ob u => obtain ⟨e, _⟩ := x; exact ⟨_, e⟩
  | tbl ps => exact ⟨_, x⟩
  | met f y => exact ⟨_, x⟩
  | ext φ => exact x.2.1
theorem HOk.newAt (x : HOk P w H h) (n : h.get? a = none) : H a = none := by
  cases q : H a with
  | none => rfl
  | some u =>
    obtain ⟨ob, z⟩ := (x a u q).obj
    rw [n] at z
    cases z
theorem Inv.laidN {X : Cx} {pins : List (Addr × Obj)} {σ : St} {s : Shared} {t' : Nat} (I : Inv X pins σ H s) (k : ∀ b u, s.heap.get? b = some u → h'.get? b = some u) (hn : s.heap.get? a = none) (new : ObjOk X.prog X.w (upd H a o) h' a o) :
    Inv X pins σ (upd H a o) { s with heap := h', toks := t' } := by
  have hH := I.hok.newAt hn
  have nb : ∀ b u, H b = some u → upd H a o b = some u := fun b u q => by rw [upd_ne (ne_of_none q hH)]; exact q
  refine I.un ⟨fun b u q _ _ _ => k b u q, fun b u q _ _ _ => ⟨u.slots, k b u q⟩, fun b u q n _ => ?_, fun b u q _ => ⟨u, k b u q⟩, fun b xs q => nb _ _ q, fun b u xs q => nb _ _ q, fun b ps q => ⟨#[], by rw [nb _ _ q]; simp⟩⟩ fun b u q => ?_
  · rw [upd_ne (fun z => by subst z; rw [hn] at q; cases q)]; exact n
  · by_cases hb : b = a
    · subst hb; rw [upd_same] at q; cases q; exact new
    · rw [upd_ne hb] at q
      exact (I.hok b u q).stay (fun c v _ z => k c v z) (fun c z => nb _ _ z) fun c xs z => nb _ _ z
end
theorem IsXC.base {h : Heap} {C : Addr} {bm : List Value} {mN : Str → Option Value} (x : IsXC h C bm mN) : bm.contains (.type "BaseException") = true :=
  let ⟨_, _, _, _, _, _, _, _, _, _, _, _, _, _, _, _, _, c⟩ := x
  c.hasType rfl
noncomputable def Xtd (H : Hp) (e : Addr) (C : Value) (dd : Option Addr) (H' : Hp) : Prop := H e = none ∧ Same H H' ∧ ∃ T, FlyT H' e C dd T
theorem none_of_same {G H : Hp} {e : Addr} (s : Same G H) (x : H e = none) : G e = none := by
  cases q : G e with
  | none => rfl
  | some o =>
    have := s _ _ q
    rw [x] at this
    cases this
theorem Xtd.mono {G H H' : Hp} {e : Addr} {C : Value} {dd : Option Addr} (s : Same G H) (x : Xtd H e C dd H') : Xtd G e C dd H' := ⟨none_of_same s x.1, fun b o q => x.2.1 b o (s b o q), x.2.2⟩
theorem Xtd.step {G H H' : Hp} {e : Addr} {C : Value} {dd T T' : Option Addr} (n : G e = none) (nt : ∀ t, T = some t → G t = none) (s : Same G H) (S : XStep e T H T' H') (F : FlyT H' e C dd T') : Xtd G e C dd H' :=
  ⟨n, fun b o q => S.1 b o (s b o q) (ne_of_none q n) (fun z => by rw [nt b z] at q; cases q), T', F⟩
end L2
set_option Elab.async false
set_option linter.all false
set_option maxRecDepth 100000
set_option maxHeartbeats 4000000
namespace L2
open PySem PySem.Spec PyProof.Rows
noncomputable abbrev Cx.hand (X : Cx) (ea : Addr) : Cx := { X with A := X.A.mark (some (.ref ea)), calm := false, xe := fun _ _ => False }
section
variable {X : Cx} {pins : List (Addr × Obj)} {σ : St} {H : Hp} {s : Shared} {ea : Addr}
theorem Inv.hand (I : Inv X pins σ H s) (ea : Addr) : Inv (X.hand ea) pins σ H s :=
  ⟨⟨I.ok.mod, I.ok.kind, I.ok.glob, I.ok.blt, I.ok.above, I.ok.inj, I.ok.has, I.ok.cab, (fun z => nomatch z), I.ok.frames, I.ok.stk, I.ok.exf, I.ok.bs, I.ok.bsz, I.ok.noex, I.ok.exfs, I.ok.funs, I.ok.frf⟩, I.os, I.bare, I.base, I.loc, I.cell, I.free, I.freeC, I.pin, I.hok, I.len⟩
theorem Inv.unhand (hd : X.calm = true → X.A.handled = none) (I : Inv (X.hand ea) pins σ H s) : Inv X pins σ H s :=
  ⟨⟨I.ok.mod, I.ok.kind, I.ok.glob, I.ok.blt, I.ok.above, I.ok.inj, I.ok.has, I.ok.cab, hd, I.ok.frames, I.ok.stk, I.ok.exf, I.ok.bs, I.ok.bsz, I.ok.noex, I.ok.exfs, I.ok.funs, I.ok.frf⟩, I.os, I.bare, I.base, I.loc, I.cell, I.free, I.freeC, I.pin, I.hok, I.len⟩
theorem unbind_ok {M : Model} {A : Around} {E : Value → Shared → Prop} {i : Nat} {x : Str} {v : V} {pos : Pos} {Q : Unit → Shared → Prop} (I : Inv X pins σ H s) (hN : X.N.Nodup) (hi : X.N[i]? = some x) (hx : X.env.scope.names.lookup x = some .local) (hv : σ[i]? = some (some v))
    (h : ∀ s', Inv X pins (σ.set i none) H s' → Q () s') : wpAny M A (unbindBehindTheSuite X.env x pos) Q E s := by
  obtain ⟨m, hn, hl⟩ := id I.loc
  obtain ⟨u, ru, lk⟩ := hl i x v hi hv (.inl hx)
  have hm : m x = some u := by
    rcases lk with ⟨_, z⟩ | ⟨z, _⟩
    · exact z
    · have z2 : X.env.kindOf x = some .local := hx
      rw [z2] at z; rcases z with z | z <;> cases z
  unfold unbindBehindTheSuite
  refine wpAny_onRaise (wpAny_mono (wpAny_unbindName_local (E := fun _ _ => False) hx hn hm (by rw [I.ok.kind]; rfl) fun h' u' hn' hs => ?_) (fun _ _ q => q) fun _ _ z => False.elim z)
  refine h _ ?_
  have same : ∀ b o, b ≠ X.env.locals → s.heap.get? b = some o → h'.get? b = some o := fun b o n q => (hs.2 b n).trans q
  have neL : ∀ b o, X.s₀.heap.get? b = some o → b ≠ X.env.locals := fun b o e => Nat.ne_of_lt (Nat.lt_of_lt_of_le (Heap.lt_size e) I.ok.above)
  have neH : ∀ b o, H b = some o → b ≠ X.env.locals := fun b o e z => by rw [z, I.free] at e; cases e
  refine ⟨I.ok, I.os, I.bare, ⟨fun b o e n hb hx => same b o (neL b o e) (I.base.keep b o e n hb hx), fun b o e n hb hx => ?_, I.base.free, fun b o e hx => ?_, I.base.tups, I.base.frzs, I.base.tbls⟩, ⟨_, hn', fun j y w e1 e2 e3 => ?_⟩, fun y c e => ?_, I.free, I.freeC, fun p hp => ?_, fun b o e => ?_, by rw [List.length_set]; exact I.len⟩
  · obtain ⟨sl, z⟩ := I.base.slot b o e n hb hx
    exact ⟨sl, same b _ (neL b o e) z⟩
  · obtain ⟨o', z⟩ := I.base.there b o e hx
    exact ⟨o', same b _ (neL b o e) z⟩
  · have hj : j ≠ i := fun z => by
      subst z
      rw [List.getElem?_set_self (by rw [I.len]; exact (List.getElem?_eq_some_iff.mp e1).1)] at e2
      cases e2
    rw [List.getElem?_set_ne (Ne.symm hj)] at e2
    obtain ⟨u2, r2, l2⟩ := hl j y w e1 e2 e3
    have hy : y ≠ x := fun z => hj (nodup_ix hN (by rw [← z]; exact e1) hi)
    refine ⟨u2, r2, ?_⟩
    rcases l2 with ⟨z1, z2⟩ | ⟨z1, c, z2, o, z3, z4⟩
    · exact .inl ⟨z1, (if_neg hy).trans z2⟩
    · exact .inr ⟨z1, c, z2, o, same c o (I.cne y c z2) z3, z4⟩
  · obtain ⟨w, o, z3, z4⟩ := I.cell y c e
    exact ⟨w, o, same c o (I.cne y c e) z3, z4⟩
  · obtain ⟨e1, n1, ne, nf, d1⟩ := I.pin p hp
    exact ⟨same _ _ ne e1, n1, ne, nf, d1⟩
  · refine (I.hok b o e).stay (fun c w hc z => same c w ?_ z) (fun _ z => z) fun _ _ z => z
    rcases hc with z1 | z1
    · rw [z1]; exact neH b o e
    · exact neH c _ z1
end
noncomputable def Fell (X : Cx) (pins : List (Addr × Obj)) (σ : St) (E : XK) (x : Value) (s' : Shared) : Prop := ∃ ea C dd T H', x = .ref ea ∧ Inv X pins σ H' s' ∧ FlyT H' ea C dd T ∧ ∀ T'' H'', XStep ea T H' T'' H'' → FlyT H'' ea C dd T'' → E (.ref ea) dd H''
noncomputable def PX (X : Cx) (e : Expr) (t : XK → TE) : Prop := ∀ (pins : List (Addr × Obj)) (s : Shared) (σ : St) (H : Hp) (Q : VK) (E : XK), Inv X pins σ H s → t E σ H Q → wpAny (model X.prog X.w) X.A (eval e X.env) (EP X pins σ Q) (Fell X pins σ E) s
section
variable {X : Cx} {k : Nat} {f : Addr} {fd : FuncData} {ps : List Str} {sp : Sp} {dvs : List V} {ds : List Value} {x : Str} {p pos : Pos} {e : Expr} {es : List Expr} {t : TA}
theorem px_call (F : FnOk X.prog X.w X.K X.mg X.base (CXe X.prog X.w) k f fd ps sp) (hr : Room k X.A) (hg : Gl X x) (hm : X.mg x = some (.ref f)) (hk : PySem.W.keepIn X.K (.ref f) = true) (hb : Binds X.K fd ps ds) (hd : Vals dvs ds)
    (ha : PA X.nox (e :: es) t) (hdb : (x == ("__debug__" : Str)) = false := by decide) (he : starEach (e :: es) X.env = (false, eval e X.env) :: starEach es X.env := by rfl) (hpl : (backTo pos (starEach es X.env)).any (·.1) = false := by rfl) :
    PX X (.Call (.Name x p) (e :: es) [] pos) (fun E => tCall sp dvs E t) := by
  intro pins s σ H Q E I h
  refine wpAny_Call_Name_kw (ld_glob I hg hm ?_ hdb)
  refine PySem.W.callWith_K (h₀ := X.base) I.ok.mod.kin hk (wpAny_mono (ha pos pins s σ H _ (I.wish _) h) (fun us s1 ⟨vs, H1, I1', r, q⟩ => ⟨I1'.unwish.kIn, ?_⟩) fun _ _ z => False.elim z) he hpl
  have I1 := I1'.unwish
  have r2 : Vals (vs ++ dvs) (us ++ ds) := r.append hd
  have hl : (us ++ ds).length = ps.length := by rw [← r2.length]; exact F.len _ _ _ _ q
  refine wpAny_call (codeAny_mono (F.run X.A X.stack s1 H1 ⟨us, []⟩ (us ++ ds) (vs ++ dvs) Q E hr I1.env0 (hb s1 us I1.kIn hl) r2 q) fun r s' hq => ?_)
  cases r with
  | error e =>
    obtain ⟨ea, C, dd, T, H', rfl, ho, hg, hu, hk, F, q⟩ := hq
    exact ⟨ea, C, dd, T, H', rfl, I1.call' (ch := []) ho hu hk hg (fun b z => nomatch z), F, q⟩
  | ok fl =>
    cases fl with
    | ret u => exact I1.after hq
    | next => exact False.elim hq
    | brk => exact False.elim hq
    | cont => exact False.elim hq
end
noncomputable def tHandAs (C : Addr) (i : Nat) (ts : TS) (D : Ends) (σ : St) : XK := fun e dd H' => ∃ ea T, e = .ref ea ∧ FlyT H' ea (.ref C) dd T ∧
  ts { nx := fun σ' H'' => D.nx (σ'.set i none) H'', rt := D.rt, bk := fun σ' H'' => D.bk (σ'.set i none) H'', ct := fun σ' H'' => D.ct (σ'.set i none) H'' } (σ.set i (some (.ref ea))) H'
theorem fly_cls {P : Program} {w : World} {H : Hp} {h : Heap} {e : Addr} {C C' : Value} {dd dd' T T' : Option Addr} (hok : HOk P w H h) (a : FlyT H e C dd T) (b : FlyT H e C' dd' T') : C = C' := by
  obtain ⟨_, _, z, _⟩ := exc_get hok a.1
  obtain ⟨_, _, y, _⟩ := exc_get hok b.1
  rw [z] at y
  injection y with y
  injection y
section
variable {X : Cx} {pins : List (Addr × Obj)} {σ : St} {H : Hp} {s : Shared} {ea L C : Addr} {dd T : Option Addr} {D : Ends} {c n : Str} {cp hpos : Pos} {b₀ : Stmt} {suite : List Stmt} {i : Nat} {ts : TS} {bm : List Value} {mN : Str → Option Value} {x : Value}
theorem caught_as (hc : X.calm = true) (hst : X.stack = X.env :: X.outer) (hf : X.env.frame = some L) (hg : Gl X c) (hm : X.mg c = some (.ref C)) (hC : IsXC X.base C bm mN) (hN : X.N.Nodup) (hi : X.N[i]? = some n) (hx : X.env.scope.names.lookup n = some .local)
    (hs : ∀ ea, PSs (X.hand ea) (b₀ :: suite) ts) (Fl : Fell X pins σ (tHandAs C i ts D σ) x s) (hdb : (c == ("__debug__" : Str)) = false := by decide) :
    wpAny (model X.prog X.w) X.A (noteFrame x X.env) (fun _ s₂ => wpAny (model X.prog X.w) X.A (setFlight x none) (fun _ s₃ => wpAny (model X.prog X.w) X.A (handleBy x X.env [.ExceptHandler (some (.Name c cp)) (some n) (b₀ :: suite) hpos]) (SP X pins D) X.xe s₃) X.xe s₂) X.xe s := by
  obtain ⟨ea, C', dd, T, H', rfl, I, Fy, q⟩ := Fl
  have hd := I.ok.hd
  refine note_ok I Fy I.ok.frames hst hf fun s1 H1 t1 I1 F1 S1 => land_ok I1 F1 fun s2 H2 I2 F2 S2 => ?_
  refine wpAny_handleBy_cons (codeAny_handlers_test (ld_glob (X := X.hand ea) (I2.hand ea) hg hm ?_ hdb)) (fun z => nomatch z)
  obtain ⟨ea', T', e1, F3, q3⟩ := q _ H2 (S1.trans S2) F2
  cases e1
  obtain rfl : C' = Value.ref C := fly_cls I2.hok F2 F3
  obtain ⟨nm, qn, N, bs, hdct, sn, sub, ab, col, dd', k0, k1, k2, k3, k5, c1, c2, c3⟩ := (hC.keeps I2.bk)
  obtain ⟨vs, sl, he, _⟩ := exc_get I2.hok F2.1
  obtain ⟨hh, g, d, tk, os⟩ := s2
  refine wpAny_excMatches_sub_self c1 he rfl hC.base (codeAny_handlers_suite_as ?_)
  refine land_ok (I2.hand ea) F2 fun s3 H3 I3 F3' S3 => ?_
  obtain ⟨ea', T', e1, F3, q3⟩ := q _ H3 ((S1.trans S2).trans S3) F3'
  cases e1
  refine store_ok (X := X.hand ea) I3 hN hi (.inl hx) (v := .ref ea) rfl (fun s4 I4 => ?_) (.inr hx)
  refine wpAny_mono (hs ea pins s4 _ H3 _ I4 q3) (fun f s5 h5 => ?_) fun _ _ z => False.elim z
  have fin : ∀ {σ' : St} {H5 : Hp} {Q : Flow → Shared → Prop}, Inv (X.hand ea) pins σ' H5 s5 → (∀ s6, Inv X pins (σ'.set i none) H5 s6 → Q f s6) → wpAny (model X.prog X.w) X.A (do bindName X.env n .none; unbindBehindTheSuite X.env n hpos) (fun _ s6 => Q f s6) X.xe s5 := by
    intro σ' H5 Q J k
    refine wpAny_bind (wpAny_bindName (store_ok (J.unhand hd) hN hi (.inl hx) (v := .non) rfl (fun s6 J6 => ?_) (.inr hx)))
    have hlen : i < σ'.length := by rw [J.len]; exact (List.getElem?_eq_some_iff.mp hi).1
    refine unbind_ok J6 hN hi hx (by rw [List.getElem?_set_self hlen]) fun s7 J7 => k s7 ?_
    rw [List.set_set] at J7
    exact J7
  cases f with
  | next => obtain ⟨σ', H5, J, q5⟩ := h5; exact fin (Q := SP X pins D) J fun s6 J6 => ⟨_, _, J6, q5⟩
  | brk => obtain ⟨σ', H5, J, q5⟩ := h5; exact fin (Q := SP X pins D) J fun s6 J6 => ⟨_, _, J6, q5⟩
  | cont => obtain ⟨σ', H5, J, q5⟩ := h5; exact fin (Q := SP X pins D) J fun s6 J6 => ⟨_, _, J6, q5⟩
  | ret u => obtain ⟨v, σ', H5, J, r, q5⟩ := h5; exact fin (Q := SP X pins D) J fun s6 J6 => ⟨v, _, _, J6, r, q5⟩
end
end L2
namespace L2
open PySem PySem.Spec PyProof.Rows
noncomputable def tTrySA (te : XK → TE) (j : Nat) (C : Addr) (i : Nat) (ts : TS) : TS := fun D σ H => te (tHandAs C i ts D σ) σ H fun v H1 => D.nx (σ.set j (some v)) H1
noncomputable def XC (K : PySem.W.Frag) (C : Addr) : Prop := ∀ h, K.In h → ∃ bm mN, IsXC h C bm mN
section
variable {X : Cx} {C : Addr} {c n x : Str} {cp hpos pos apos xp : Pos} {b₀ : Stmt} {suite : List Stmt} {i j : Nat} {ts : TS} {e : Expr} {te : XK → TE} {L : Addr}
theorem ps_trySA (hc : X.calm = true) (hst : X.stack = X.env :: X.outer) (hf : X.env.frame = some X.env.locals) (hg : Gl X c) (hm : X.mg c = some (.ref C)) (hC : XC X.K C) (hN : X.N.Nodup) (hj : X.N[j]? = some x) (hl : Loc X.env.scope x) (hi : X.N[i]? = some n) (hx : X.env.scope.names.lookup n = some .local)
    (he : PX X e te) (hs : ∀ ea, PSs (X.hand ea) (b₀ :: suite) ts) (hw : swapsWith e (some (.Name x xp)) apos.line X.env = pure false := by rfl) (hfn : X.fn x = true ∨ X.env.scope.names.lookup x = some .local := by first | exact .inl rfl | exact .inr rfl | assumption) (hdb : (c == ("__debug__" : Str)) = false := by decide) :
    PS X (.Try [.Assign [.Name x xp] e apos] [.ExceptHandler (some (.Name c cp)) (some n) (b₀ :: suite) hpos] [] [] pos) (tTrySA te j C i ts) := by
  intro pins s σ H D I h
  obtain ⟨bm, mN, hI⟩ := hC X.base I.ok.mod.kin
  refine wpAny_Try_except (wpAny_execs_cons (wpAny_Assign_Name (wpAny_mono (he pins s σ H _ _ I h) (fun v s1 ⟨y, H1, I1, r1, q1⟩ => ?_) fun y s1 Fl => caught_as hc hst hf hg hm hI hN hi hx hs Fl hdb) hw))
  exact store_ok I1 hN hj hl r1 (fun s2 I2 => wpAny_execs_nil (wpAny_execs_nil ⟨_, H1, I2, q1⟩)) hfn
end
end L2
set_option Elab.async false
set_option linter.all false
set_option maxRecDepth 100000
set_option maxHeartbeats 4000000
namespace L2
open PySem PySem.Spec PyProof.Rows PySem.W
section
variable {prog : Program} {w : World} {A : Around} {E : Value → Shared → Prop} {s : Shared} {K : PySem.W.Frag} {x C : Addr} {ox : Obj} {od : Option Obj} {nm : Str} {tk : Tok}
structure XGet (K : PySem.W.Frag) (C : Addr) : Prop where
  ga : findIn K (.ref C) "__getattribute__" = some (some (.builtin "BaseException.__getattribute__"))
  gt : findIn K (.ref C) "__getattr__" = some none
  mb : mroIn K C (.type "BaseException") = some true
theorem xget_call {R : Result → Shared → Prop} (X : K.In s.heap) (I : PySem.W.InstAt s.heap x ox C od) (G : XGet K C)
    (h : wpAny (model prog w) A.in1 (Builtin.«object.__getattribute__» ⟨[.ref x, .str nm tk], []⟩) (fun fin s' => match fin with | .done (.ret v) => R (.ok (.ret v)) s' | _ => False) (fun _ _ => False) s) :
    codeAny (model prog w) A (.call (.builtin "BaseException.__getattribute__") ⟨[.ref x, .str nm tk], []⟩) R s := by
  refine codeAny_call_builtin PySem.F.attrBase_ValueError.ga.plain PySem.F.entry_bexc_ga ?_
  have hk : builtinKind "BaseException.__getattribute__" = some .slot := by decide +kernel
  have hsp : splitId "BaseException.__getattribute__" = some ("BaseException", "__getattribute__") := by decide +kernel
  have ha := PySem.F.args_bexc_ga (.ref x) (.str nm tk)
  obtain ⟨hh, g, d, t, os⟩ := s
  have L0 := I.type (M := model prog w)
  have L1 := looks_mroIn (M := model prog w) X G.mb
  have LI : Looks (model prog w) hh (isInstance (.ref x) (.type "BaseException")) true := L0.andThen L1
  simp only [checkBuiltinCall, hk, hsp]
  refine wpAny_bind (LI.at ?_)
  simp only [Bool.not_true, Bool.false_eq_true, if_false]
  refine wpAny_mono (Q := fun _ s' => s' = ⟨hh, g, d, t, os⟩) (E := fun _ _ => False) ?_ (fun _ s' z => ?_) fun _ _ z => False.elim z
  · have := ha
    repeat (any_goals (first | assumption | rfl | wp_step))
  · subst z
    refine wpAny_mono h (fun fin s' z => ?_) fun _ _ z => False.elim z
    rcases fin with (_ | _ | _ | _) | _ <;> first | exact z | exact False.elim z
theorem xget_by {fill expr : Bool} {Q : Value → Shared → Prop} (X : K.In s.heap) (I : PySem.W.InstAt s.heap x ox C od) (G : XGet K C)
    (h : wpAny (model prog w) A.in1 (Builtin.«object.__getattribute__» ⟨[.ref x, .str nm tk], []⟩) (fun fin s' => match fin with | .done (.ret v) => wpAny (model prog w) A (handedOut v) Q E s' | _ => False) (fun _ _ => False) s) :
    wpAny (model prog w) A (getAttrBy (.ref x) (.str nm tk) fill expr) Q E s := by
  obtain ⟨hh, g, d, t, os⟩ := s
  have L0 := I.type (M := model prog w)
  have L1 := looks_findIn (M := model prog w) X G.ga
  have L2 := looks_findIn (M := model prog w) X G.gt
  unfold getAttrBy
  refine wpAny_holding (wpAny_bind (L0.at (wpAny_bind (L1.at ?_))))
  dsimp only
  rw [if_neg (by rw [show (Value.builtin "BaseException.__getattribute__" == Value.builtin "object.__getattribute__") = false from by decide]; simp)]
  unfold getAttrByItsOwn hookBefore
  rw [if_pos (show onTheHeap (.ref C) = true from rfl)]
  refine wpAny_bind (L2.at (wpAny_bind (wpAny_attempt (wpAny_holding ?_))))
  unfold callGetattribute boundAndCalled
  rw [if_neg (by cases expr <;> decide)]
  refine wpAny_bind (wpAny_of_eq (PySem.F.attrBase_ValueError.ga.bind (.ref x)) ?_)
  refine wpAny_call (xget_call X I G (wpAny_mono h (fun fin s' z => ?_) fun _ _ z => z))
  rcases fin with (_ | _ | _ | _) | _ <;> first | exact z | exact False.elim z
theorem xget_class {Q : Option Value → Shared → Prop} (X : K.In s.heap) (I : PySem.W.InstAt s.heap x ox C od) (G : XGet K C) (hf : findObj K C od "__class__" = some (.bind (.builtin "getset_descriptor.__get__") (.builtin "object.__class__"))) (hm : mroIn K C (.type "object") = some true)
    (h : Q (some (.ref C)) { s with toks := s.toks + 1 }) : wpAny (model prog w) A (getAttr? (.ref x) "__class__") Q E s := by
  obtain ⟨hh, g, d, t, os⟩ := s
  unfold getAttr? getAttrBy?
  refine wpAny_bind (wpAny_mkText (wpAny_bind (wpAny_attempt (xget_by (s := ⟨hh, g, d, t + 1, os⟩) X I G ?_))))
  have L0 := I.type (M := model prog w)
  have L1 := looks_find (M := model prog w) X I hf
  unfold Builtin.«object.__getattribute__»
  refine wpAny_bind (wpAny_pure (wpAny_bind (wpAny_pure (wpAny_bind (L0.at (wpAny_bind (L1.at ?_)))))))
  dsimp only
  unfold Builtin.ObjectAttr.bindTo
  refine wpAny_bind (wpAny_holding (wpAny_call (class_get (s := ⟨hh, g, d, t + 1, os⟩) (ox := ox) (od := od) X I hm ?_)))
  exact wpAny_pure (handed_on rfl (wpAny_pure h))
theorem xget_own {expr : Bool} {v : Value} {Q : Value → Shared → Prop} (X : K.In s.heap) (I : PySem.W.InstAt s.heap x ox C od) (G : XGet K C) (hf : findObj K C od nm = some (.value v)) (hv : handedIn v = true)
    (h : Q v { s with toks := s.toks + 1 }) : wpAny (model prog w) A (getAttr (.ref x) nm expr) Q E s := by
  obtain ⟨hh, g, d, t, os⟩ := s
  unfold getAttr
  refine wpAny_bind (wpAny_mkText (xget_by (s := ⟨hh, g, d, t + 1, os⟩) X I G ?_))
  have L0 := I.type (M := model prog w)
  have L1 := looks_find (M := model prog w) X I hf
  unfold Builtin.«object.__getattribute__»
  refine wpAny_bind (wpAny_pure (wpAny_bind (wpAny_pure (wpAny_bind (L0.at (wpAny_bind (L1.at ?_)))))))
  exact wpAny_pure (handed_on hv h)
end
end L2
set_option Elab.async false
set_option linter.all false
set_option maxRecDepth 100000
set_option maxHeartbeats 4000000
namespace L2
open PySem PySem.Spec PyProof.Rows PySem.W
section
variable {P : Program} {w : World} {K : PySem.W.Frag} {mg : Str → Option Value} {base : Heap}
theorem Fun.okX {x qual : Str} {st : Stmt} {f : Addr} {fd : FuncData} {N ps : List Str} {k : Nat} {sp : Sp} (F : Fun K x qual st f fd) (S : FnScope N ps (defScope st)) (len : ∀ vs H Q E, sp vs H Q E → vs.length = ps.length)
    (hbody : ∀ (cdv : Value) (A : Around) (outer : List Env) (s : Shared) (H : Hp) (vs : List V) (Q : VK) (E : XK), Room k (A.deeper (envOfC qual (defScope st) s.heap.objs.size f cdv)) → sp vs H Q E →
      ∃ t, PSs (cxOf (CXe P w) P w K mg base N qual (defScope st) f cdv A outer s H E) (defBody st) t ∧ t { nx := fun _ H' => Q .non H', rt := Q } (start N vs) H) : FnOk P w K mg base (CXe P w) (k + 1) f fd ps sp := by
  obtain ⟨oc, od, kV, doc, pm, an, cdv, ct, osl, rfl, lk, hcd⟩ := F.ex
  exact fn_of lk hcd S len fun A outer s H vs Q E hr hsp => hbody cdv A outer s H vs Q E hr hsp
end
structure XIsi (K : PySem.W.Frag) (C : Addr) : Prop extends XGet K C where
  cls : (clsIn K C).isSome = true
  ca : findIn K (.ref C) "__class__" = some (some (.builtin "object.__class__"))
  mo : mroIn K C (.type "object") = some true
theorem ty_class : pureOf (fastBuiltinType "object.__class__") = some (.type "getset_descriptor") := by kernel_rfl
theorem sp_class (K : PySem.W.Frag) : specialIn K (.builtin "object.__class__") "__get__" = some (some (.builtin "getset_descriptor.__get__")) := by
  show (pureOf (fastBuiltinType "object.__class__")).bind _ = _
  rw [ty_class]
  show fastLookup "getset_descriptor" "__get__" = _
  kernel_rfl
theorem tk_class (K : PySem.W.Frag) : takesIn K (.builtin "object.__class__") = some true := by
  have e : specialIn K (.builtin "object.__class__") "__set__" = some (some (.builtin "getset_descriptor.__set__")) := by
    show (pureOf (fastBuiltinType "object.__class__")).bind _ = _
    rw [ty_class]
    show fastLookup "getset_descriptor" "__set__" = _
    kernel_rfl
  unfold takesIn
  rw [e]
noncomputable def XObj (x C : Addr) (h : Heap) : Prop := ∃ ox od, PySem.W.InstAt h x ox C od
theorem kitx_exc {K : PySem.W.Frag} {x C : Addr} (Z : XIsi K C) : KitX K (.ref x) (.ref C) (XObj x C) := by
  obtain ⟨cd, hcd⟩ := Option.isSome_iff_exists.mp Z.cls
  have hl : ∃ c d sl, K.lookup C = some ⟨c, d, .cls cd, sl⟩ := by
    unfold clsIn at hcd
    split at hcd
    · rename_i q; cases hcd; exact ⟨_, _, _, q⟩
    · cases hcd
  obtain ⟨c, d, sl, hl⟩ := hl
  refine ⟨fun M h _ ⟨_, _, I⟩ => I.type, fun M h X _ A Q E s k q => ?_, fun h tp dd its n sl' X htp => ?_, fun {prog w A E Q s} X ⟨ox, od, I⟩ k => xget_class X I Z.toXGet ?_ Z.mo k⟩
  · unfold isType loadHead
    exact wpAny_bind (wpAny_loadPart (k _ _ (X _ _ hl)) (wpAny_pure q))
  · refine Bool.eq_false_iff.mpr fun q => ?_
    have e : C = tp := Value.ref.inj (beq_iff_eq.mp q)
    subst e
    have z := (X _ _ hl).symm.trans htp
    cases z
  · unfold findObj
    rw [hcd, Option.bind_some, Z.ca, Option.bind_some]
    simp [sp_class K, tk_class K]
noncomputable def XDict (H : Hp) (dd : Option Addr) : Prop := ∀ d, dd = some d → ∃ fs, H d = some (.xd fs)
theorem xobj_of {P : Program} {w : World} {H : Hp} {h : Heap} {e C : Addr} {dd T : Option Addr} (hok : HOk P w H h) (F : H e = some (ExcO e (.ref C) dd T)) (D : XDict H dd) : XObj e C h := by
  obtain ⟨vs, sl, z, _⟩ := exc_get hok F
  cases dd with
  | none => exact ⟨_, none, z, rfl, rfl, trivial⟩
  | some d =>
    obtain ⟨fs, q⟩ := D d rfl
    obtain ⟨o, y⟩ := (hok d _ q).obj
    exact ⟨_, some o, z, rfl, rfl, y⟩
noncomputable def rIsiC (K : PySem.W.Frag) : List V → Hp → VK → Prop := fun xs H Q => ∃ e C dd T C' b, xs = [.ref e, .ref C'] ∧ H e = some (ExcO e (.ref C) dd T) ∧ XDict H dd ∧ XIsi K C ∧ kitOne K (.ref C) (.ref C') = some b ∧ Q (.bl b) H
noncomputable def rIsiB (K : PySem.W.Frag) : List V → Hp → VK → Prop := fun xs H Q => ∃ e C dd T n b, xs = [.ref e, .ty n] ∧ H e = some (ExcO e (.ref C) dd T) ∧ XDict H dd ∧ XIsi K C ∧ kitOne K (.ref C) (.type n) = some b ∧ Q (.bl b) H
noncomputable def rIsiT (K : PySem.W.Frag) : List V → Hp → VK → Prop := fun xs H Q => ∃ e C dd T t, ∃ (cs : List Addr) (b : Bool), xs = [.ref e, .ref t] ∧ H e = some (ExcO e (.ref C) dd T) ∧ XDict H dd ∧ XIsi K C ∧ H t = some (.tup (cs.map V.ref)) ∧ kitAny K (.ref C) (cs.map Value.ref) = some b ∧ Q (.bl b) H
theorem vals_ref : ∀ {cs : List Addr} {us : List Value}, Vals (cs.map V.ref) us → us = cs.map Value.ref
  | [], _, .nil => rfl
  | _ :: _, _, .cons r t => by rw [vals_ref t]; cases (show _ = Value.ref _ from r); rfl
section
variable {X : Cx}
theorem call_isiC : CallR X (.builtin "isinstance") (rIsiC X.K) := by
  intro pins s σ H xs us Q I r h
  obtain ⟨e, C, dd, T, C', b, rfl, he, hD, Z, hk, q⟩ := h
  obtain ⟨u, c, rfl, rx, rc⟩ := vals2 r
  cases (show u = Value.ref e from rx)
  cases (show c = Value.ref C' from rc)
  exact PySem.W.kia_one (kitx_exc Z) I.kIn (xobj_of I.hok he hD) hk (fun z => nomatch z) fun tk => ⟨.bl b, H, I.tok tk, rfl, q⟩
theorem call_isiB : CallR X (.builtin "isinstance") (rIsiB X.K) := by
  intro pins s σ H xs us Q I r h
  obtain ⟨e, C, dd, T, C', b, rfl, he, hD, Z, hk, q⟩ := h
  obtain ⟨u, c, rfl, rx, rc⟩ := vals2 r
  cases (show u = Value.ref e from rx)
  cases (show c = Value.type C' from rc)
  exact PySem.W.kia_one (kitx_exc Z) I.kIn (xobj_of I.hok he hD) hk (fun z => nomatch z) fun tk => ⟨.bl b, H, I.tok tk, rfl, q⟩
theorem call_isiT : CallR X (.builtin "isinstance") (rIsiT X.K) := by
  intro pins s σ H xs us Q I r h
  obtain ⟨e, C, dd, T, t, cs, b, rfl, he, hD, Z, ht, hk, q⟩ := h
  obtain ⟨u, c, rfl, rx, rc⟩ := vals2 r
  cases (show u = Value.ref e from rx)
  cases (show c = Value.ref t from rc)
  obtain ⟨_, its, rv, o, h1, h2, n, h3⟩ := (show ObjOk X.prog X.w H s.heap t (.tup (cs.map V.ref)) from I.hok t _ ht)
  obtain ⟨oc, od, odt, osl⟩ := o
  dsimp only at h2 h3
  subst h2 h3
  rw [vals_ref rv] at h1
  exact PySem.W.kia_tup (kitx_exc Z) I.kIn (xobj_of I.hok he hD) h1 hk (fun z => nomatch z) fun tk => ⟨.bl b, H, I.tok tk, rfl, q⟩
end
end L2
set_option Elab.async false
set_option linter.all false
set_option maxRecDepth 100000
set_option maxHeartbeats 4000000
namespace L2
open PySem PySem.Spec PyProof.Rows
section
variable {X : Cx}
theorem hand_K (X : Cx) (ea : Addr) : (X.hand ea).K = X.K := rfl
theorem nox_K (X : Cx) : X.nox.K = X.K := rfl
theorem cxOf_K1 (CX : CXT) (P : Program) (w : World) (K : PySem.W.Frag) (mg : Str → Option Value) (base : Heap) (N : List Str) (qual : Str) (scope : Scope) (f : Addr) (cd : Value) (A : Around) (outer : List Env) (s : Shared) (H : Hp) (E : XK) : (cxOf CX P w K mg base N qual scope f cd A outer s H E).K = K := rfl
end
end L2
namespace Ken
open PySem
theorem boot_ValueError : bootBuiltins "ValueError" = some (.type "ValueError") := PyProof.Rows.Boot.«ValueError»
end Ken
set_option Elab.async false
set_option linter.all false
set_option maxRecDepth 100000
set_option maxHeartbeats 4000000
namespace L2
open PySem PySem.Spec PyProof.Rows PySem.W
section
variable {X : Cx} {pins : List (Addr × Obj)} {σ : St} {H : Hp} {s : Shared} {e t : Addr} {C : Value} {dd T dd' T' : Option Addr} {ot : HO}
theorem Inv.besides {s' : Shared} (I : Inv X pins σ H s) (Fe : H e = some (ExcO e C dd T)) (hos : s'.os = s.os) (hg : s'.gens = s.gens) (hn : s.heap.get? t = none)
    (keep : ∀ b o, s.heap.get? b = some o → b ≠ e → s'.heap.get? b = some o)
    (exc : ∃ vs sl, s'.heap.get? e = some ⟨C, dd', .fields vs, sl⟩ ∧ vs.size = 6 ∧ vs[1]? = some (T'.elim Value.none Value.ref))
    (new : ∀ G, ObjOk X.prog X.w G s'.heap t ot) : Inv X pins σ (upd (upd H t ot) e (ExcO e C dd' T')) s' := by
  have hnt : H t = none := I.hok.newAt hn
  have nx : ∀ b o, H b = some o → (∀ φ, o ≠ .ext φ) → b ≠ e := fun b o q n z => by subst z; rw [Fe] at q; cases q; exact n _ rfl
  have up : ∀ b o, H b = some o → b ≠ e → upd (upd H t ot) e (ExcO e C dd' T') b = some o := fun b o q n => by rw [upd_ne n, upd_ne (ne_of_none q hnt)]; exact q
  have hfe : ∀ b o, s.heap.get? b = some o → H b = none → s'.heap.get? b = some o := fun b o q n => keep b o q fun z => by rw [z, Fe] at n; cases n
  refine I.call' (ch := []) hos ⟨fun b o q n _ _ => hfe b o q n, fun b o q n _ _ => ⟨o.slots, hfe b o q n⟩, fun b o q n _ => ?_, fun b o q _ => ?_, fun b xs q => up b _ q (nx b _ q fun φ z => nomatch z), fun b o u q => up b _ q (nx b _ q fun φ z => nomatch z),
    fun b ps q => ⟨#[], by rw [up b _ q (nx b _ q fun φ z => nomatch z)]; simp⟩⟩ (fun b o q => ?_) (by rw [hg]; exact I.bare) (fun b z => nomatch z)
  · rw [upd_ne (ne_of_none Fe n).symm, upd_ne (fun z => by rw [z, hn] at q; cases q)]; exact n
  · by_cases hb : b = e
    · subst hb; obtain ⟨_, _, z, _⟩ := exc; exact ⟨_, z⟩
    · exact ⟨o, keep b o q hb⟩
  · by_cases hb : b = e
    · subst hb; rw [upd_same] at q; cases q; exact exc_mk exc
    · rw [upd_ne hb] at q
      by_cases ht : b = t
      · subst ht; rw [upd_same] at q; cases q; exact new _
      · rw [upd_ne ht] at q
        refine (I.hok b o q).stay (fun c u hc z => keep c u z ?_) (fun c z => up c _ z (nx c _ z fun φ y => nomatch y)) fun c xs z => up c _ z (nx c _ z fun φ y => nomatch y)
        rcases hc with hc | hc
        · rw [hc]; exact hb
        · exact nx c _ hc fun φ y => nomatch y
end
structure XSet (K : PySem.W.Frag) (C : Addr) (nm : Str) : Prop where
  sa : findIn K (.ref C) "__setattr__" = some (some (.builtin "object.__setattr__"))
  na : findIn K (.ref C) nm = some none
  hd : hasDictIn K C = true
  mo : mroIn K C (.type "object") = some true
theorem refuse_tail {h : Heap} {bm : List Value} (T : OwnTail h bmV bm) (self : Value) : refuseLoop self "__setattr__" bm = pure () := by
  induction T with
  | base => exact PySem.F.store_ValueError.passes self
  | own _ _ _ _ ih => rw [refuseLoop_ref]; exact ih
section
variable {prog : Program} {w : World} {A : Around} {E : Value → Shared → Prop} {s : Shared} {K : PySem.W.Frag} {x C : Addr} {nm : Str} {tk : Tok} {v : Value} {vs : Array Value} {sl : Array (Option Value)} {bm : List Value} {mN : Str → Option Value}
theorem xset_call {R : Result → Shared → Prop} (X : K.In s.heap) (hx : s.heap.get? x = some ⟨.ref C, none, .fields vs, sl⟩) (S : XSet K C nm) (hC : IsXC s.heap C bm mN)
    (h : ∀ h' tk', h'.Ns1 s.heap.objs.size (fun y => if y = nm then some v else none) → (∀ b o, b ≠ x → s.heap.get? b = some o → h'.get? b = some o) → h'.get? x = some ⟨.ref C, some s.heap.objs.size, .fields vs, sl⟩ → R (.ok (.ret .none)) { s with heap := h', toks := tk' }) :
    codeAny (model prog w) A (.call (.builtin "object.__setattr__") ⟨[.ref x, .str nm tk, v], []⟩) R s := by
  have I : PySem.W.InstAt s.heap x ⟨.ref C, none, .fields vs, sl⟩ C none := ⟨hx, rfl, rfl, trivial⟩
  obtain ⟨hh, g, d, t, os⟩ := s
  have L0 := I.type (M := model prog w)
  have L1 := looks_mroIn (M := model prog w) X S.mo
  have L2 := looks_findIn (M := model prog w) X S.na
  obtain ⟨cd, hcd, hdct⟩ := any_some S.hd
  have LC := looks_clsIn (M := model prog w) X hcd
  have LI : Looks (model prog w) hh (isInstance (.ref x) (.type "object")) true := L0.andThen L1
  have hk := PySem.F.store_ValueError.kind
  have hsp := PySem.F.store_ValueError.split
  have ha := PySem.F.store_ValueError.args (.ref x) (.str nm tk) v
  refine codeAny_call_builtin PySem.F.store_ValueError.slot.plain PySem.F.entry_object_sa ?_
  simp only [checkBuiltinCall, hk, hsp]
  refine wpAny_bind (LI.at ?_)
  simp only [Bool.not_true, Bool.false_eq_true, if_false]
  refine wpAny_mono (Q := fun _ s' => s' = ⟨hh, g, d, t, os⟩) (E := fun _ _ => False) ?_ (fun _ s' z => ?_) fun _ _ z => False.elim z
  · repeat (any_goals (first | assumption | rfl | wp_step))
  subst z
  obtain ⟨nm', q', N, bs, hdct', sn, sub, ab, col, dd, k0, k1, k2, k3, k5, c1, c2, c3⟩ := hC
  unfold Builtin.«object.__setattr__»
  simp only [List.isEmpty_nil, Bool.not_true, Bool.false_eq_true, if_false]
  rw [refuse_eq]
  refine wpAny_bind (wpAny_bind (L0.at (wpAny_bind (wpAny_mroOf_exc c1 ?_))))
  rw [refuseLoop_ref, refuse_tail c3]
  refine wpAny_pure (wpAny_bind (wpAny_pure (wpAny_bind (L0.at (wpAny_bind (L2.at (wpAny_bind (wpAny_pure ?_))))))))
  show wpAny _ _ (Builtin.ObjectAttr.storeInOwnDict _ _ _ _ _ _) _ _ _
  unfold Builtin.ObjectAttr.storeInOwnDict
  refine wpAny_bind (wpAny_pure ?_)
  rw [if_neg (by simp)]
  refine wpAny_bind ?_
  show wpAny _ _ (instanceDict x true) _ _ _
  unfold instanceDict
  refine wpAny_bind (wpAny_loadPart hx ?_)
  dsimp only
  refine wpAny_bind (LC.at ?_)
  rw [hdct]
  simp only [Bool.not_true, Bool.false_eq_true, if_false]
  rw [if_neg (by simp [typeHasDict])]
  have xs : x ≠ hh.objs.size := Nat.ne_of_lt (Heap.lt_size hx)
  have hx1 := Heap.get?_push_of_some (h := hh) { cls := .type "dict", data := .dict #[] } hx
  have hx2 := Heap.get?_update_self (fun o : Obj => { o with dict := some hh.objs.size }) hx1 rfl
  have hd2 : ((hh.push { cls := .type "dict", data := .dict #[] }).update x fun o => { o with dict := some hh.objs.size }).get? hh.objs.size = some { cls := .type "dict", data := .dict #[] } := by
    rw [Heap.get?_update_other _ _ xs]; exact Heap.get?_push_size hh rfl
  refine wpAny_bind (wpAny_alloc (wpAny_bind (wpAny_update hx1 ?_)))
  show wpAny _ _ (pure (some hh.objs.size)) _ _ _
  refine wpAny_pure ?_
  show wpAny _ _ (Builtin.ObjectAttr.storeInDict hh.objs.size (.str nm tk) nm v) _ _ _
  unfold Builtin.ObjectAttr.storeInDict
  have n1 : Heap.Ns1 ((hh.push { cls := .type "dict", data := .dict #[] }).update x fun o => { o with dict := some hh.objs.size }) hh.objs.size (fun _ => none) := Heap.Ns1.of_empty ⟨_, #[], _, hd2, rfl, (fun e he => absurd he (by simp)), fun _ => rfl⟩
  refine wpAny_bind (wpAny_pure (wpAny_bind (wpAny_nsSet1 n1 fun h' hn' hs => ?_)))
  obtain ⟨oD, esD, epD, hoD, hdD, hcD⟩ := hn'.count (Within.cons nm v Within.nil)
  refine wpAny_bind (wpAny_lookBehind hoD ?_ (wpAny_pure ?_))
  · rw [hdD]
    exact pastItsLine_dict (Nat.le_trans hcD (by show 1 ≤ sizeLine + 1; decide))
  refine h h' _ hn' (fun b o hb q => ?_) ?_
  · rw [hs.2 b (Nat.ne_of_lt (Heap.lt_size q))]
    exact (Heap.get?_update_other _ _ (Ne.symm hb)).trans (Heap.get?_push_of_some _ q)
  · rw [hs.2 x xs]
    exact hx2
end
section
variable {X : Cx} {pins : List (Addr × Obj)} {σ : St} {H : Hp} {s : Shared} {e C : Addr} {T : Option Addr} {nm : Str} {y : V} {v : Value} {E : Value → Shared → Prop} {Q : Unit → Shared → Prop}
theorem xset_ok (I : Inv X pins σ H s) (Fe : H e = some (ExcO e (.ref C) none T)) (S : XSet X.K C nm) (hC : XC X.K C) (rv : RelV y v)
    (h : ∀ d s', H d = none → d ≠ e → Inv X pins σ (upd (upd H d (.xd [(nm, y)])) e (ExcO e (.ref C) (some d) T)) s' → Q () s') : wpAny (model X.prog X.w) X.A (setAttr (.ref e) nm v) Q E s := by
  obtain ⟨vs, sl, hx, hz, h1⟩ := exc_get I.hok Fe
  obtain ⟨bm, mN, hI⟩ := hC s.heap I.kIn
  have Ia : PySem.W.InstAt s.heap e ⟨.ref C, none, .fields vs, sl⟩ C none := ⟨hx, rfl, rfl, trivial⟩
  refine PySem.W.set_plain I.kIn Ia S.sa (xset_call (s := { s with toks := s.toks + 1 }) I.kIn hx S hI fun h' tk' hn hk hx' => ?_)
  have nd : s.heap.get? s.heap.objs.size = none := Heap.get?_none_of_le (Nat.le_refl _)
  have ne : s.heap.objs.size ≠ e := Nat.ne_of_gt (Heap.lt_size hx)
  refine h s.heap.objs.size _ (I.hok.newAt nd) ne (Inv.besides I Fe rfl rfl nd (fun b o q hb => hk b o hb q) ⟨vs, sl, hx', hz, h1⟩ fun G => ?_)
  refine ⟨_, hn, fun f => ?_⟩
  by_cases hf : f = nm
  · subst hf
    rw [show ([(f, y)] : List (Str × V)).lookup f = some y by simp, if_pos rfl]
    exact rv
  · rw [show ([(nm, y)] : List (Str × V)).lookup f = none by simp [List.lookup_cons, beq_eq_false_iff_ne.mpr hf], if_neg hf]
    trivial
noncomputable def sXFld (C : Addr) (ta tv : TE) (nm : Str) : TS := fun D σ H => tv σ H fun y H1 => ta σ H1 fun x H2 => ∃ e T, x = .ref e ∧ H2 e = some (ExcO e (.ref C) none T) ∧ ∀ d, H2 d = none → d ≠ e → D.nx σ (upd (upd H2 d (.xd [(nm, y)])) e (ExcO e (.ref C) (some d) T))
theorem ps_xfld {o value : Expr} {ta tv : TE} {pos' pos : Pos} (S : XSet X.K C nm) (hC : XC X.K C) (ha : PE X o ta) (hv : PE X value tv) (hs : swapsWith value (some (.Attribute o nm pos')) pos.line X.env = pure false := by rfl) :
    PS X (.Assign [.Attribute o nm pos'] value pos) (sXFld C ta tv nm) := by
  intro pins s σ H D I h
  refine plainObj_wpAny_Assign_Attribute (thn (hv pins s σ H _ I h) fun u s1 ⟨y, H1, I1, ry, q⟩ => thn (ha pins s1 σ H1 _ I1 q) fun ov s2 ⟨x, H2, I2, rx, e, T, ex, ee, q2⟩ => ?_) hs
  subst ex
  cases (show ov = Value.ref e from rx)
  exact xset_ok I2 ee S hC ry fun d s3 hd hne I3 => ⟨σ, _, I3, q2 d hd hne⟩
noncomputable def tXFld (K : PySem.W.Frag) (ta : TE) (nm : Str) : TE := fun σ H Q => ta σ H fun x H1 => ∃ e C d T fs y, x = .ref e ∧ H1 e = some (ExcO e (.ref C) (some d) T) ∧ H1 d = some (.xd fs) ∧ XGet K C ∧ findIn K (.ref C) nm = some none ∧ hasDictIn K C = true ∧ fs.lookup nm = some y ∧ Q y H1
end
end L2
set_option Elab.async false
set_option linter.all false
set_option maxRecDepth 100000
set_option maxHeartbeats 4000000
namespace L2
open PySem PySem.Spec PyProof.Rows PySem.W
section
variable {prog : Program} {w : World} {A : Around} {E : Value → Shared → Prop} {h : Heap} {g : Array GenState} {d : Drawn} {t : Nat} {os : OsState} {C fI : Addr} {oI : Obj} {bm : List Value} {mN : Str → Option Value} {us : List Value}
theorem made_init {Q : Fin → Shared → Prop} (hX : IsXC h C bm mN) (hi : mN "__init__" = some (.ref fI)) (hf : h.get? fI = some oI) (hc : oI.cls = .type "function") (hl : us.length ≤ sizeLine)
    (hq : ∀ h' e, Heap.MadeExcOf h h' e (.ref C) us → wpAny (model prog w) A (call (.ref fI) (.ref e :: us)) (fun r s' => r = .none ∧ Q (.done (.ret (.ref e))) s') E ⟨h', g, d, t, os⟩) :
    wpAny (model prog w) A (Builtin.«type.__call__» ⟨.ref C :: us, []⟩) Q E ⟨h, g, d, t, os⟩ := by
  obtain ⟨nm, q, N, bs, hdct, sn, sub, ab, col, dd, k0, k1, k2, k3, k5, c1, c2, c3⟩ := hX
  have FV := PySem.F.excBase_ValueError
  repeat first | (with_reducible refine wpAny_loadPart_at c1 ?_) | (with_reducible refine wpAny_madeBy_exc c1 ?_) | wp_step
  refine codeAny_call_builtin_code (Code.quiet_builtin _ FV.quiet) (wpAny_check_new_subT FV c3 c1 (codeAny_exc_new_subT FV c3 c1 ?_ hl))
  show wpAny _ _ _ _ _ _
  have kp : ∀ b o, h.get? b = some o → ((h.push { cls := .type "tuple", data := .seq us.toArray }).push { cls := .ref C, data := .fields #[.ref h.objs.size, .none, .none, .none, .bool false, .none] }).get? b = some o := fun b o z => Heap.get?_push_of_some _ (Heap.get?_push_of_some _ z)
  have he : ((h.push { cls := .type "tuple", data := .seq us.toArray }).push { cls := .ref C, data := .fields #[.ref h.objs.size, .none, .none, .none, .bool false, .none] }).get? (h.objs.size + 1) = some { cls := .ref C, data := .fields #[.ref h.objs.size, .none, .none, .none, .bool false, .none] } := by heap_get
  have ht : ((h.push { cls := .type "tuple", data := .seq us.toArray }).push { cls := .ref C, data := .fields #[.ref h.objs.size, .none, .none, .none, .bool false, .none] }).get? h.objs.size = some { cls := .type "tuple", data := .seq us.toArray } := Heap.get?_push_of_some _ (Heap.get?_push_at rfl rfl)
  have cc : (Value.ref C :: bm).contains (.ref C) = true := by simp
  have d1 := kp _ _ c1
  have d2 := c2.keeps kp
  have d3 := c3.keeps kp
  have d4 := kp _ _ hf
  generalize ((h.push { cls := .type "tuple", data := .seq us.toArray }).push { cls := .ref C, data := .fields #[.ref h.objs.size, .none, .none, .none, .bool false, .none] }) = h2 at kp he ht d1 d2 d3 d4 ⊢
  unfold isInstance
  repeat first | (with_reducible refine wpAny_loadPart_at he ?_) | (with_reducible refine wpAny_isSubtype_exc d1 ?_; rw [cc]) | wp_step
  show wpAny _ _ (typeLookup (.ref C) _) _ _ _
  refine wpAny_typeLookup_tail d1 d2 d3 FV.mroIs FV.init.lookup ?_
  rw [hi]
  refine wpAny_holding (wpAny_bind ?_)
  unfold bindSpecial
  refine wpAny_bind (wpAny_typeOf (T := "function") ⟨_, d4, hc⟩ ?_)
  rw [if_pos (by decide)]
  refine wpAny_pure (wpAny_bind (wpAny_mono (hq h2 (h.objs.size + 1) ⟨kp, Heap.get?_none_of_le (Nat.le_succ _), h.objs.size, he, Heap.get?_none_of_le (Nat.le_refl _), ht⟩) (fun r s' hr => ?_) fun _ _ z => z))
  obtain ⟨rfl, z⟩ := hr
  wp_walk
  exact z
theorem call_init {Q : Value → Shared → Prop} (hX : IsXC h C bm mN) (hi : mN "__init__" = some (.ref fI)) (hf : h.get? fI = some oI) (hc : oI.cls = .type "function") (hl : us.length ≤ sizeLine)
    (hq : ∀ h' e, Heap.MadeExcOf h h' e (.ref C) us → wpAny (model prog w) (A.under (.builtin "type.__call__" ⟨.ref C :: us, []⟩)) (call (.ref fI) (.ref e :: us)) (fun r s' => r = .none ∧ Q (.ref e) s') E ⟨h', g, d, t, os⟩) :
    wpAny (model prog w) A (call (.ref C) us) Q E ⟨h, g, d, t, os⟩ := by
  obtain ⟨nm, q, N, bs, hdct, sn, sub, ab, col, dd, k0, k1, k2, k3, k5, c1, c2, c3⟩ := id hX
  have f1 := tc_lookup
  have f2 := tc_bind (.ref C)
  have hT : (⟨h, g, d, t, os⟩ : Shared).TypeIs (.ref C) "type" := ⟨_, c1, rfl⟩
  refine wpAny_call (codeAny_of_tree (show wpAny _ _ (callAny (.ref C) _) _ _ _ from ?_))
  repeat any_goals (first | assumption | (with_reducible refine wpAny_loadPart_at c1 ?_) | wp_step)
  exact ⟨rfl, codeAny_call_builtin_at (Code.quiet_builtin _ (by decide +kernel)) entry_typeCall (wpAny_check_type_call_sub c1 (made_init hX hi hf hc hl fun h' e hm => hq h' e hm))⟩
theorem raise_there {M : Model} {env : Env} {x : Sem Value} {s : Shared} {Q : Flow → Shared → Prop} (hh : A.handled = none)
    (hx : wpAny M A x (fun v s₁ => ∃ e C bm mN dd vs sl, v = .ref e ∧ IsXC s₁.heap C bm mN ∧ s₁.heap.get? e = some ⟨.ref C, dd, .fields vs, sl⟩ ∧ vs[1]? = some Value.none ∧ E (.ref e) s₁) E s) : wpAny M A (raiseStmt env (some x) none) Q E s := by
  unfold raiseStmt
  refine wpAny_bind (wpAny_mono hx (fun v s₁ z => ?_) fun _ _ z => z)
  obtain ⟨e, C, bm, mN, dd, vs, sl, rfl, hX, he, h1, hE⟩ := z
  have hb : (Value.ref C :: bm).contains (.type "BaseException") = true := by rw [List.contains_cons, hX.base, Bool.or_true]
  obtain ⟨nm, q, N, bs, hdct, sn, sub, ab, col, dd', k0, k1, k2, k3, k5, c1, c2, c3⟩ := hX
  obtain ⟨hp, g, d, tk, os⟩ := s₁
  repeat first | (with_reducible refine wpAny_loadPart_at he ?_) | (with_reducible refine wpAny_loadPart_at c1 ?_) | (with_reducible refine wpAny_isSubtype_exc c1 ?_; rw [hb]) | (with_reducible refine wpAny_field he rfl h1 ?_) | wp_step
  exact wpAny_raiseNew_none hh hE
end
end L2
set_option Elab.async false
set_option linter.all false
set_option maxRecDepth 100000
set_option maxHeartbeats 4000000
namespace L2
open PySem PySem.Spec PyProof.Rows PySem.W
noncomputable def XClsI (K : PySem.W.Frag) (C f : Addr) : Prop := (∀ h, K.In h → ∃ bm mN, IsXC h C bm mN ∧ mN "__init__" = some (.ref f)) ∧ ∃ o, K.lookup f = some o ∧ o.cls = .type "function"
theorem XClsI.xc {K : PySem.W.Frag} {C f : Addr} (x : XClsI K C f) : XC K C := fun h X => let ⟨bm, mN, a, _⟩ := x.1 h X; ⟨bm, mN, a⟩
theorem ns_at {K : PySem.W.Frag} {h : Heap} {N : Addr} {m : Str → Option Value} {n : Str} {v : Value} (X : K.In h) (G : h.Ns N m) (e : nsIn K N n = some (some v)) : m n = some v := by
  obtain ⟨o, es, ep, ho, hd, _, hf⟩ := G
  unfold nsIn at e
  split at e
  · rename_i q
    have z := X _ _ q
    rw [ho] at z
    cases z; cases hd
    split at e
    · rename_i he
      rw [← hf]
      unfold nsFind findBy
      rw [← Array.find?_toList, he]
      cases e; rfl
    · split at e <;> cases e
  · cases e
theorem xclsI_mk {K : PySem.W.Frag} {C N f : Addr} {nm q : Str} {bs bm : List Value} {hdct : Bool} {sn : List Str} {sub : List Value} {ab : Bool} {col : Option Bool} {dd : Option Addr} {k0 k1 k2 k3 k5 : Option Value} {of : Obj}
    (l : K.lookup C = some (excClassObj nm q C N bs bm hdct sn sub ab col dd k0 k1 k2 k3 k5 "ValueError.__new__")) (t : tailIn K bmV bm = true) (n : nsOkIn K N = true) (i : nsIn K N "__init__" = some (some (.ref f))) (lf : K.lookup f = some of) (cf : of.cls = .type "function") : XClsI K C f :=
  ⟨fun h X => ⟨bm, h.nsMap N, ⟨nm, q, N, bs, hdct, sn, sub, ab, col, dd, k0, k1, k2, k3, k5, X _ _ l, .of_isNs (isNs_of_in X n), tail_of_in X t⟩, ns_at X (.of_isNs (isNs_of_in X n)) i⟩, of, lf, cf⟩
section
variable {X : Cx} {E : XK} {x : Str} {C f : Addr} {np cpos pos : Pos} {e : Expr} {es : List Expr} {t : TA} {k : Nat} {fd : FuncData} {ps : List Str} {sp : Sp}
noncomputable def tRaiseI (E : XK) (C : Addr) (sp : Sp) (t : TA) : TS := fun _ σ H => t σ H fun vs H1 => vs.length ≤ sizeLine ∧ ∀ ea, H1 ea = none → sp (.ref ea :: vs) (upd H1 ea (ExcO ea (.ref C) none none))
  (fun r H2 => r = .non ∧ ∃ dd, H2 ea = some (ExcO ea (.ref C) dd none) ∧ (∀ d, dd = some d → d ≠ ea) ∧ Same H1 H2 ∧ ∀ H', Xtd H1 ea (.ref C) dd H' → (∀ d o, dd = some d → H2 d = some o → H' d = some o) → E (.ref ea) dd H') E0
theorem ps_raiseI (F : FnOk X.prog X.w X.K X.mg X.base CX0 k f fd ps sp) (hr : Room (k + 1) X.A) (hb : Binds X.K fd ps []) (hx : XOk X E) (hc : X.calm = true) (hg : Gl X x) (hm : X.mg x = some (.ref C)) (hC : XClsI X.K C f) (ha : PA X (e :: es) t) (hdb : (x == ("__debug__" : Str)) = false := by decide)
    (hs : starEach (e :: es) X.env = (false, eval e X.env) :: starEach es X.env := by rfl) (hpl : (backTo cpos (starEach es X.env)).any (·.1) = false := by rfl) :
    PS X (.Raise (some (.Call (.Name x np) (e :: es) [] cpos)) none pos) (tRaiseI E C sp t) := by
  intro pins s σ H D I h
  obtain ⟨bm, mN, hI, hni⟩ := hC.1 X.base I.ok.mod.kin
  obtain ⟨of, lf, cf⟩ := hC.2
  rw [arm_exec_Raise]
  simp only [evalOpt, Option.map]
  refine wpAny_bind (wpAny_standAt (raise_there (I.ok.hd hc) (wpAny_bind (wpAny_mono (wpAny_Call_ofName (ld_glob I hg hm ?_ hdb)) (fun v s₃ h₃ => wpAny_bind (wpAny_standAt (wpAny_pure h₃))) fun _ _ x => x))))
  unfold callWith
  have ha' := ha cpos pins s σ H _ I h
  rw [hs] at ha' ⊢
  refine wpAny_bind (wpAny_holding (PySem.Calls.evalArgs_plain (thn ha' fun us s1 ⟨vs, H1, I1, r, hl, q1⟩ => wpAny_bind (wpAny_standAt ?_))))
  have hI1 := hI.keeps I1.bk
  obtain ⟨nm, q, N, bs, hdct, sn, sub, ab, col, dd, k0, k1, k2, k3, k5, c1, c2, c3⟩ := id hI1
  obtain ⟨hp, g, d, tk, os⟩ := s1
  have hpl2 : ((backTo cpos ((false, eval e X.env) :: starEach es X.env)).any (·.1)) = false := hpl
  simp only [hpl2, List.any_nil, Bool.or_false]
  refine wpAny_bind (wpAny_keeperOf_exc c1 ?_)
  rw [List.nil_append]
  refine wpAny_bind (call_init hI1 hni (I1.kIn _ _ lf) cf (by rw [← r.length]; exact hl) fun h' ea m => ?_)
  obtain ⟨t0, he, _, ht⟩ := m.there
  have hn := I1.hok.newAt m.new
  have J := I1.laidN (o := ExcO ea (.ref C) none none) (t' := tk) m.keeps m.new (exc_mk ⟨_, _, he, rfl, rfl⟩)
  have q2 := q1 ea hn
  have r2 : Vals (V.ref ea :: vs) (Value.ref ea :: us) := .cons rfl r
  have hlen : (Value.ref ea :: us).length = ps.length := by rw [← r2.length]; exact F.len _ _ _ _ q2
  have hbd := hb _ (Value.ref ea :: us) J.kIn (by rw [List.append_nil]; exact hlen)
  rw [List.append_nil] at hbd
  refine wpAny_call (codeAny_mono (F.run _ X.stack _ _ ⟨Value.ref ea :: us, []⟩ (Value.ref ea :: us) (V.ref ea :: vs) _ E0 (hr.make C us []) (J.env0.make C us []) hbd r2 q2) fun r' s' hq => ?_)
  rcases r' with _ | (_ | _ | _ | u) <;> try exact False.elim hq
  obtain ⟨v2, H2, J2, rv2, rfl, dd2, h2e, hdn, s12, qE⟩ := J.after hq
  refine ⟨rv2, wpAny_bind (wpAny_holding (wpAny_point (wpAny_pure ?_)))⟩
  obtain ⟨vs2, sl2, he2, _, h12⟩ := exc_get J2.hok h2e
  refine ⟨ea, C, bm, mN, dd2, vs2, sl2, rfl, hI.keeps J2.bk, he2, h12, ?_⟩
  refine hx pins σ H2 s' ea (.ref C) dd2 none J2 ⟨h2e, fun t z => nomatch z⟩ fun T'' H'' S Fy => qE H'' (Xtd.step (T := none) hn (fun t z => nomatch z) s12 S Fy) fun d o hd ho => S.1 d o ho (hdn d hd) fun z => nomatch z
end
section
variable {X : Cx} {C : Addr} {nm : Str} {o : Expr} {ta : TE} {pos : Pos}
theorem pe_xfld (ha : PE X o ta) (hb : attributeBase o nm X.env (eval o X.env) = eval o X.env := by rfl) : PE X (.Attribute o nm pos) (tXFld X.K ta nm) := by
  intro pins s σ H Q I h
  refine attr_of hb (thn (ha pins s σ H _ I h) fun u s1 ⟨x, H1, I1, rx, e, C, d, T, fs, y, ex, he, hd, G, hf, hD, hl, q⟩ => ?_)
  subst ex
  cases (show u = Value.ref e from rx)
  obtain ⟨vs, sl, z, _⟩ := exc_get I1.hok he
  obtain ⟨mA, ⟨od, es, ep, h1, h2, h3, h4, h5⟩, h6⟩ := (show ObjOk X.prog X.w H1 s1.heap d (.xd fs) from I1.hok d _ hd)
  have h7 := h6 nm
  rw [hl] at h7
  obtain ⟨v, hv, rv⟩ : ∃ v, mA nm = some v ∧ RelV y v := by
    cases hm : mA nm with
    | none => rw [hm] at h7; exact h7.elim
    | some v => rw [hm] at h7; exact ⟨v, rfl, h7⟩
  obtain ⟨cd, hcd, hdct⟩ := any_some hD
  have hk : lookIn nm od = some (some v) := by
    have h8 := h5 nm
    rw [hv] at h8
    unfold nsFind findBy at h8
    unfold lookIn
    rw [h2]
    rw [← Array.find?_toList] at h8
    cases hq : es.toList.find? (·.key.isStr nm) with
    | none => rw [hq] at h8; cases h8
    | some en =>
      rw [hq] at h8
      simp only [Option.map_some, Option.some.injEq] at h8
      subst h8
      show (match es.toList.find? (·.key.isStr nm) with | some e => _ | none => _) = _
      rw [hq]
  have hfo : findObj X.K C (some od) nm = some (.value v) := by
    unfold findObj
    rw [hcd, Option.bind_some, hf, Option.bind_some]
    have ho : PySem.W.ownOf cd (some od) nm = some (some v) := by unfold PySem.W.ownOf; rw [if_pos hdct]; exact hk
    simp [ho]
  have Ia : PySem.W.InstAt s1.heap e ⟨.ref C, some d, .fields vs, sl⟩ C (some od) := ⟨z, rfl, rfl, h1⟩
  refine xget_own I1.kIn Ia G hfo ?_ ⟨y, H1, I1.tok _, rv, q⟩
  cases y <;> first | (cases rv; rfl) | (obtain ⟨tk, rfl⟩ := rv; rfl)
end
structure XIni (K : PySem.W.Frag) (B : Addr) : Prop where
  ga : specialIn K (.ref B) "__getattribute__" = some (some (.builtin "type.__getattribute__"))
  rd : readsIn K B (.type "type") = true
  fi : findCls K (.ref B) (.type "type") "__init__" = some (.val (.builtin "ValueError.__init__"))
noncomputable def tXIni (C : Addr) (t : TA) : TE := fun σ H Q => t σ H fun vs H1 => ∃ e v dd T, vs = [.ref e, v] ∧ H1 e = some (ExcO e (.ref C) dd T) ∧ Q .non H1
section
variable {X : Cx} {B C : Addr} {x : Str} {np apos pos : Pos} {e1 : Expr} {es : List Expr} {t : TA} {pl : Sem Bool}
theorem pe_xini (hB : XIni X.K B) (hg : Gl X x) (hm : X.mg x = some (.ref B)) (hC : XC X.K C) (ha : PA X (e1 :: es) t) (hdb : (x == ("__debug__" : Str)) = false := by decide)
    (hs : starEach (e1 :: es) X.env = (false, eval e1 X.env) :: starEach es X.env := by rfl) (hpl : (backTo pos (starEach es X.env)).any (·.1) = false := by rfl)
    (ht : eval (.Call (.Attribute (.Name x np) "__init__" apos) (e1 :: es) [] pos) X.env = (do
      let ov ← eval (.Name x np) X.env
      standAt apos.atName
      let (f, first) ← holding [ov] (getMethod ov "__init__" pl)
      callWith pos f first (backTo pos (starEach (e1 :: es) X.env)) (backToKw pos (keywordEach [] X.env))) := by rfl) :
    PE X (.Call (.Attribute (.Name x np) "__init__" apos) (e1 :: es) [] pos) (tXIni C t) := by
  intro pins s σ H Q I h
  refine PySem.W.methodCall_KW (pl := pl) (ld_glob I hg hm ?_ hdb) ht
  refine method_cls I.kIn hB.ga (cls_value I.kIn hB.rd hB.fi (by decide +kernel) ?_)
  show wpAny _ _ (callWith pos (.builtin "ValueError.__init__") [] (backTo pos (starEach (e1 :: es) X.env)) []) _ _ _
  refine callWith_builtin1 (thn (ha pos pins _ σ H _ (I.tok _) h) fun us s1 ⟨vs, H1, I1, r, e, v, dd, T, ev, he, q⟩ => ?_) hs hpl
  subst ev
  obtain ⟨u1, u2, rfl, r1, r2⟩ := vals2 r
  cases (show u1 = Value.ref e from r1)
  obtain ⟨vs, sl, hx, hz, h1⟩ := exc_get I1.hok he
  obtain ⟨bm, mN, nm, q', N, bs, hdct, sn, sub, ab, col, dd', k0, k1, k2, k3, k5, c1, c2, c3⟩ := hC s1.heap I1.kIn
  obtain ⟨hp, g, d, tk, os⟩ := s1
  have FV := PySem.F.excBase_ValueError
  refine wpAny_call (codeAny_call_builtin FV.init.plain FV.initEntry (wpAny_check_init_subT FV c3 c1 hx rfl ?_))
  unfold Builtin.«BaseException.__init__»
  dsimp only
  rw [if_neg (by simp)]
  unfold newTuple Builtin.BaseException.bexcPut
  have z0 : 0 < vs.size := by rw [hz]; decide
  have hx1 := Heap.get?_push_of_some (h := hp) { cls := .type "tuple", data := .seq [u2].toArray } hx
  refine wpAny_bind (wpAny_newObj_type (wpAny_bind (wpAny_bind (wpAny_field hx1 rfl (Array.getElem?_eq_getElem z0) (wpAny_bind (wpAny_setField hx1 rfl z0 ?_))))) (by size_fits))
  have J := I1.write (o := ExcO e (.ref C) dd T) (t' := tk) (x := e) (e := e) (h' := (hp.push { cls := .type "tuple", data := .seq [u2].toArray }).update e (Obj.mapFields (·.setIfInBounds 0 (.ref hp.objs.size)))) (by rw [he]; trivial) (.inl rfl)
    (fun b u n z => by rw [Heap.get?_update_other _ _ (Ne.symm n)]; exact Heap.get?_push_of_some _ z) ⟨_, Heap.get?_update_self _ hx1 rfl⟩
    (exc_mk ⟨vs.setIfInBounds 0 (.ref hp.objs.size), sl, by rw [Heap.get?_update_self _ hx1 rfl]; rfl, by simp [hz], by rw [Array.getElem?_setIfInBounds_ne (by decide)]; exact h1⟩)
  have e0 : upd H1 e (ExcO e (.ref C) dd T) = H1 := by
    funext b
    by_cases hb : b = e
    · subst hb; rw [upd_same, he]
    · rw [upd_ne hb]
  rw [e0] at J
  generalize vs[0] = v0
  cases v0 <;> first | exact wpAny_letGo (wpAny_pure ⟨.non, H1, J, rfl, q⟩) | exact wpAny_pure (wpAny_pure ⟨.non, H1, J, rfl, q⟩)
end
end L2
set_option Elab.async false
set_option linter.all false
set_option maxRecDepth 100000
set_option maxHeartbeats 4000000
namespace L2
open PySem PySem.Spec PyProof.Rows Ken
section
variable {X : Cx}
noncomputable def tFi (te : TE) (t : TF) : TF := fun out σ H Q => te σ H fun v H1 => ∃ i : Int, v = .int i ∧ i.natAbs.log2 < 1920 ∧ (out ++ Str.ofString (toString i)).length ≤ sizeLine ∧ t (out ++ Str.ofString (toString i)) σ H1 Q
theorem pf_valI {e : Expr} {te : TE} {pos : Pos} {es : List Expr} {t : TF} (he : PE X e te) (h : PF X es t) (hs : evalEach (.FormattedValue e (-1) none pos :: es) X.env = eval (.FormattedValue e (-1) none pos) X.env :: evalEach es X.env := by rfl) : PF X (.FormattedValue e (-1) none pos :: es) (tFi te t) := by
  intro out pins s σ H Q I hw
  rw [hs]
  refine joinParts_cons (FormattedValue_plain (thn (he pins s σ H _ I hw) fun v s1 ⟨x, H1, I1, r1, q1⟩ => ?_))
  obtain ⟨i, rfl, hy, hz, q⟩ := q1
  obtain ⟨tk, rfl⟩ := r1
  exact wpAny_formatField_int hy ⟨hz, h _ pins _ σ H1 Q (I1.tok _) q⟩
end
end L2
set_option Elab.async false
set_option linter.all false
set_option maxRecDepth 100000
set_option maxHeartbeats 4000000
namespace L2
open PySem PySem.Spec PyProof.Rows Ken
end L2
set_option Elab.async false
set_option linter.all false
set_option maxRecDepth 100000
set_option maxHeartbeats 2000000
namespace Ken
open PySem L2
end Ken
set_option Elab.async false
set_option linter.all false
set_option maxRecDepth 100000
set_option maxHeartbeats 2000000
namespace Ken
open PySem L2
theorem strs_dn {K : PySem.W.Frag} {H : Hp} : ∀ L : List Str, DnAll K H (L.map V.str) (L.map PyData.str)
  | [] => by show DnAll K H [] []; rw [DnAll]
  | n :: L => by
    show DnAll K H (.str n :: L.map V.str) (.str n :: L.map PyData.str)
    rw [DnAll]
    exact ⟨_, _, rfl, by rw [Dn], strs_dn L⟩
theorem eqvAll_self : ∀ {ds : List PyData}, (∀ d ∈ ds, PyData.eqv d d = true) → PyData.eqvAll ds ds = true
  | [], _ => rfl
  | d :: ds, h => by
    show (PyData.eqv d d && PyData.eqvAll ds ds) = true
    rw [h d List.mem_cons_self, eqvAll_self fun e he => h e (List.mem_cons_of_mem _ he)]; rfl
theorem depth_list {ds : List PyData} {n : Nat} (h : ∀ d ∈ ds, d.depth ≤ n) : (PyData.list ds).depth ≤ n + 1 := by
  show PyData.depthAll ds + 1 ≤ n + 1
  have : PyData.depthAll ds ≤ n := by
    induction ds with
    | nil => exact Nat.zero_le _
    | cons d ds ih =>
      show max d.depth (PyData.depthAll ds) ≤ n
      exact Nat.max_le.mpr ⟨h d List.mem_cons_self, ih fun e he => h e (List.mem_cons_of_mem _ he)⟩
  omega
end Ken
set_option Elab.async false
set_option linter.all false
set_option maxRecDepth 100000
set_option maxHeartbeats 2000000
namespace L2
open PySem PySem.Spec PyProof.Rows
end L2
set_option Elab.async false
set_option linter.all false
set_option maxRecDepth 100000
set_option maxHeartbeats 2000000
namespace L2
open PySem PySem.Spec PyProof.Rows
end L2
set_option Elab.async false
set_option linter.all false
set_option maxRecDepth 100000
set_option maxHeartbeats 2000000
namespace L2
open PySem PySem.Spec PyProof.Rows
end L2
set_option Elab.async false
set_option linter.all false
set_option maxRecDepth 100000
set_option maxHeartbeats 2000000
namespace L2
open PySem PySem.Spec PyProof.Rows
end L2
set_option Elab.async false
set_option linter.all false
set_option maxRecDepth 100000
set_option maxHeartbeats 2000000
namespace Ken
open PySem L2
end Ken
set_option Elab.async false
set_option linter.all false
set_option maxRecDepth 100000
set_option maxHeartbeats 2000000
namespace L2
open PySem PySem.Spec PyProof.Rows
end L2
set_option Elab.async false
set_option linter.all false
set_option maxRecDepth 100000
set_option maxHeartbeats 2000000
namespace Ken
open PySem L2
end Ken
set_option Elab.async false
set_option linter.all false
set_option maxRecDepth 100000
set_option maxHeartbeats 2000000
namespace Ken
open PySem L2
end Ken
namespace L2
open PySem PySem.Spec PyProof.Rows
end L2
set_option Elab.async false
set_option linter.all false
set_option maxRecDepth 100000
set_option maxHeartbeats 2000000
namespace L2
open PySem PySem.Spec PyProof.Rows
end L2
set_option Elab.async false
set_option linter.all false
set_option maxRecDepth 100000
set_option maxHeartbeats 2000000
namespace L2
open PySem PySem.Spec PyProof.Rows
end L2
set_option Elab.async false
set_option linter.all false
set_option maxRecDepth 100000
set_option maxHeartbeats 2000000
namespace Ken
open PySem L2
end Ken
set_option Elab.async false
set_option linter.all false
set_option maxRecDepth 100000
set_option maxHeartbeats 2000000
namespace L2
open PySem PySem.Spec PyProof.Rows
end L2
namespace Ken
open PySem L2
end Ken
set_option Elab.async false
set_option linter.all false
set_option maxRecDepth 100000
set_option maxHeartbeats 2000000
namespace Ken
open PySem L2
end Ken
namespace Ken
open PySem L2
end Ken
set_option Elab.async false
set_option linter.all false
set_option maxRecDepth 100000
set_option maxHeartbeats 4000000
namespace PySem.SeqAt
open PySem PySem.MeetsSeq L2 PyProof.Rows
end PySem.SeqAt
namespace L2
open PySem PySem.Spec PyProof.Rows
end L2
set_option Elab.async false
set_option linter.all false
set_option maxRecDepth 100000
set_option maxHeartbeats 2000000
namespace Ken
open PySem L2
end Ken
set_option Elab.async false
set_option linter.all false
set_option maxRecDepth 100000
set_option maxHeartbeats 4000000
namespace PySem.SeqAt
open PySem PySem.MeetsSeq L2 PyProof.Rows
end PySem.SeqAt
namespace Ken
open PySem L2 PySem.SeqAt
end Ken
namespace L2
open PySem PySem.Spec PyProof.Rows
end L2
set_option Elab.async false
set_option linter.all false
set_option maxRecDepth 100000
set_option maxHeartbeats 2000000
namespace L2
open PySem
end L2
namespace Ken
open PySem L2
end Ken
set_option Elab.async false
set_option linter.all false
set_option maxRecDepth 100000
set_option maxHeartbeats 2000000
namespace L2
open PySem PySem.Spec PyProof.Rows
end L2
namespace Ken
open PySem L2
end Ken
namespace Ken
open PySem L2
end Ken
namespace Ken
open PySem L2
end Ken
set_option Elab.async false
set_option linter.all false
set_option maxRecDepth 100000
set_option maxHeartbeats 2000000
namespace Ken
open PySem L2 PyProof.Rows
end Ken
namespace Ken
open PySem L2
end Ken
set_option Elab.async false
set_option linter.all false
set_option maxRecDepth 100000
set_option maxHeartbeats 2000000
namespace Ken
open PySem L2
end Ken
set_option Elab.async false
set_option linter.all false
set_option maxRecDepth 100000
set_option maxHeartbeats 4000000
namespace Ken
open PySem L2 PyProof.Rows
noncomputable def wendL : Nat → List Nat → Nat
  | 0, _ => 0
  | _ + 1, [] => 0
  | n + 1, c :: r => if 97 ≤ c ∧ c ≤ 122 then wendL n r + 1 else 0
noncomputable def dueV (n : Nat) : List V := [.int (n : Nat), .bl true, .bl true, .bl false, .bl false]
end Ken
set_option Elab.async false
set_option linter.all false
set_option maxRecDepth 100000
set_option maxHeartbeats 4000000
namespace Ken
open PySem L2 PyProof.Rows
end Ken
set_option Elab.async false
set_option linter.all false
set_option maxRecDepth 100000
set_option maxHeartbeats 4000000
namespace Ken
open PySem L2 PyProof.Rows
theorem strs_eqvA : ∀ ys ws : List Str, PyData.eqvAll (ys.map PyData.str) (ws.map PyData.str) = decide (ys = ws)
  | [], [] => rfl
  | [], _ :: _ => rfl
  | _ :: _, [] => rfl
  | y :: ys, w :: ws => by
    show (PyData.eqv (.str y) (.str w) && PyData.eqvAll (ys.map PyData.str) (ws.map PyData.str)) = _
    rw [strs_eqvA ys ws, show PyData.eqv (.str y) (.str w) = decide (y = w) from rfl, ← Bool.decide_and]
    exact decide_eq_decide.mpr (by rw [List.cons.injEq])
theorem strs_eqv (ys ws : List Str) : PyData.eqv (.list (ys.map PyData.str)) (.list (ws.map PyData.str)) = decide (ys = ws) := strs_eqvA ys ws
theorem strs_dep (L : List Str) : (PyData.list (L.map PyData.str)).depth ≤ 1 := depth_list (n := 0) fun d hd => by
  obtain ⟨n, _, rfl⟩ := List.mem_map.mp hd
  exact Nat.le_refl _
theorem strs_ly {L : List Str} (h : ∀ y ∈ L, (PyData.str y).canLay0 = true) : (PyData.list (L.map PyData.str)).canLay0 = true := canLay_list fun d hd => by
  obtain ⟨n, hn, rfl⟩ := List.mem_map.mp hd
  exact h n hn
theorem strs_at {K : PySem.W.Frag} {H : Hp} {a : Addr} {L : List Str} (h : SqL K H a (L.map V.str)) : Dn K H (.ref a) (.list (L.map PyData.str)) := by
  rw [Dn]; exact ⟨a, _, rfl, h, strs_dn _⟩
end Ken
set_option Elab.async false
set_option linter.all false
set_option maxRecDepth 100000
set_option maxHeartbeats 4000000
namespace Ken
open PySem L2 PyProof.Rows
end Ken
set_option Elab.async false
set_option linter.all false
set_option maxRecDepth 100000
set_option maxHeartbeats 4000000
namespace Ken
open PySem L2 PyProof.Rows
end Ken
set_option Elab.async false
set_option linter.all false
set_option maxRecDepth 100000
set_option maxHeartbeats 4000000
namespace Ken
open PySem L2 PyProof.Rows
noncomputable def dueD (n : Nat) : PyData := .list [.int (n : Nat), .bool true, .bool true, .bool false, .bool false]
theorem due_dn {K : PySem.W.Frag} {H : Hp} {a : Addr} {n : Nat} (h : H a = some (.lst (dueV n))) : Dn K H (.ref a) (dueD n) := by
  unfold dueD
  rw [Dn]
  refine ⟨a, _, rfl, SqL.of h, ?_⟩
  unfold dueV
  repeat (rw [DnAll]; refine ⟨_, _, rfl, by rw [Dn], ?_⟩)
  rw [DnAll]
theorem due_self (n : Nat) : PyData.eqv (dueD n) (dueD n) = true := by
  refine eqvAll_self fun d hd => ?_
  simp only [List.mem_cons, List.not_mem_nil, or_false] at hd
  rcases hd with rfl | rfl | rfl | rfl | rfl
  · show ((n : Int) == (n : Int)) = true; simp
  all_goals rfl
theorem due_lay (n : Nat) : (dueD n).canLay0 = true := rfl
theorem due_dep (n : Nat) : (dueD n).depth ≤ 1 := Nat.le_refl _
end Ken
set_option Elab.async false
set_option linter.all false
set_option maxRecDepth 100000
set_option maxHeartbeats 4000000
namespace L2
open PySem PySem.Spec PyProof.Rows
section
variable {X : Cx} {K : PySem.W.Frag}
theorem call_isiCK (hK : X.K = K) : CallR X (.builtin "isinstance") (rIsiC K) := hK ▸ call_isiC
theorem call_isiBK (hK : X.K = K) : CallR X (.builtin "isinstance") (rIsiB K) := hK ▸ call_isiB
theorem call_isiTK (hK : X.K = K) : CallR X (.builtin "isinstance") (rIsiT K) := hK ▸ call_isiT
theorem pe_xfldK {nm : Str} {o : Expr} {ta : TE} {pos : Pos} (hK : X.K = K) (ha : PE X o ta) (hb : attributeBase o nm X.env (eval o X.env) = eval o X.env := by rfl) : PE X (.Attribute o nm pos) (tXFld K ta nm) := hK ▸ pe_xfld ha hb
theorem nsOk_mk {N : Addr} {c : Value} {d : Option Addr} {es : Array DictEntry} {ep : Nat} {sl : Array (Option Value)} (l : K.lookup N = some ⟨c, d, .dict es ep, sl⟩) (h : (es.toList.all fun e => match e.key with | .str _ _ => true | _ => false) = true) : PySem.W.nsOkIn K N = true := by
  unfold PySem.W.nsOkIn
  rw [l]
  show (es.all _) = true
  rw [← Array.all_toList]
  exact h
theorem tail_own {B N : Addr} {nm q : Str} {bs bm : List Value} {hdct : Bool} {sn : List Str} {sub : List Value} {ab : Bool} {col : Option Bool} {dd : Option Addr} {k0 k1 k2 k3 k5 : Option Value} {nw : String}
    (l : K.lookup B = some (excClassObj nm q B N bs bm hdct sn sub ab col dd k0 k1 k2 k3 k5 nw)) (hn : PySem.W.nsOkIn K N = true) (hi : PySem.W.nsIn K N "__init__" = some none) : PySem.W.tailIn K bmV (.ref B :: bmV) = true := by
  rw [PySem.W.tailIn.eq_2, l]
  unfold excClassObj
  dsimp only
  rw [hn, hi, show PySem.W.tailIn K bmV bmV = true by rw [PySem.W.tailIn.eq_def]; rfl]
  exact Bool.or_true _
theorem cls_some {C : Addr} (h : PySem.W.hasDictIn K C = true) : (PySem.W.clsIn K C).isSome = true := by
  unfold PySem.W.hasDictIn at h
  cases e : PySem.W.clsIn K C with
  | none => rw [e] at h; cases h
  | some _ => rfl
end
end L2
set_option Elab.async false
set_option linter.all false
set_option maxRecDepth 100000
set_option maxHeartbeats 2000000
namespace Ken
open PySem L2
inductive Md where
  | wnt
  | wrd (n : Nat)
  | hav
  | sgn
  | gap
noncomputable def small (c : Nat) : Bool := decide (97 ≤ c) && decide (c ≤ 122)
theorem small_iff {c : Nat} : small c = true ↔ 97 ≤ c ∧ c ≤ 122 := by unfold small; simp
noncomputable def cls (os : List Bool) (c : Nat) : Option (Md × List Bool) := match os with
  | [] => none
  | false :: r => if c = 32 then some (.sgn, false :: r) else none
  | true :: r => if c = 41 then some (.hav, r) else none
noncomputable def goN (m : Md) (os : List Bool) (c : Nat) : Option (Md × List Bool) := match m with
  | .wrd n => if small c = true ∧ n < 8 then some (.wrd (n + 1), os) else cls os c
  | .hav => cls os c
  | .wnt => if small c = true then some (.wrd 1, os) else if c = 48 then some (.hav, os) else if c = 126 then some (.wnt, os) else if c = 40 then some (.wnt, false :: os) else none
  | .sgn => if c = 38 ∨ c = 124 ∨ c = 62 then some (.gap, os) else none
  | .gap => if c = 32 then some (.wnt, true :: os.tail) else none
noncomputable def fin (m : Md) (os : List Bool) : Bool := match m, os with
  | .wrd _, [] => true
  | .hav, [] => true
  | _, _ => false
noncomputable def bad : Md → List Bool → List Nat → Nat → Option Nat
  | m, os, [], i => if fin m os = true then none else some i
  | m, os, c :: r, i => match goN m os c with
    | none => some i
    | some (m', os') => bad m' os' r (i + 1)
theorem bad_nil {m : Md} {os : List Bool} {i : Nat} : bad m os [] i = if fin m os = true then none else some i := rfl
theorem bad_no {m : Md} {os : List Bool} {c : Nat} {r : List Nat} {i : Nat} (h : goN m os c = none) : bad m os (c :: r) i = some i := by
  show (match goN m os c with | none => some i | some (m', os') => bad m' os' r (i + 1)) = _
  rw [h]
theorem bad_go {m m' : Md} {os os' : List Bool} {c : Nat} {r : List Nat} {i : Nat} (h : goN m os c = some (m', os')) : bad m os (c :: r) i = bad m' os' r (i + 1) := by
  show (match goN m os c with | none => some i | some (m', os') => bad m' os' r (i + 1)) = _
  rw [h]
noncomputable def opn : List Fr → List Bool
  | [] => []
  | .ng :: fs => opn fs
  | .op _ _ _ :: fs => false :: opn fs
  | .sn _ _ :: fs => true :: opn fs
noncomputable def opens : List Nat → List Fr
  | [] => []
  | c :: r => (if c = 126 then Fr.ng else .op .both .low []) :: opens r
theorem opens_len : ∀ l : List Nat, (opens l).length = l.length
  | [] => rfl
  | _ :: r => by show (opens r).length + 1 = r.length + 1; rw [opens_len r]
theorem bad_opens : ∀ (ps : List Nat) (r : List Nat) (fs : List Fr) (i : Nat), (∀ c ∈ ps, c = 40 ∨ c = 126) → bad .wnt (opn fs) (ps ++ r) i = bad .wnt (opn ((opens ps).reverse ++ fs)) r (i + ps.length)
  | [], r, fs, i, _ => rfl
  | c :: ps, r, fs, i, h => by
    have ih := fun gs => bad_opens ps r gs (i + 1) fun d hd => h d (List.mem_cons_of_mem _ hd)
    rw [List.length_cons, show i + (ps.length + 1) = i + 1 + ps.length by omega]
    rcases h c List.mem_cons_self with rfl | rfl
    · rw [List.cons_append, bad_go (show goN .wnt (opn fs) 40 = some (.wnt, false :: opn fs) from rfl)]
      have := ih (.op .both .low [] :: fs)
      rw [show false :: opn fs = opn (.op .both .low [] :: fs) from rfl, this]
      show _ = bad .wnt (opn ((Fr.op .both .low [] :: opens ps).reverse ++ fs)) r _
      rw [List.reverse_cons, List.append_assoc]; rfl
    · rw [List.cons_append, bad_go (show goN .wnt (opn fs) 126 = some (.wnt, opn fs) from rfl)]
      have := ih (.ng :: fs)
      rw [show opn fs = opn (.ng :: fs) from rfl, this]
      show _ = bad .wnt (opn ((Fr.ng :: opens ps).reverse ++ fs)) r _
      rw [List.reverse_cons, List.append_assoc]; rfl
noncomputable def sim (cs : List Nat) : Option Nat := if cs.head? = some 48 then some 1 else if wendL 8 cs = 0 then none else some (wendL 8 cs)
theorem fin_wrd {n : Nat} {os : List Bool} : fin (.wrd n) os = fin .hav os := by cases os <;> rfl
theorem bad_wrd : ∀ (k n : Nat) (os : List Bool) (cs : List Nat) (i : Nat), n + k = 8 → bad (.wrd n) os cs i = bad .hav os (cs.drop (wendL k cs)) (i + wendL k cs)
  | k, n, os, [], i, _ => by
    have : wendL k [] = 0 := by cases k <;> rfl
    rw [this, List.drop_zero, bad_nil, bad_nil, fin_wrd]; rfl
  | 0, n, os, c :: r, i, h => by
    have e : goN (.wrd n) os c = goN .hav os c := by
      show (if small c = true ∧ n < 8 then _ else cls os c) = cls os c
      rw [if_neg (by omega)]
    show (match goN (.wrd n) os c with | none => some i | some (m', os') => bad m' os' r (i + 1)) = bad .hav os (c :: r) i
    rw [e]; rfl
  | k + 1, n, os, c :: r, i, h => by
    by_cases hs : 97 ≤ c ∧ c ≤ 122
    · have e : wendL (k + 1) (c :: r) = wendL k r + 1 := if_pos hs
      rw [bad_go (show goN (.wrd n) os c = some (.wrd (n + 1), os) from if_pos ⟨small_iff.mpr hs, by omega⟩), bad_wrd k (n + 1) os r (i + 1) (by omega), e, List.drop_succ_cons]
      congr 1; omega
    · have e : wendL (k + 1) (c :: r) = 0 := if_neg hs
      have e2 : goN (.wrd n) os c = goN .hav os c := by
        show (if small c = true ∧ n < 8 then _ else cls os c) = cls os c
        rw [if_neg (fun z => hs (small_iff.mp z.1))]
      rw [e, List.drop_zero]
      show (match goN (.wrd n) os c with | none => some i | some (m', os') => bad m' os' r (i + 1)) = bad .hav os (c :: r) i
      rw [e2]; rfl
theorem bad_sim {os : List Bool} {cs : List Nat} {i : Nat} (h : noOpen cs) : bad .wnt os cs i = match sim cs with
    | none => some i
    | some n => bad .hav os (cs.drop n) (i + n) := by
  cases cs with
  | nil => cases os <;> rfl
  | cons c r =>
    unfold sim
    by_cases h0 : c = 48
    · subst h0
      rw [if_pos (by rfl)]
      exact bad_go (by rfl)
    · rw [if_neg (by rw [List.head?_cons]; intro z; exact h0 (Option.some.inj z))]
      by_cases hs : 97 ≤ c ∧ c ≤ 122
      · have e : wendL 8 (c :: r) = wendL 7 r + 1 := if_pos hs
        rw [if_neg (by omega), bad_go (show goN .wnt os c = some (.wrd 1, os) from if_pos (small_iff.mpr hs)), bad_wrd 7 1 os r (i + 1) (by decide), e]
        show _ = bad .hav os ((c :: r).drop (wendL 7 r + 1)) (i + (wendL 7 r + 1))
        rw [List.drop_succ_cons]
        congr 1; omega
      · have e : wendL 8 (c :: r) = 0 := if_neg hs
        rw [if_pos e]
        refine bad_no ?_
        show (if small c = true then _ else if c = 48 then _ else if c = 126 then _ else if c = 40 then _ else none) = none
        rw [if_neg (fun z => hs (small_iff.mp z)), if_neg h0, if_neg h.2, if_neg h.1]
theorem bad_close {os : List Bool} {cs : List Nat} {i : Nat} : bad .hav (true :: os) cs i = if cs.head? = some 41 then bad .hav os (cs.drop 1) (i + 1) else some i := by
  cases cs with
  | nil => rfl
  | cons c r =>
    by_cases h : c = 41
    · subst h
      rw [if_pos (by rfl)]
      exact bad_go (by rfl)
    · rw [if_neg (by rw [List.head?_cons]; intro z; exact h (Option.some.inj z))]
      exact bad_no (if_neg h)
theorem bad_end {cs : List Nat} {i : Nat} : bad .hav [] cs i = if cs = [] then none else some i := by
  cases cs with
  | nil => rfl
  | cons c r => rw [if_neg (by simp)]; exact bad_no rfl
noncomputable def kdOf : Option Nat → Option Kd
  | some 38 => some .both
  | some 124 => some .one
  | some 62 => some .thn
  | _ => none
theorem kdOf_some {c : Nat} {k : Kd} (h : kdOf (some c) = some k) : c = k.sgn := by
  unfold kdOf at h
  split at h
  · rename_i e; cases e; cases h; rfl
  · rename_i e; cases e; cases h; rfl
  · rename_i e; cases e; cases h; rfl
  · cases h
theorem kdOf_none {c : Nat} (h : kdOf (some c) = none) : ¬ (c = 38 ∨ c = 124 ∨ c = 62) := by
  rintro (rfl | rfl | rfl) <;> cases h
noncomputable def kin (cs : List Nat) : Sum Kd Nat := if cs.head? = some 32 then (match kdOf (cs.drop 1).head? with
  | none => .inr 1
  | some k => if (cs.drop 2).head? = some 32 then .inl k else .inr 2) else .inr 0
theorem bad_kin {os : List Bool} {cs : List Nat} {i : Nat} : bad .hav (false :: os) cs i = match kin cs with
    | .inr n => some (i + n)
    | .inl _ => bad .wnt (true :: os) (cs.drop 3) (i + 3) := by
  unfold kin
  cases cs with
  | nil => rfl
  | cons c r =>
    by_cases h : c = 32
    · subst h
      rw [if_pos (by rfl), bad_go (show goN .hav (false :: os) 32 = some (.sgn, false :: os) from rfl)]
      cases r with
      | nil => rfl
      | cons d r =>
        show _ = match (match kdOf (some d) with | none => Sum.inr 1 | some k => if r.head? = some 32 then Sum.inl k else .inr 2) with | .inr n => some (i + n) | .inl _ => bad .wnt (true :: os) (r.drop 1) (i + 3)
        cases hk : kdOf (some d) with
        | none => exact bad_no (if_neg (kdOf_none hk))
        | some k =>
          have hd := kdOf_some hk
          rw [bad_go (show goN .sgn (false :: os) d = some (.gap, false :: os) from if_pos (by subst hd; cases k <;> simp [Kd.sgn]))]
          dsimp only
          cases r with
          | nil => rfl
          | cons b r =>
            by_cases hb : b = 32
            · subst hb
              rw [if_pos (by rfl)]
              exact bad_go (by rfl)
            · rw [if_neg (by rw [List.head?_cons]; intro z; exact hb (Option.some.inj z))]
              exact bad_no (if_neg hb)
    · rw [if_neg (by rw [List.head?_cons]; intro z; exact h (Option.some.inj z))]
      exact bad_no (if_neg h)
theorem wendL_len : ∀ (n : Nat) (l : List Nat), wendL n l ≤ l.length
  | 0, _ => Nat.zero_le _
  | _ + 1, [] => Nat.zero_le _
  | n + 1, c :: r => by
    show (if 97 ≤ c ∧ c ≤ 122 then wendL n r + 1 else 0) ≤ r.length + 1
    have := wendL_len n r
    split <;> omega
theorem sim_pos {cs : List Nat} {n : Nat} (h : sim cs = some n) : 1 ≤ n ∧ n ≤ cs.length := by
  unfold sim at h
  split at h
  · rename_i e
    cases h
    cases cs with
    | nil => cases e
    | cons _ _ => exact ⟨Nat.le_refl _, Nat.succ_le_succ (Nat.zero_le _)⟩
  · split at h
    · cases h
    · cases h
      exact ⟨by omega, wendL_len _ _⟩
noncomputable def Raise (C : Addr) (H : Hp) (E : XK) (n : Nat) : Prop := ∀ e d H', Xtd H e (.ref C) (some d) H' → H' d = some (.xd [("at", .int (n : Nat))]) → E (.ref e) (some d) H'
theorem Raise.mono {C : Addr} {H H1 : Hp} {E : XK} {n : Nat} (h : Raise C H E n) (e : Same H H1) : Raise C H1 E n := fun ea d H' x hd => h ea d H' (x.mono e) hd
noncomputable def sp_xinitN (C : Addr) : Sp := fun vs H Q _ => ∃ (e : Addr) (i : Nat) (T : Option Addr), vs = [.ref e, .int (i : Nat)] ∧ i ≤ 5000 ∧ H e = some (ExcO e (.ref C) none T) ∧ ∀ d, H d = none → d ≠ e → Q .non (upd (upd H d (.xd [("at", .int (i : Nat))])) e (ExcO e (.ref C) (some d) T))
noncomputable def Pl (x : Str) (a : Nat) : Prop := x.length ≤ 5000 ∧ a ≤ x.length
noncomputable def sp_pastX (C : Addr) : Sp := fun vs H Q E => ∃ (x : Str) (a c : Nat), vs = [.str x, .int a, .str ⟨#[c]⟩] ∧ Pl x a ∧ ((x.cps.toList.drop a).head? = some c → Q (.int ((a : Int) + 1)) H) ∧ ((x.cps.toList.drop a).head? ≠ some c → Raise C H E a)
noncomputable def sp_wendX : Sp := fun vs H Q _ => ∃ (x : Str) (a : Nat), vs = [.str x, .int a] ∧ Pl x a ∧ Q (.int ((a + wendL 8 (x.cps.toList.drop a) : Nat) : Int)) H
noncomputable def sp_simX (K : PySem.W.Frag) (C : Addr) : Sp := fun vs H Q E => ∃ (x : Str) (a : Nat), vs = [.str x, .int a] ∧ Pl x a ∧
  (∀ n, sim (x.cps.toList.drop a) = some n → ∀ (p : Addr) (v : V) (t : Tm) (H' : Hp), Same H H' → SqT K H' p [v, .int ((a + n : Nat) : Int)] → IsT K H' v t → Q (.ref p) H') ∧ (sim (x.cps.toList.drop a) = none → Raise C H E a)
noncomputable def sp_kindX (K : PySem.W.Frag) (C : Addr) : Sp := fun vs H Q E => ∃ (x : Str) (a : Nat), vs = [.str x, .int a] ∧ Pl x a ∧
  (∀ k, kin (x.cps.toList.drop a) = .inl k → ∀ (p : Addr) (H' : Hp), Same H H' → SqT K H' p [.str k.str, .int ((a + 3 : Nat) : Int)] → Q (.ref p) H') ∧ (∀ n, kin (x.cps.toList.drop a) = .inr n → Raise C H E (a + n))
noncomputable def sp_atendX (C : Addr) : Sp := fun vs H Q E => ∃ (x : Str) (a : Nat) (v : V), vs = [.str x, .int a, v] ∧ Pl x a ∧ (a = x.length → Q v H) ∧ (a < x.length → Raise C H E a)
noncomputable def AscN (x : Str) : Prop := ∀ c ∈ x.cps.toList, c < 128
noncomputable def badS (x : Str) : Option Nat := bad .wnt [] x.cps.toList 0
noncomputable def sp_readX (K : PySem.W.Frag) (C : Addr) : Sp := fun vs H Q E => ∃ x : Str, vs = [.str x] ∧ x.length ≤ 5000 ∧
  (badS x = none → ∀ (r : V) (t : Tm) (H' : Hp), Same H H' → IsT K H' r t → Q r H') ∧ (∀ n, badS x = some n → Raise C H E n)
end Ken
set_option Elab.async false
set_option linter.all false
set_option maxRecDepth 100000
set_option maxHeartbeats 2000000
namespace Ken
open PySem L2
theorem clamp_ss (x : Str) (a b : Nat) : Txt.slice x (some (a : Int)) (some (b : Int)) = Txt.slice x (some ((min a x.length : Nat) : Int)) (some ((min b x.length : Nat) : Int)) := by
  have e : Builtin.Str.strSliceIndices (some (a : Int)) (some (b : Int)) 1 x.length = Builtin.Str.strSliceIndices (some ((min a x.length : Nat) : Int)) (some ((min b x.length : Nat) : Int)) 1 x.length := by
    unfold Builtin.Str.strSliceIndices
    have p1 : (1 : Int) > 0 := by decide
    have n1 : ¬ ((a : Int) < 0) := by omega
    have n2 : ¬ ((b : Int) < 0) := by omega
    have n3 : ¬ (((min a x.length : Nat) : Int) < 0) := by omega
    have n4 : ¬ (((min b x.length : Nat) : Int) < 0) := by omega
    have m1 : min (((min a x.length : Nat) : Int)) (x.length : Int) = min (a : Int) (x.length : Int) := by omega
    have m2 : min (((min b x.length : Nat) : Int)) (x.length : Int) = min (b : Int) (x.length : Int) := by omega
    simp only [if_neg n1, if_neg n2, if_neg n3, if_neg n4, m1, m2, if_pos p1]
  unfold Txt.slice
  rw [e]
theorem cps_ss (x : Str) (a b : Nat) (hab : a ≤ b) : (Txt.slice x (some (a : Int)) (some (b : Int))).cps.toList = (x.cps.toList.drop a).take (b - a) := by
  have lx := len_cps x
  rw [clamp_ss, slice_cps x _ _ (by omega) (by omega)]
  refine List.ext_getElem? fun i => ?_
  rw [List.getElem?_take, List.getElem?_take, List.getElem?_drop, List.getElem?_drop]
  by_cases h : a ≤ x.length
  · rw [Nat.min_eq_left h]
    by_cases h1 : i < b - a
    · rw [if_pos h1]
      by_cases h2 : i < min b x.length - a
      · rw [if_pos h2]
      · rw [if_neg h2, List.getElem?_eq_none (by omega)]
    · rw [if_neg h1, if_neg (by omega)]
  · rw [if_neg (by omega)]
    by_cases h1 : i < b - a
    · rw [if_pos h1, List.getElem?_eq_none (by omega)]
    · rw [if_neg h1]
theorem cps_to (x : Str) (b : Nat) : (Txt.slice x none (some (b : Int))).cps.toList = x.cps.toList.take b := by
  have e : Txt.slice x none (some (b : Int)) = Txt.slice x (some ((0 : Nat) : Int)) (some (b : Int)) := by
    have : Builtin.Str.strSliceIndices none (some (b : Int)) 1 x.length = Builtin.Str.strSliceIndices (some ((0 : Nat) : Int)) (some (b : Int)) 1 x.length := StrLaws.sliceIdx_none_lo _ _
    unfold Txt.slice
    rw [this]
  rw [e, cps_ss x 0 b (Nat.zero_le _)]; rfl
theorem cps_from (x : Str) (a : Nat) : (Txt.slice x (some (a : Int)) none).cps.toList = x.cps.toList.drop a := by
  have e : Txt.slice x (some (a : Int)) none = Txt.slice x (some (a : Int)) (some ((x.length : Nat) : Int)) := by
    have : Builtin.Str.strSliceIndices (some (a : Int)) none 1 x.length = Builtin.Str.strSliceIndices (some (a : Int)) (some ((x.length : Nat) : Int)) 1 x.length := StrLaws.sliceIdx_none_hi _ _
    unfold Txt.slice
    rw [this]
  have lx := len_cps x
  rw [e]
  by_cases h : a ≤ x.length
  · rw [cps_ss x a x.length h, List.take_of_length_le (by rw [List.length_drop]; omega)]
  · rw [clamp_ss, cps_ss x _ _ (by omega), List.drop_of_length_le (by omega), List.drop_of_length_le (by omega), List.take_nil]
theorem app_cps (x y : Str) : (x ++ y).cps.toList = x.cps.toList ++ y.cps.toList := by
  show (x.cps ++ y.cps).toList = _
  rw [Array.toList_append]
noncomputable def opS : Bool → Str
  | false => "left"
  | true => "right"
noncomputable def opV (os : List Bool) : List V := os.reverse.map fun b => V.str (opS b)
theorem opV_len (os : List Bool) : (opV os).length = os.length := by unfold opV; rw [List.length_map, List.length_reverse]
theorem opV_cons (b : Bool) (os : List Bool) : opV (b :: os) = opV os ++ [.str (opS b)] := by unfold opV; rw [List.reverse_cons, List.map_append]; rfl
noncomputable def mdS : Md → Str
  | .wnt => "want"
  | .wrd _ => "word"
  | .hav => "have"
  | .sgn => "sign"
  | .gap => "gap"
noncomputable def mdN : Md → Nat
  | .wrd n => n
  | _ => 0
noncomputable def mdV (m : Md) : List V := [.str (mdS m), .int (mdN m : Nat)]
theorem md_word {m : Md} : mdS m = "word" ↔ ∃ n, m = .wrd n := by
  cases m with
  | wrd n => exact ⟨fun _ => ⟨n, rfl⟩, fun _ => rfl⟩
  | _ => exact ⟨fun z => absurd z (by decide), fun ⟨n, z⟩ => nomatch z⟩
theorem md_want {m : Md} : mdS m = "want" ↔ m = .wnt := by
  cases m with
  | wnt => exact ⟨fun _ => rfl, fun _ => rfl⟩
  | wrd n => exact ⟨fun z => absurd (show ("word" : Str) = "want" from z) (by decide), fun z => nomatch z⟩
  | _ => exact ⟨fun z => absurd z (by decide), fun z => nomatch z⟩
theorem md_sign {m : Md} : mdS m = "sign" ↔ m = .sgn := by
  cases m with
  | sgn => exact ⟨fun _ => rfl, fun _ => rfl⟩
  | wrd n => exact ⟨fun z => absurd (show ("word" : Str) = "sign" from z) (by decide), fun z => nomatch z⟩
  | _ => exact ⟨fun z => absurd z (by decide), fun z => nomatch z⟩
theorem md_gap {m : Md} : mdS m = "gap" ↔ m = .gap := by
  cases m with
  | gap => exact ⟨fun _ => rfl, fun _ => rfl⟩
  | wrd n => exact ⟨fun z => absurd (show ("word" : Str) = "gap" from z) (by decide), fun z => nomatch z⟩
  | _ => exact ⟨fun z => absurd z (by decide), fun z => nomatch z⟩
theorem occ_small {c : Nat} (h : c < 128) : (!(Builtin.Str.occurrences (Str.ofString "abcdefghijklmnopqrstuvwxyz") ⟨#[c]⟩ 0 (Str.ofString "abcdefghijklmnopqrstuvwxyz").length 1).isEmpty) = small c := by
  have : ∀ c : Fin 128, (!(Builtin.Str.occurrences (Str.ofString "abcdefghijklmnopqrstuvwxyz") ⟨#[c.1]⟩ 0 (Str.ofString "abcdefghijklmnopqrstuvwxyz").length 1).isEmpty) = small c.1 := by decide +kernel
  exact this ⟨c, h⟩
theorem occ_open {c : Nat} (h : c < 128) : (!(Builtin.Str.occurrences (Str.ofString "0~(") ⟨#[c]⟩ 0 (Str.ofString "0~(").length 1).isEmpty) = decide (c = 48 ∨ c = 126 ∨ c = 40) := by
  have : ∀ c : Fin 128, (!(Builtin.Str.occurrences (Str.ofString "0~(") ⟨#[c.1]⟩ 0 (Str.ofString "0~(").length 1).isEmpty) = decide (c.1 = 48 ∨ c.1 = 126 ∨ c.1 = 40) := by decide +kernel
  exact this ⟨c, h⟩
theorem occ_kind {c : Nat} (h : c < 128) : (!(Builtin.Str.occurrences (Str.ofString "&|>") ⟨#[c]⟩ 0 (Str.ofString "&|>").length 1).isEmpty) = decide (c = 38 ∨ c = 124 ∨ c = 62) := by
  have : ∀ c : Fin 128, (!(Builtin.Str.occurrences (Str.ofString "&|>") ⟨#[c.1]⟩ 0 (Str.ofString "&|>").length 1).isEmpty) = decide (c.1 = 38 ∨ c.1 = 124 ∨ c.1 = 62) := by decide +kernel
  exact this ⟨c, h⟩
noncomputable def SameB (o : Addr) (H H' : Hp) : Prop := ∀ b x, b ≠ o → H b = some x → H' b = some x
theorem SameB.same {o : Addr} {H0 H H' : Hp} (h : SameB o H H') (e : Same H0 H) (f : H0 o = none) : Same H0 H' := fun b x hb => h b x (fun z => by subst z; rw [f] at hb; cases hb) (e b x hb)
theorem SameB.of {o : Addr} {H H' : Hp} (e : Same H H') : SameB o H H' := fun b x _ h => e b x h
theorem SameB.trans {o : Addr} {H H1 H2 : Hp} (a : SameB o H H1) (b : SameB o H1 H2) : SameB o H H2 := fun c x hc h => b c x hc (a c x hc h)
theorem sameB_upd {o : Addr} {H : Hp} (x : HO) : SameB o H (upd H o x) := fun b y hb h => by rw [upd_ne hb]; exact h
noncomputable def sp_goes (K : PySem.W.Frag) : Sp := fun vs H Q _ => ∃ (m o : Addr) (md : Md) (os : List Bool) (c : Nat), vs = [.ref m, .ref o, .str ⟨#[c]⟩] ∧ SqT K H m (mdV md) ∧ H o = some (.lst (opV os)) ∧ c < 128 ∧ (md = .gap → os ≠ []) ∧ os.length ≤ 5000 ∧
  (goN md os c = none → ∀ H', SameB o H H' → Q .non H') ∧
  (∀ md' os', goN md os c = some (md', os') → ∀ (r : Addr) (H' : Hp), SameB o H H' → H' o = some (.lst (opV os')) → SqT K H' r (mdV md') → Q (.ref r) H')
noncomputable def nV : Option Nat → V
  | none => .non
  | some i => .int (i : Nat)
noncomputable def sp_fbad : Sp := fun vs H Q _ => ∃ x : Str, vs = [.str x] ∧ x.length ≤ 5000 ∧ AscN x ∧ ∀ H', Same H H' → Q (nV (badS x)) H'
noncomputable def sp_sign : Sp := fun vs H Q _ => ∃ c : Int, vs = [.int c] ∧ 0 ≤ c ∧ ∀ (d : Nat) (H' : Hp), Same H H' → d < 128 → Q (.str ⟨#[d]⟩) H'
noncomputable def sp_spoilN : Sp := fun vs H Q _ => ∃ (x : Str) (c : Int), vs = [.str x, .int c] ∧ 0 ≤ c ∧ x.length ≤ 4000 ∧ AscN x ∧ ∀ (y : Str) (H' : Hp), Same H H' → AscN y → y.length ≤ x.length + 2 → Q (.str y) H'
noncomputable def sp_few (K : PySem.W.Frag) : Sp := fun vs H Q _ => ∃ (a : Addr) (ns : List Int), vs = [.ref a] ∧ SqL K H a (ns.map V.int) ∧ ns.length ≤ 63 ∧ ∀ (y : Str) (H' : Hp), Same H H' → AscN y → y.length ≤ 31 → Q (.str y) H'
noncomputable def sp_askN : Sp := fun vs H Q _ => ∃ x : Str, vs = [.str x] ∧ x.length ≤ 5000 ∧ AscN x ∧ ∀ H', Same H H' → Q (.bl true) H'
end Ken
set_option Elab.async false
set_option linter.all false
set_option maxRecDepth 100000
set_option maxHeartbeats 2000000
namespace L2
open PySem PySem.Spec PyProof.Rows
end L2
set_option Elab.async false
set_option linter.all false
set_option maxRecDepth 100000
set_option maxHeartbeats 4000000
namespace Hd
open PySem PySem.W PySem.Calls PyProof.Rows
noncomputable abbrev pos0 : Pos := ⟨0, 0, 0, 0⟩
noncomputable def o11 : Obj := { cls := .type "tuple", data := .seq #[] }
noncomputable def o12 : Obj := { cls := .none, data := .fields #[] }
noncomputable def o13 : Obj := { cls := .type "code", data := .fields #[.str (Str.ofString "<module>") 182, .str (Str.ofString "<module>") 183, .str (Str.ofString "/claim/cut.py") 184, .int 1 0, .int 0 0, .int 0 0, .int 0 0, .int 0 0, .ref 11, .bool false, .int 181 0, .ref 12, .none, .none, .none, .none, .int 185 0, .int 1 0, .str (Str.ofString "/claim/cut.py") 186] }
noncomputable def o14 : Obj := { cls := .type "frame", slots := #[some (.ref 13), some (.ref 3), some (.ref 3), none, some (.str (Str.ofString "__main__") 164), none, some (.ref 0)] }
noncomputable def treeB (P : Params) : BT :=
  (.node (boot_o_0 P) (.node (boot_o_1 P) (.node (boot_o_3 P) (.node (boot_o_7 P) .nil .nil) (.node o11 .nil .nil)) (.node (boot_o_5 P) (.node (boot_o_9 P) .nil .nil) (.node o13 .nil .nil))) (.node (boot_o_2 P) (.node (boot_o_4 P) (.node (boot_o_8 P) .nil .nil) (.node o12 .nil .nil)) (.node (boot_o_6 P) (.node (boot_o_10 P) .nil .nil) (.node o14 .nil .nil))))
noncomputable abbrev annB : Option Value := some (.ref 6)
noncomputable def envOf (p : Program) : Env := { scope := p.main.scope, locals := mainNs, globals := mainNs, cells := [], code := .ref 13, frame := some 14 }
noncomputable def codeOf (p : Program) : Code := .body (behindTheImports p) (envOf p)
noncomputable def SB (w : World) (os : OsState) : SharedT := ⟨treeB w.params, 15, {}, #[], {}, 187, os⟩
noncomputable def S0 (w : World) (os : OsState) : Shared := ⟨boot_heap w.params, Array.mk [], boot_drawn, boot_toks, os⟩
noncomputable def pre (p : Program) (w : World) (os : OsState) := topGo treeTable p w 11 annB 12 (S0 w os) (topStub p)
noncomputable def preTo (p : Program) (w : World) (os : OsState) : Option (Shared × Thread) := some ((SB w os).abs, ⟨denote treeTable (codeOf p), codeOf p, pos0, [topFrame pos0]⟩)
noncomputable def blk (p : Program) (w : World) (os : OsState) := segRun treeTable p w 11 annB 1 1 (SB w os).abs (blockOf (behindTheImports p) (envOf p) (codeOf p) pos0 [topFrame pos0])
noncomputable def blkTo (p : Program) (w : World) (os : OsState) : Option (Flow × Shared × Code × Pos) := some (.next, (SB w os).abs, codeOf p, pos0)
noncomputable def run (p : Program) (n : Nat) (w : World) (os : OsState) := segRunT treeTable p w 11 annB 1 n (SB w os) (piecesOf (behindTheImports p) (envOf p) (codeOf p) pos0 [topFrame pos0])
noncomputable def fin (p : Program) (e : Pos) (w : World) (x : SharedT) : Option Shared := topRun treeTable p w 11 annB 2 x.abs ⟨doneF .next, codeOf p, e, [topFrame pos0]⟩
noncomputable def kept (p : Program) (w : World) (s : Shared) : Bool := staticsOk (importedModules p.main.body) (boot_heap w.params) s.heap && namesBound p s.heap && gensDone s && laidKept (boot_heap w.params) s.heap
noncomputable def ev {α : Type} (p q : Program) (loose : List Str) (lv : List (Str × WData)) (Yf : Shared → α) (n : Nat) (e : Pos) (w : World) (os : OsState) :=
  (run p n w os).map fun x => (x.1, x.2.2, (fin p e w x.2.1).map fun s => (kept p w s, openSeen q loose (importedModules p.main.body) (fun s => xlAt q lv s && recOk [] s) true s, Yf s))
noncomputable def evTo {α : Type} (p q : Program) (loose : List Str) (Ya : World → α) (e : Pos) (w : World) :=
  some (Flow.next, (codeOf p, e), some (true, (expectedOf q, bltViewBooted, true, true, pinGoodD (drecsOf q),
    plainGoodE q (looseW q loose), plainGoodD q loose, wideGood q, clsGoodW q loose), Ya w))
theorem S0_size (w : World) (os : OsState) : ((S0 w os).heap.isNs mainGlobals && (S0 w os).gens.size == 0) = true ∧ (S0 w os).heap.objs.size = 11 ∧ (S0 w os).heap.nsMap mainGlobals "__annotations__" = annB := by
  refine ⟨?_, ?_, ?_⟩ <;> kernel_rfl
theorem left {α : Type} {p q : Program} {loose : List Str} {lv : List (Str × WData)} {Yf : Shared → α} {Ya : World → α} {N n : Nat} {e : Pos}
    (ho : opening p = plainProg p.main.scope.names) (hN : Nat.ble 600 N = true) (hf : ∀ s, fenceModules? p s = some s)
    (h1 : ∀ w, (fun os => pre p w os) = fun os => preTo p w os) (h2 : ∀ w, (fun os => blk p w os) = fun os => blkTo p w os)
    (h3 : ∀ w, (fun os => ev p q loose lv Yf n e w os) = fun _ => evTo p q loose Ya e w) (hl : Nat.ble (12 + (1 + (n + 2))) N = true) :
    LeftO p q loose (fun s => xlAt q lv s && recOk [] s) Yf Ya N := fun w => by
  obtain ⟨s, es, eb⟩ := Option.map_eq_some_iff.mp (boot_open ho hN hf w)
  obtain ⟨hp, gs, dr, tk, os⟩ := s
  have sz := S0_size w os
  obtain ⟨rfl, rfl, rfl, rfl⟩ : hp = boot_heap w.params ∧ gs = Array.mk [] ∧ dr = boot_drawn ∧ tk = boot_toks := by
    have := eb
    simp only [Prod.mk.injEq] at this
    exact this
  obtain ⟨x, ex, ey⟩ := Option.map_eq_some_iff.mp (congrFun (h3 w) os)
  obtain ⟨f, xT, c, pe⟩ := x
  have q1 := (Prod.mk.inj ey).1
  have q2 := (Prod.mk.inj (Prod.mk.inj ey).2).1
  have q3 := (Prod.mk.inj (Prod.mk.inj ey).2).2
  dsimp only at q1 q2 q3
  subst q1
  cases q2
  obtain ⟨s1, e1, e2⟩ := Option.map_eq_some_iff.mp q3
  have r3 : topRun treeTable p w 11 annB (n + 2) (SB w os).abs (restOf (behindTheImports p ++ []) (envOf p) (codeOf p) pos0 [topFrame pos0]) = some s1 := piece_app (segRun_of ex) (piece_nil e1)
  rw [List.append_nil] at r3
  have r2 := piece_block (congrFun (h2 w) os) r3
  have r1 := go_top (congrFun (h1 w) os) r2
  have r0 := topRun_mono (N - (12 + (1 + (n + 2)))) _ _ _ _ r1
  rw [show 12 + (1 + (n + 2)) + (N - (12 + (1 + (n + 2)))) = N by have := Nat.le_of_ble_eq_true hl; omega] at r0
  have k1 := (Prod.mk.inj e2).1
  have k2 := (Prod.mk.inj (Prod.mk.inj e2).2).1
  have k3 := (Prod.mk.inj (Prod.mk.inj e2).2).2
  have t : topFrom treeTable p w N (S0 w os) = some s1 := by
    unfold topFrom
    rw [sz.1, sz.2.1, sz.2.2]
    dsimp only
    rw [r0, Option.bind_some]
    have k1' : (staticsOk (importedModules p.main.body) (S0 w os).heap s1.heap && namesBound p s1.heap && gensDone s1 && laidKept (S0 w os).heap s1.heap) = true := k1
    rw [k1']
  unfold openEnds
  rw [es, Option.bind_some]
  have t' := congrArg (Option.map fun s => (openSeen q loose (importedModules p.main.body) (fun s => xlAt q lv s && recOk [] s) true s, Yf s)) t
  exact t'.trans (congrArg some (Prod.ext k2 k3))
theorem pre_self : @pre = @pre := rfl
theorem preTo_self : @preTo = @preTo := rfl
theorem blk_self : @blk = @blk := rfl
theorem blkTo_self : @blkTo = @blkTo := rfl
theorem ev_self : @ev = @ev := rfl
theorem evTo_self : @evTo = @evTo := rfl
end Hd
name_quick hdPre for Hd.pre by Hd.pre_self
name_quick hdPreTo for Hd.preTo by Hd.preTo_self
name_quick hdBlk for Hd.blk by Hd.blk_self
name_quick hdBlkTo for Hd.blkTo by Hd.blkTo_self
name_quick hdEv for Hd.ev by Hd.ev_self
name_quick hdEvTo for Hd.evTo by Hd.evTo_self
set_option Elab.async false
set_option linter.all false
set_option maxRecDepth 100000
set_option maxHeartbeats 4000000
namespace Hd
open PySem PySem.W PySem.Calls PyProof.Rows L2
noncomputable def pick (h : Heap) (as : List Addr) : Frag := as.filterMap fun a => (h.get? a).map fun o => (a, o)
theorem pick_in (h : Heap) : ∀ as : List Addr, (pick h as).In h
  | [] => fun _ _ e => by cases e
  | b :: as => fun a o e => by
    have ih := pick_in h as a o
    have e' : List.lookup a (pick h (b :: as)) = some o := e
    unfold pick at e'
    rw [List.filterMap_cons] at e'
    cases z : h.get? b with
    | none => rw [z] at e'; exact ih e'
    | some u =>
      rw [z] at e'
      dsimp only [Option.map] at e'
      rw [List.lookup_cons] at e'
      split at e'
      · rename_i hb
        have := eq_of_beq hb
        subst this
        cases e'
        exact z
      · exact ih e'
noncomputable def stAt (p : Program) (i : Nat) : Stmt := p.main.body.getD i (.Pass ⟨0, 0, 0, 0⟩)
noncomputable def nm : Stmt → Str
  | .FunctionDef n _ _ _ _ _ _ _ _ _ => n
  | .ClassDef n _ _ _ _ _ _ _ _ _ _ => n
  | .Assign [.Name n _] _ _ => n
  | _ => Str.empty
noncomputable def constS : PySem.Expr → Str
  | .Constant (.str s) _ _ => s
  | .Name n _ => n
  | _ => Str.empty
noncomputable def tupLit : Stmt → List Str
  | .Assign _ (.Tuple es _ _) _ => es.map constS
  | _ => []
noncomputable def dictLit : Stmt → List (Str × Str)
  | .Assign _ (.Dict ks vs _) _ => List.zip (ks.map fun k => match k with | some e => constS e | none => Str.empty) (vs.map constS)
  | _ => []
structure Ask where
  fns : List Nat
  tups : List Nat
  kfs : List Nat
  kds : List Nat
  bl : List Str
noncomputable abbrev FnD := Str × Str × Arguments × FuncBody × Scope × Addr × List (Str × Addr) × Value × Addr × Bool
noncomputable def fnD (K : Frag) (fd : FuncData) : FnD := (fd.name, fd.qualname, fd.params, fd.body, fd.scope, fd.globals, fd.closure, fd.defaults, fd.builtins, codeIn K fd.code fd.qualname)
noncomputable def refSeen (K : Frag) (x : Str) : Option (Addr × Obj) := match nsIn K mainGlobals x with
  | some (some (.ref f)) => (K.lookup f).map fun o => (f, o)
  | _ => none
noncomputable def fnSeen (K : Frag) (x : Str) : Option FnD := match refSeen K x with
  | some (_, ⟨_, _, .func fd, _⟩) => some (fnD K fd)
  | _ => none
noncomputable def fnWant (st : Stmt) : Option FnD := some (nm st, nm st, defArgs st, .stmts (defBody st), defScope st, mainGlobals, [], .none, builtinsNs, true)
theorem ref_of {K : Frag} {x : Str} {r : Addr × Obj} (e : refSeen K x = some r) : nsIn K mainGlobals x = some (some (.ref r.1)) ∧ K.lookup r.1 = some r.2 := by
  unfold refSeen at e
  split at e
  · rename_i f hf
    obtain ⟨o, e1, e2⟩ := Option.map_eq_some_iff.mp e
    subst e2
    exact ⟨hf, e1⟩
  · cases e
theorem fn_of {K : Frag} {st : Stmt} (e : fnSeen K (nm st) = fnWant st) : ∃ (f : Addr) (oc : Value) (od : Option Addr) (sl : Array (Option Value)) (kV dc pm : Value) (an : Option Addr) (cd ct : Value),
    nsIn K mainGlobals (nm st) = some (some (.ref f)) ∧ K.lookup f = some ⟨oc, od, .func (fnOf (nm st) (nm st) (defArgs st) (defBody st) (defScope st) .none kV dc pm an cd ct), sl⟩ ∧ codeIn K cd (nm st) = true ∧ keepIn K (.ref f) = true := by
  unfold fnSeen at e
  split at e
  · rename_i f oc od fd sl h
    obtain ⟨h1, h2⟩ := ref_of h
    dsimp only at h1 h2
    obtain ⟨a1, a2, a3, a4, a5, a6, a7, a8, a9, a10, a11, a12, a13, a14, a15⟩ := fd
    have e := Option.some.inj e
    simp only [fnD, Prod.mk.injEq] at e
    obtain ⟨rfl, rfl, rfl, rfl, rfl, rfl, rfl, rfl, rfl, hc⟩ := e
    refine ⟨f, oc, od, sl, _, _, _, _, _, _, h1, h2, hc, ?_⟩
    show (match K.lookup f with | some ⟨_, _, .func _, _⟩ => true | some ⟨_, _, .cls _, _⟩ => specialIn K (.ref f) "__call__" == some (some (.builtin "type.__call__")) | _ => false) = true
    rw [h2]
  · cases e
noncomputable def strOf : Value → Option Str
  | .str s _ => some s
  | _ => none
theorem strOf_eq {v : Value} {s : Str} (e : strOf v = some s) : ∃ t, v = .str s t := by
  unfold strOf at e
  split at e
  · cases e; exact ⟨_, rfl⟩
  · cases e
noncomputable def tupSeen (K : Frag) (x : Str) : Option (Value × List (Option Str)) := match refSeen K x with
  | some (_, ⟨c, _, .seq vs _, _⟩) => some (c, vs.toList.map strOf)
  | _ => none
noncomputable def tupWant (st : Stmt) : Option (Value × List (Option Str)) := some (.type "tuple", (tupLit st).map some)
theorem vals_strs : ∀ {l : List Str} {vs : List Value}, vs.map strOf = l.map some → Vals (l.map V.str) vs
  | [], [], _ => .nil
  | [], _ :: _, e => by cases e
  | _ :: _, [], e => by cases e
  | s :: l, v :: vs, e => by
    have e1 := (List.cons.inj e).1
    have e2 := (List.cons.inj e).2
    exact .cons (strOf_eq e1) (vals_strs e2)
theorem tup_of {K : Frag} {st : Stmt} (e : tupSeen K (nm st) = tupWant st) (hl : (tupLit st).length ≤ sizeLine) : ∃ a : Addr, nsIn K mainGlobals (nm st) = some (some (.ref a)) ∧ ∀ H, SqT K H a ((tupLit st).map V.str) := by
  unfold tupSeen at e
  split at e
  · rename_i a c od vs n sl h
    obtain ⟨h1, h2⟩ := ref_of h
    have e := Option.some.inj e
    obtain ⟨rfl, e2⟩ := Prod.mk.inj e
    refine ⟨a, h1, fun H => .inr ⟨_, _, _, h2, rfl, rfl, ?_, vals_strs e2⟩⟩
    have := congrArg List.length e2
    rw [List.length_map, List.length_map, Array.length_toList] at this
    rw [this]
    exact hl
  · cases e
noncomputable abbrev DiD := Value × Option Addr × Array (Option Value) × Bool × Nat × List (Int × Option Str × Bool)
noncomputable def kfRow (K : Frag) (e : DictEntry) (kf : Str × Str) : Int × Option Str × Bool := (e.hash, strOf e.key, nsIn K mainGlobals kf.2 == some (some e.val))
noncomputable def kfSeen (K : Frag) (x : Str) (kfs : List (Str × Str)) : Option DiD := match refSeen K x with
  | some (a, ⟨c, od, .dict es _, sl⟩) => some (c, od, sl, a == sysModules, es.toList.length, List.zipWith (kfRow K) es.toList kfs)
  | _ => none
noncomputable def kfWant (P : Params) (kfs : List (Str × Str)) : Option DiD := some (.type "dict", none, #[], false, kfs.length, kfs.map fun kf => (PyData.keyHash P kf.1, some kf.1, true))
noncomputable abbrev DsD := Value × Option Addr × Array (Option Value) × Bool × List (Int × Option Str × Option Str)
noncomputable def kdSeen (K : Frag) (x : Str) : Option DsD := match refSeen K x with
  | some (a, ⟨c, od, .dict es _, sl⟩) => some (c, od, sl, a == sysModules, es.toList.map fun e => (e.hash, strOf e.key, strOf e.val))
  | _ => none
noncomputable def kdWant (P : Params) (kvs : List (Str × Str)) : Option DsD := some (.type "dict", none, #[], false, kvs.map fun kv => (PyData.keyHash P kv.1, some kv.1, some kv.2))
theorem kd_rows {w : World} : ∀ {kvs : List (Str × Str)} {es : List DictEntry}, es.map (fun e => (e.hash, strOf e.key, strOf e.val)) = kvs.map (fun kv => (PyData.keyHash w.params kv.1, some kv.1, some kv.2)) →
    Paired (fun (p : Str × V) (e : DictEntry) => (∃ tk, e.key = .str p.1 tk) ∧ e.hash = PyData.keyHash w.params p.1 ∧ RelV p.2 e.val) (kvs.map fun kv => (kv.1, V.str kv.2)) es
  | [], [], _ => .nil
  | [], _ :: _, h => by cases h
  | _ :: _, [], h => by cases h
  | kv :: kvs, e :: es, h => by
    have q1 := (List.cons.inj h).1
    have q2 := (List.cons.inj h).2
    simp only [Prod.mk.injEq] at q1
    obtain ⟨q3, q4, q5⟩ := q1
    exact .cons ⟨strOf_eq q4, q3, strOf_eq q5⟩ (kd_rows q2)
theorem kd_of {K : Frag} {w : World} {st : Stmt} (e : kdSeen K (nm st) = kdWant w.params (dictLit st)) (nd : (((dictLit st).map fun kv => (kv.1, V.str kv.2)).map (·.1)).Nodup) :
    ∃ a : Addr, nsIn K mainGlobals (nm st) = some (some (.ref a)) ∧ KDict K w a ((dictLit st).map fun kv => (kv.1, V.str kv.2)) := by
  unfold kdSeen at e
  split at e
  · rename_i a c od es n sl h
    obtain ⟨h1, h2⟩ := ref_of h
    have e := Option.some.inj e
    simp only [Prod.mk.injEq] at e
    obtain ⟨rfl, rfl, rfl, e4, e6⟩ := e
    exact ⟨a, h1, ⟨_, es, n, h2, ⟨rfl, rfl, rfl⟩, rfl, kd_rows e6⟩, nd, e4⟩
  · cases e
noncomputable abbrev Obs := List (Option FnD) × List (Option (Value × List (Option Str))) × List (Option DiD) × List (Option DsD) × List (Option (Option Value))
noncomputable def obsK (p : Program) (A : Ask) (K : Frag) : Obs :=
  (A.fns.map fun i => fnSeen K (nm (stAt p i)), A.tups.map fun i => tupSeen K (nm (stAt p i)), A.kfs.map fun i => kfSeen K (nm (stAt p i)) (dictLit (stAt p i)), A.kds.map fun i => kdSeen K (nm (stAt p i)), A.bl.map fun x => nsIn K mainGlobals x)
noncomputable def valK (p : Program) (A : Ask) (P : Params) : Obs :=
  (A.fns.map fun i => fnWant (stAt p i), A.tups.map fun i => tupWant (stAt p i), A.kfs.map fun i => kfWant P (dictLit (stAt p i)), A.kds.map fun i => kdWant P (dictLit (stAt p i)), A.bl.map fun _ => some none)
noncomputable def addrs (p : Program) (A : Ask) (h : Heap) : List Addr :=
  mainGlobals :: (A.fns ++ A.tups ++ A.kfs ++ A.kds).flatMap fun i => match nsIn (pick h [mainGlobals]) mainGlobals (nm (stAt p i)) with
    | some (some (.ref a)) => a :: (match h.get? a with
      | some ⟨_, _, .func fd, _⟩ => (match fd.code with | .ref c => [c] | _ => [])
      | _ => [])
    | _ => []
theorem map_at {α β : Type} {f g : α → β} {l : List α} (e : l.map f = l.map g) {a : α} (h : a ∈ l) : f a = g a := List.map_inj_left.mp e a h
section
variable {p : Program} {A : Ask} {K : Frag} {P : Params} (e : obsK p A K = valK p A P)
theorem e_fn (e : obsK p A K = valK p A P) {i : Nat} (h : i ∈ A.fns) : fnSeen K (nm (stAt p i)) = fnWant (stAt p i) := map_at (f := fun i => fnSeen K (nm (stAt p i))) (g := fun i => fnWant (stAt p i)) (Prod.mk.inj e).1 h
theorem e_tup (e : obsK p A K = valK p A P) {i : Nat} (h : i ∈ A.tups) : tupSeen K (nm (stAt p i)) = tupWant (stAt p i) := map_at (f := fun i => tupSeen K (nm (stAt p i))) (g := fun i => tupWant (stAt p i)) (Prod.mk.inj (Prod.mk.inj e).2).1 h
theorem e_kd (e : obsK p A K = valK p A P) {i : Nat} (h : i ∈ A.kds) : kdSeen K (nm (stAt p i)) = kdWant P (dictLit (stAt p i)) :=
  map_at (f := fun i => kdSeen K (nm (stAt p i))) (g := fun i => kdWant P (dictLit (stAt p i))) (Prod.mk.inj (Prod.mk.inj (Prod.mk.inj (Prod.mk.inj e).2).2).2).1 h
theorem e_bl (e : obsK p A K = valK p A P) {x : Str} (h : x ∈ A.bl) : nsIn K mainGlobals x = some none :=
  map_at (f := fun x => nsIn K mainGlobals x) (g := fun _ => some none) (Prod.mk.inj (Prod.mk.inj (Prod.mk.inj (Prod.mk.inj e).2).2).2).2 h
end
end Hd
set_option Elab.async false
set_option linter.all false
set_option maxRecDepth 100000
set_option maxHeartbeats 4000000
namespace Hd
open PySem PySem.W PySem.Calls PySem.Spec PyProof.Rows L2
noncomputable def posOf : Stmt → Pos
  | .FunctionDef _ _ _ _ _ _ _ _ _ p => p
  | _ => ⟨0, 0, 0, 0⟩
noncomputable def FnF (K : Frag) (x : Str) (st : Stmt) : Prop := ∃ (f : Addr) (oc : Value) (od : Option Addr) (sl : Array (Option Value)) (kV dc pm : Value) (an : Option Addr) (cd ct : Value),
  nsIn K mainGlobals x = some (some (.ref f)) ∧ K.lookup f = some ⟨oc, od, .func (fnOf x x (defArgs st) (defBody st) (defScope st) .none kV dc pm an cd ct), sl⟩ ∧ codeIn K cd x = true ∧ keepIn K (.ref f) = true
theorem fn_ofx {K : Frag} {x : Str} {st : Stmt} (hx : nm st = x) (e : fnSeen K (nm st) = fnWant st) : FnF K x st := hx ▸ fn_of e
noncomputable def FunF (K : Frag) (x : Str) (st : Stmt) : Prop := ∃ (f : Addr) (fd : FuncData), nsIn K mainGlobals x = some (some (.ref f)) ∧ Fun K x x st f fd
theorem fun_ofx {K : Frag} {x : Str} {st : Stmt} (hx : nm st = x) (e : fnSeen K (nm st) = fnWant st) : FunF K x st := by
  obtain ⟨f, oc, od, sl, kV, dc, pm, an, cd, ct, a, l, c, k⟩ := fn_ofx hx e
  exact ⟨f, _, a, fun_mk l c k⟩
noncomputable def TupF (K : Frag) (x : Str) (l : List Str) : Prop := ∃ a : Addr, nsIn K mainGlobals x = some (some (.ref a)) ∧ ∀ H, SqT K H a (l.map V.str)
theorem tup_ofx {K : Frag} {x : Str} {st : Stmt} {l : List Str} (hx : nm st = x) (hl : tupLit st = l) (hz : l.length ≤ sizeLine) (e : tupSeen K (nm st) = tupWant st) : TupF K x l := by
  subst hx hl
  exact tup_of e hz
noncomputable def KfF (K : Frag) (w : World) (x : Str) (l : List (Str × V)) : Prop := ∃ a : Addr, nsIn K mainGlobals x = some (some (.ref a)) ∧ KDict K w a l
theorem kd_ofx {K : Frag} {w : World} {x : Str} {st : Stmt} {l : List (Str × Str)} (hx : nm st = x) (hl : dictLit st = l) (nd : ((l.map fun kv => (kv.1, V.str kv.2)).map (·.1)).Nodup) (e : kdSeen K (nm st) = kdWant w.params (dictLit st)) : KfF K w x (l.map fun kv => (kv.1, V.str kv.2)) := by
  subst hx hl
  exact kd_of e nd
end Hd
set_option Elab.async false
set_option linter.all false
set_option maxRecDepth 100000
set_option maxHeartbeats 4000000
namespace Hd
open PySem PySem.W PySem.Calls PySem.Spec PyProof.Rows L2
noncomputable def adr (K : Frag) (x : Str) : Addr := match nsIn K mainGlobals x with
  | some (some (.ref a)) => a
  | _ => 0
noncomputable def isRef (K : Frag) (x : Str) : Bool := match nsIn K mainGlobals x with
  | some (some (.ref _)) => true
  | _ => false
theorem adr_of {K : Frag} {x : Str} (h : isRef K x = true) : nsIn K mainGlobals x = some (some (.ref (adr K x))) := by
  unfold isRef at h
  unfold adr
  split at h
  · rename_i a e
    rw [e]
  · cases h
noncomputable def excForm (o : Obj) (C : Addr) : Option (List Value × Addr) := match o with
  | ⟨c, _, .cls cd, sl⟩ => (match cd.mro, sl.toList with
    | .ref c1 :: bm, [_, _, _, _, some (.builtin n), _] => if c = .type "type" ∧ c1 = C ∧ cd.hasDel = false ∧ n = "ValueError.__new__" then some (bm, cd.ns) else none
    | _, _ => none)
  | _ => none
theorem exc_of {o : Obj} {C N : Addr} {bm : List Value} (h : excForm o C = some (bm, N)) : ∃ (nm q : Str) (bs : List Value) (hdct : Bool) (sn : List Str) (sub : List Value) (ab : Bool) (col : Option Bool) (dd : Option Addr) (k0 k1 k2 k3 k5 : Option Value),
    o = excClassObj nm q C N bs bm hdct sn sub ab col dd k0 k1 k2 k3 k5 "ValueError.__new__" := by
  unfold excForm at h
  split at h
  · rename_i c dd cd sl
    split at h
    · rename_i c1 bm' k0 k1 k2 k3 n k5 hm hs
      split at h
      · rename_i hc
        obtain ⟨h1, h2, h3, h4⟩ := hc
        have h := Option.some.inj h
        obtain ⟨e1, e2⟩ := Prod.mk.inj h
        obtain ⟨nm, bs, mro, ns, q, hd, sn, sub, ab, col, del⟩ := cd
        dsimp only at hm h3 e2
        subst hm h1 h2 h3 h4 e1 e2
        refine ⟨nm, q, bs, hd, sn, sub, ab, col, dd, k0, k1, k2, k3, k5, ?_⟩
        have : sl = #[k0, k1, k2, k3, some (.builtin "ValueError.__new__"), k5] := Array.toList_inj.mp hs
        rw [this]
      · cases h
    · cases h
  · cases h
noncomputable def nsOkL (K : Frag) (N : Addr) : Bool := match K.lookup N with
  | some ⟨_, _, .dict es _, _⟩ => es.toList.all fun e => match e.key with | .str _ _ => true | _ => false
  | _ => false
theorem nsOkL_of {K : Frag} {N : Addr} (h : nsOkL K N = true) : nsOkIn K N = true := by
  unfold nsOkL at h
  split at h
  · rename_i l
    exact nsOk_mk l h
  · cases h
noncomputable def excOk (K : Frag) (C B : Addr) : Bool := match (K.lookup C).bind (excForm · C), (K.lookup B).bind (excForm · B) with
  | some (bm, N), some (_, M) => bm == .ref B :: bmV && nsOkL K N && nsOkL K M && nsIn K N "__init__" == some none && nsIn K M "__init__" == some none
  | _, _ => false
noncomputable def isiOk (K : Frag) (C : Addr) : Bool := findIn K (.ref C) "__getattribute__" == some (some (.builtin "BaseException.__getattribute__")) && findIn K (.ref C) "__getattr__" == some none && mroIn K C (.type "BaseException") == some true && hasDictIn K C &&
  findIn K (.ref C) "__class__" == some (some (.builtin "object.__class__")) && mroIn K C (.type "object") == some true
theorem xisi_of {K : Frag} {C : Addr} (h : isiOk K C = true) : XIsi K C := by
  unfold isiOk at h
  simp only [Bool.and_eq_true] at h
  obtain ⟨⟨⟨⟨⟨h1, h2⟩, h3⟩, h4⟩, h5⟩, h6⟩ := h
  exact ⟨⟨eq_of_beq h1, eq_of_beq h2, eq_of_beq h3⟩, cls_some h4, eq_of_beq h5, eq_of_beq h6⟩
structure ClsAsk where
  cls : List Nat
  exc : List (Nat × Nat)
  kit : List (Nat × List Nat)
noncomputable def at_ (p : Program) (K : Frag) (i : Nat) : Addr := adr K (nm (stAt p i))
noncomputable def chk (p : Program) (B : ClsAsk) (K : Frag) : Bool :=
  (B.cls.all fun i => isRef K (nm (stAt p i))) && (B.exc.all fun ij => excOk K (at_ p K ij.1) (at_ p K ij.2) && isiOk K (at_ p K ij.1) && kitOne K (.ref (at_ p K ij.1)) (.ref (at_ p K ij.2)) == some true && kitOne K (.ref (at_ p K ij.1)) (.type "ValueError") == some true) &&
  B.kit.all fun ij => kitAny K (.ref (at_ p K ij.1)) (ij.2.map fun j => .ref (at_ p K j)) == some false
section
variable {p : Program} {B : ClsAsk} {K : Frag}
theorem c_ref (h : chk p B K = true) {i : Nat} (hi : i ∈ B.cls) : nsIn K mainGlobals (nm (stAt p i)) = some (some (.ref (at_ p K i))) := by
  unfold chk at h
  simp only [Bool.and_eq_true] at h
  exact adr_of (List.all_eq_true.mp h.1.1 i hi)
theorem c_refx {x : Str} (h : chk p B K = true) {i : Nat} (hx : nm (stAt p i) = x) (hi : i ∈ B.cls) : nsIn K mainGlobals x = some (some (.ref (at_ p K i))) := hx ▸ c_ref h hi
theorem c_kit (h : chk p B K = true) {ij : Nat × List Nat} (hi : ij ∈ B.kit) : kitAny K (.ref (at_ p K ij.1)) (ij.2.map fun j => .ref (at_ p K j)) = some false := by
  unfold chk at h
  simp only [Bool.and_eq_true] at h
  exact eq_of_beq (List.all_eq_true.mp h.2 ij hi)
end
noncomputable def addrs2 (p : Program) (A : Ask) (B : ClsAsk) (h : Heap) : List Addr :=
  addrs p A h ++ B.cls.flatMap fun i => match nsIn (pick h [mainGlobals]) mainGlobals (nm (stAt p i)) with
    | some (some (.ref a)) => a :: (match h.get? a with
      | some ⟨_, _, .cls cd, _⟩ => [cd.ns]
      | _ => [])
    | _ => []
end Hd
set_option Elab.async false
set_option linter.all false
set_option maxRecDepth 100000
set_option maxHeartbeats 4000000
namespace Hd
open PySem PySem.W PySem.Calls PySem.Spec PyProof.Rows L2
noncomputable def nsOf (K : Frag) (C : Addr) : Option Addr := ((K.lookup C).bind (excForm · C)).map (·.2)
noncomputable def iniAt (K : Frag) (C : Addr) : Option (Addr × Obj) := (nsOf K C).bind fun N => match nsIn K N "__init__" with
  | some (some (.ref f)) => (K.lookup f).map fun o => (f, o)
  | _ => none
noncomputable def iniSeen (K : Frag) (C : Addr) : Option (Value × FnD) := match iniAt K C with
  | some (_, ⟨c, _, .func fd, _⟩) => some (c, fnD K fd)
  | _ => none
noncomputable def iniWant (q : Str) (st : Stmt) : Option (Value × FnD) := some (.type "function", "__init__", q, defArgs st, .stmts (defBody st), defScope st, mainGlobals, [], .none, builtinsNs, true)
noncomputable def excOkI (K : Frag) (C B : Addr) : Bool := match (K.lookup C).bind (excForm · C), (K.lookup B).bind (excForm · B) with
  | some (bm, N), some (_, M) => bm == .ref B :: bmV && nsOkL K N && nsOkL K M && nsIn K M "__init__" == some none
  | _, _ => false
noncomputable def setOk (K : Frag) (C : Addr) (x : Str) : Bool := findIn K (.ref C) "__setattr__" == some (some (.builtin "object.__setattr__")) && findIn K (.ref C) x == some none && hasDictIn K C && mroIn K C (.type "object") == some true
theorem xset_of {K : Frag} {C : Addr} {x : Str} (h : setOk K C x = true) : XSet K C x := by
  unfold setOk at h
  simp only [Bool.and_eq_true] at h
  obtain ⟨⟨⟨h1, h2⟩, h3⟩, h4⟩ := h
  exact ⟨eq_of_beq h1, eq_of_beq h2, h3, eq_of_beq h4⟩
noncomputable def fiOk : Option CFound → Bool
  | some (.val (.builtin n)) => n == "ValueError.__init__"
  | _ => false
theorem fi_of {o : Option CFound} (h : fiOk o = true) : o = some (.val (.builtin "ValueError.__init__")) := by
  unfold fiOk at h
  split at h
  · rw [eq_of_beq h]
  · cases h
noncomputable def iniOk (K : Frag) (B : Addr) : Bool := specialIn K (.ref B) "__getattribute__" == some (some (.builtin "type.__getattribute__")) && readsIn K B (.type "type") && fiOk (findCls K (.ref B) (.type "type") "__init__")
theorem xini_of {K : Frag} {B : Addr} (h : iniOk K B = true) : XIni K B := by
  unfold iniOk at h
  simp only [Bool.and_eq_true] at h
  exact ⟨eq_of_beq h.1.1, h.1.2, fi_of h.2⟩
structure IniRow where
  cls : Nat
  bas : Nat
  met : Nat
  qual : Str
  fld : Str
structure IniF (K : Frag) (C B : Addr) (q fld : Str) (st : Stmt) (f : Addr) (fd : FuncData) : Prop where
  fn : Fun K "__init__" q st f fd
  xc : XClsI K C f
  isi : XIsi K C
  set : XSet K C fld
  ini : XIni K B
  one : kitOne K (.ref C) (.ref B) = some true
  val : kitOne K (.ref C) (.type "ValueError") = some true
noncomputable def iniChk (K : Frag) (C B : Addr) (fld : Str) : Bool := excOkI K C B && isiOk K C && setOk K C fld && iniOk K B && kitOne K (.ref C) (.ref B) == some true && kitOne K (.ref C) (.type "ValueError") == some true
theorem ini_of {K : Frag} {C B : Addr} {q fld : Str} {st : Stmt} (h : iniChk K C B fld = true) (e : iniSeen K C = iniWant q st) : ∃ f fd, IniF K C B q fld st f fd := by
  unfold iniChk at h
  simp only [Bool.and_eq_true] at h
  obtain ⟨⟨⟨⟨⟨h1, h2⟩, h3⟩, h4⟩, h5⟩, h6⟩ := h
  unfold iniSeen at e
  split at e
  · rename_i f oc od fd sl hi
    obtain ⟨a1, a2, a3, a4, a5, a6, a7, a8, a9, a10, a11, a12, a13, a14, a15⟩ := fd
    have e := Option.some.inj e
    simp only [fnD, Prod.mk.injEq] at e
    obtain ⟨rfl, rfl, rfl, rfl, rfl, rfl, rfl, rfl, rfl, rfl, hc⟩ := e
    unfold iniAt at hi
    obtain ⟨N, hN, hi⟩ := Option.bind_eq_some_iff.mp hi
    split at hi
    · rename_i f' hf
      obtain ⟨o, lf, ef⟩ := Option.map_eq_some_iff.mp hi
      cases ef
      unfold nsOf at hN
      obtain ⟨⟨bm, N'⟩, hX, rfl⟩ := Option.map_eq_some_iff.mp hN
      dsimp only at hf
      unfold excOkI at h1
      rw [hX] at h1
      split at h1
      · rename_i bm1 N1 bm2 M hC hB
        cases hC
        obtain ⟨o1, l, g⟩ := Option.bind_eq_some_iff.mp hX
        obtain ⟨o2, l2, g2⟩ := Option.bind_eq_some_iff.mp hB
        simp only [Bool.and_eq_true] at h1
        obtain ⟨⟨⟨j1, j2⟩, j3⟩, j5⟩ := h1
        have j1 := eq_of_beq j1
        have j5 := eq_of_beq j5
        subst j1
        obtain ⟨nm, q', bs, hd, sn, sub, ab, col, dd, k0, k1, k2, k3, k5, rfl⟩ := exc_of g
        obtain ⟨nm', q'', bs', hd', sn', sub', ab', col', dd', k0', k1', k2', k3', k5', rfl⟩ := exc_of g2
        have kp : keepIn K (.ref f) = true := by
          show (match K.lookup f with | some ⟨_, _, .func _, _⟩ => true | some ⟨_, _, .cls _, _⟩ => specialIn K (.ref f) "__call__" == some (some (.builtin "type.__call__")) | _ => false) = true
          rw [lf]
        exact ⟨f, _, fun_mk lf hc kp, xclsI_mk l (tail_own l2 (nsOkL_of j3) j5) (nsOkL_of j2) hf lf rfl, xisi_of h2, xset_of h3, xini_of h4, eq_of_beq h5, eq_of_beq h6⟩
      · cases h1
    · cases hi
  · cases e
noncomputable def intOk (K : Frag) (x : Str) (i : Int) : Bool := match nsIn K mainGlobals x with
  | some (some (.int j _)) => decide (j = i)
  | _ => false
theorem int_of {K : Frag} {x : Str} {i : Int} (h : intOk K x i = true) : ∃ t, nsIn K mainGlobals x = some (some (.int i t)) := by
  unfold intOk at h
  split at h
  · rename_i j t e
    have := of_decide_eq_true h
    subst this
    exact ⟨t, e⟩
  · cases h
structure MoreAsk where
  ini : List IniRow
  nums : List (Str × Int)
noncomputable def chkM (p : Program) (M : MoreAsk) (K : Frag) : Bool := (M.ini.all fun r => iniChk K (at_ p K r.cls) (at_ p K r.bas) r.fld) && M.nums.all fun xi => intOk K xi.1 xi.2
noncomputable def iniK (p : Program) (M : MoreAsk) (K : Frag) : List (Option (Value × FnD)) := M.ini.map fun r => iniSeen K (at_ p K r.cls)
noncomputable def iniV (p : Program) (M : MoreAsk) : List (Option (Value × FnD)) := M.ini.map fun r => iniWant r.qual (inClass (stAt p r.cls) r.met)
theorem m_ini {p : Program} {M : MoreAsk} {K : Frag} (h : chkM p M K = true) (e : iniK p M K = iniV p M) {r : IniRow} (hr : r ∈ M.ini) : ∃ f fd, IniF K (at_ p K r.cls) (at_ p K r.bas) r.qual r.fld (inClass (stAt p r.cls) r.met) f fd := by
  unfold chkM at h
  rw [Bool.and_eq_true] at h
  exact ini_of (List.all_eq_true.mp h.1 r hr) (map_at (f := fun r : IniRow => iniSeen K (at_ p K r.cls)) (g := fun r : IniRow => iniWant r.qual (inClass (stAt p r.cls) r.met)) e hr)
theorem m_int {p : Program} {M : MoreAsk} {K : Frag} (h : chkM p M K = true) {x : Str} {i : Int} (hi : (x, i) ∈ M.nums) : ∃ t, nsIn K mainGlobals x = some (some (.int i t)) := by
  unfold chkM at h
  rw [Bool.and_eq_true] at h
  exact int_of (List.all_eq_true.mp h.2 _ hi)
noncomputable def addrs3 (p : Program) (A : Ask) (B : ClsAsk) (M : MoreAsk) (h : Heap) : List Addr :=
  cStatics :: addrs2 p A B h ++ M.ini.flatMap fun r => match nsIn (pick h [mainGlobals]) mainGlobals (nm (stAt p r.cls)) with
    | some (some (.ref a)) => (match h.get? a with
      | some ⟨_, _, .cls cd, _⟩ => (match nsIn (pick h [cd.ns]) cd.ns "__init__" with
        | some (some (.ref f)) => f :: (match h.get? f with
          | some ⟨_, _, .func fd, _⟩ => (match fd.code with | .ref c => [c] | _ => [])
          | _ => [])
        | _ => [])
      | _ => [])
    | _ => []
noncomputable abbrev Obs3 := Obs × Bool × List (Option (Value × FnD)) × Bool
noncomputable def obs3K (p : Program) (A : Ask) (B : ClsAsk) (M : MoreAsk) (K : Frag) : Obs3 := (obsK p A K, chk p B K, iniK p M K, chkM p M K)
noncomputable def obs3 (p : Program) (A : Ask) (B : ClsAsk) (M : MoreAsk) (s : Shared) : Obs3 := obs3K p A B M (pick s.heap (addrs3 p A B M s.heap))
noncomputable def val3 (p : Program) (A : Ask) (M : MoreAsk) (w : World) : Obs3 := (valK p A w.params, true, iniV p M, true)
noncomputable def hook3 (p : Program) (A : Ask) (B : ClsAsk) (M : MoreAsk) : Hook :=
  ⟨Obs3, obs3 p A B M, val3 p A M, fun w h => ∃ K : Frag, K.In h ∧ obsK p A K = valK p A w.params ∧ chk p B K = true ∧ iniK p M K = iniV p M ∧ chkM p M K = true,
    fun w s e => ⟨_, pick_in _ _, (Prod.mk.inj e).1, (Prod.mk.inj (Prod.mk.inj e).2).1, (Prod.mk.inj (Prod.mk.inj (Prod.mk.inj e).2).2).1, (Prod.mk.inj (Prod.mk.inj (Prod.mk.inj e).2).2).2⟩, fun w h h' x k => by
    obtain ⟨K, i, e⟩ := x
    exact ⟨K, fun a o z => k _ _ (i a o z), e⟩⟩
theorem walkH3 {l : OpenLaw} {n k : Nat} {q p : Program} {A : Ask} {B : ClsAsk} {M : MoreAsk} {loose : List Str} {XP : (Str → Option Value) → Heap → Prop} {d : DefRec} {CX : CXT} {sp : Frag → Sp} {x : Str}
    (hn : l.most = some n) (hn2 : n ≤ sizeLine) (hdf : d.params.defaults = []) (hr : Room k callerA)
    (F : ∀ (w : World) (mg : Str → Option Value) (fa : Addr) (h : Heap) (K : Frag), K.In h → h.Ns mainGlobals mg → mg d.name = some (.ref fa) → obsK p A K = valK p A w.params → chk p B K = true → iniK p M K = iniV p M → chkM p M K = true →
      ∃ fd : FuncData, (∀ (s : Shared) (u : Value), BindsTo s fd ⟨[u], []⟩ [(x, u)]) ∧ ∀ base : Heap, K.In base → base.Ns mainGlobals mg → FnOk l.prog w K mg base CX k fa fd [x] (sp K))
    (hsp : ∀ (K : Frag) (H : Hp) (a : Addr) (ns : List Int), ns.length ≤ n → Only H → SqL K H a (ns.map V.int) → sp K [.ref a] H (fun v _ => v = .bl true) fun _ _ _ => False)
    (hCX : ∀ (H : Hp) (s : Shared) (e : Value) (s' : Shared), CX [] H s (fun _ _ _ => False) e s' → False) :
    WalkO q loose XP (hook3 p A B M).says l.row.toRowW d [] (fun f vs => PySem.call f vs) :=
  Att.attach_call hn hdf fun w s₀ s₁ mg mb fa o pm cd doc a vs ns G Y ho hd hcd hmg hobj hints hlen hg => by
    obtain ⟨K, KX, E, D, E2, D2⟩ := Y
    obtain ⟨fd, hb, hF⟩ := F w mg fa _ K KX G.T.g hmg E D E2 D2
    exact law_call KX G.T.g G.T.b G.T.builtins G.T.nolimit hg hobj hints (Nat.le_trans hlen hn2) hr hF hb (fun H hO hS => hsp K H a ns hlen hO hS) fun H e s' => hCX H s₁ e s'
theorem obs3_self : @obs3 = @obs3 := rfl
theorem val3_self : @val3 = @val3 := rfl
end Hd
name_quick hdObs3 for Hd.obs3 by Hd.obs3_self
name_quick hdVal3 for Hd.val3 by Hd.val3_self
namespace KLaw
open PySem L2 Ken
set_option Elab.async false
set_option linter.all false
set_option maxRecDepth 100000
set_option maxHeartbeats 4000000
local macro_rules | `(tactic| walk_at "rdx_1") => `(tactic| simp only [tRaiseI, tXFld, sXFld, tXIni, tFi, tTrySA, tHandAs, rIsiC, rIsiB, rIsiT, tSeq, tAsg, gName, tVar, tC, tOp, rI0, rI, rU, tUn, tRet, tIfS, tTest, tB, tNext, tCons, tNil, tCB, tCall, tTup, tLst, tDrop, tAug, ipI, tAnd, tOr, tNot, tAndV, tBM, tBM0, rAppend, rExtend, rPop, rIxL, rIxT, rIxS, rCat, rEq, rNe, rMulS, tSl, rSlL, rSlS, tPart, tNoPart, rJoin, tDGet, tDisp, tPairs, tFs, tFc, tF0, tKD, rIsi, rEqD, tChain, rIn, rSetL, gSub, iEnumS, iStr, tKNotIn, gTup, gCons, gNil, iRng1, iList, L2.start, capt, List.map_cons, List.map_nil, List.length_cons, List.length_nil, List.cons_append, List.nil_append, List.append_nil, List.replicate_succ, List.replicate_zero, Nat.reduceAdd, Nat.reduceSub, Nat.zero_add, Nat.add_zero, Nat.sub_zero, List.getElem?_cons_zero, List.getElem?_cons_succ, List.getElem?_nil, List.set_cons_zero, List.set_cons_succ, Option.some.injEq, V.int.injEq, V.str.injEq, V.ref.injEq, V.bl.injEq, V.ty.injEq, List.cons.injEq, and_true, true_and, exists_eq_left', exists_eq_left, exists_and_left, exists_eq, exists_eq', and_assoc, Option.join_some, Option.join_none, scal_int, scal_str, scal_bl, cxOf_K, cxOf_K1, hand_K, nox_K, cxOf_prog, cxOf_w, blk_prog, blk_w, blk_K, decide_eq_true_eq])
local macro_rules | `(tactic| walk_at "rdx_2") => `(tactic| simp only [tRaiseI, tXFld, sXFld, tXIni, tFi, tTrySA, tHandAs, rIsiC, rIsiB, rIsiT, tFor, tLC, tVar, tC, tOp, rI0, rI, rU, tUn, tTest, tB, tCons, tNil, tCB, tCall, tTup, tLst, ipI, tAnd, tOr, tNot, tAndV, tBM, tBM0, rAppend, rExtend, rPop, rIxL, rIxT, rIxS, rCat, rEq, rNe, rMulS, tSl, rSlL, rSlS, tPart, tNoPart, rJoin, tDGet, tDisp, tPairs, tFs, tFc, tF0, tKD, rIsi, rEqD, tChain, rIn, rSetL, iEnumS, iStr, tKNotIn, iRng1, iList, L2.start, capt, List.map_cons, List.map_nil, List.length_cons, List.length_nil, List.cons_append, List.nil_append, List.append_nil, List.replicate_succ, List.replicate_zero, Nat.reduceAdd, Nat.reduceSub, Nat.zero_add, Nat.add_zero, Nat.sub_zero, List.getElem?_cons_zero, List.getElem?_cons_succ, List.getElem?_nil, List.set_cons_zero, List.set_cons_succ, Option.some.injEq, V.int.injEq, V.str.injEq, V.ref.injEq, V.bl.injEq, V.ty.injEq, List.cons.injEq, and_true, true_and, exists_eq_left', exists_eq_left, exists_and_left, exists_eq, exists_eq', and_assoc, Option.join_some, Option.join_none, scal_int, scal_str, scal_bl, cxOf_K, cxOf_K1, hand_K, nox_K, cxOf_prog, cxOf_w, blk_prog, blk_w, blk_K, decide_eq_true_eq])
noncomputable def top (i : Nat) : Stmt := PySem.Challenge.pw_ken_k04_no_text.main.body.getD i (.Pass ⟨0, 0, 0, 0⟩)
noncomputable abbrev s__law_mix : Stmt := top 27
theorem sc__law_mix : FnScope ["_law_cell_here", "_law_k", "_law_first"] ["_law_cell_here", "_law_k"] (defScope s__law_mix) := ⟨rfl, rfl, rfl, by decide +kernel, rfl, by decide +kernel, by decide +kernel⟩
noncomputable abbrev s__law_cell : Stmt := top 28
theorem sc__law_cell : FnScope ["_law_script", "_law_k", "_law_cell_here"] ["_law_script", "_law_k"] (defScope s__law_cell) := ⟨rfl, rfl, rfl, by decide +kernel, rfl, by decide +kernel, by decide +kernel⟩
noncomputable abbrev s__law_words : Stmt := top 29
theorem sc__law_words : FnScope ["_law_cell_here", "_law_many", "_law_some", "_law_size", "_law_at", "_law_start"] ["_law_cell_here", "_law_many"] (defScope s__law_words) := ⟨rfl, rfl, rfl, by decide +kernel, rfl, by decide +kernel, by decide +kernel⟩
noncomputable abbrev s__law_leaf : Stmt := top 30
theorem sc__law_leaf : FnScope ["_law_cell_here", "_law_words_here"] ["_law_cell_here", "_law_words_here"] (defScope s__law_leaf) := ⟨rfl, rfl, rfl, by decide +kernel, rfl, by decide +kernel, by decide +kernel⟩
noncomputable abbrev s__law_statement : Stmt := top 31
theorem sc__law_statement : FnScope ["_law_cell_here", "_law_size", "_law_words_here", "_law_rest", "_law_few_here", "_law_one", "_law_other"] ["_law_cell_here", "_law_size", "_law_words_here"] (defScope s__law_statement) := ⟨rfl, rfl, rfl, by decide +kernel, rfl, by decide +kernel, by decide +kernel⟩
noncomputable abbrev s__law_comb : Stmt := top 32
theorem sc__law_comb : FnScope ["_law_cell_here", "_law_many", "_law_words_here", "_law_found", "_law_k", "_law_step", "_law_form", "_law_other"] ["_law_cell_here", "_law_many", "_law_words_here"] (defScope s__law_comb) := ⟨rfl, rfl, rfl, by decide +kernel, rfl, by decide +kernel, by decide +kernel⟩
noncomputable abbrev s__law_drawn : Stmt := top 33
theorem sc__law_drawn : FnScope ["_law_cell_here", "_law_most", "_law_words_here", "_law_way"] ["_law_cell_here", "_law_most", "_law_words_here"] (defScope s__law_drawn) := ⟨rfl, rfl, rfl, by decide +kernel, rfl, by decide +kernel, by decide +kernel⟩
section
variable {P : Program} {w : World} {K : PySem.W.Frag} {mg : Str → Option Value} {base : Heap}
theorem ok__law_mix {k : Nat} {f__law_mix : Addr} {fd__law_mix : FuncData} (F__law_mix : Fun K "_law_mix" "_law_mix" s__law_mix f__law_mix fd__law_mix) : FnOk P w K mg base CX0 (k + 1) f__law_mix fd__law_mix ["_law_cell_here", "_law_k"] sp_mix := by
  refine F__law_mix.ok sc__law_mix (fun vs H Q E h => ?_) (fun cdv A outer s H vs Q E hr h => ?_)
  · obtain ⟨c, k, rfl, _⟩ := h
    rfl
  obtain ⟨c, k, rfl, h0, h1, q⟩ := h
  refine ⟨_, (pss_cons (ps_set (i := 2) sc__law_mix.nd rfl (Or.inl rfl) (pe_op op_mod (pe_op op_mul (pe_op op_add (pv 0) pe_int) (pe_op op_add pe_int (pe_op op_mul pe_int (pv 1)))) pe_int))
  (pss_one (ps_ret (pe_op op_mod (pe_op op_add (pe_op op_add (pe_op op_mul (pe_op op_fdiv (pv 2) pe_int) pe_int) (pe_op op_mul (pv 2) (pe_op op_add (pe_op op_mul (pv 1) (pv 1)) pe_int))) (pv 1)) pe_int)))), ?_⟩
  walk_at "rdx_1"
  have a0 : 0 ≤ (c + 1) * (48271 + 118 * k) % 2147483629 := Int.emod_nonneg _ (by decide)
  have a1 : (c + 1) * (48271 + 118 * k) % 2147483629 < 2147483629 := Int.emod_lt_of_pos _ (by decide)
  refine ⟨mul_left (by decide) (by decide), mul_right (by omega) (by omega), by decide, ⟨by decide, by decide⟩, mul_right (by decide) (by decide), mul_left (by omega) (by omega), mul_left (by omega) (by omega), by decide, ?_⟩
  exact q
theorem ok__law_cell {k : Nat} {f__law_cell : Addr} {fd__law_cell : FuncData} (F__law_cell : Fun K "_law_cell" "_law_cell" s__law_cell f__law_cell fd__law_cell) {f__law_mix : Addr} {fd__law_mix : FuncData} (G__law_mix : FnOk P w K mg base CX0 k f__law_mix fd__law_mix ["_law_cell_here", "_law_k"] (sp_mix)) (m__law_mix : mg "_law_mix" = some (.ref f__law_mix)) (k__law_mix : PySem.W.keepIn K (.ref f__law_mix) = true) (b__law_mix : Binds K fd__law_mix ["_law_cell_here", "_law_k"] []) (m_len : mg "len" = none) : FnOk P w K mg base CX0 (k + 1) f__law_cell fd__law_cell ["_law_script", "_law_k"] (sp_cell K) := by
  refine F__law_cell.ok sc__law_cell (fun vs H Q E h => ?_) (fun cdv A outer s H vs Q E hr h => ?_)
  · obtain ⟨a, ns, k, rfl, _⟩ := h
    rfl
  obtain ⟨a, ns, j, rfl, hS, h63, h0, h1, q⟩ := h
  refine ⟨_, (pss_cons (ps_set (i := 2) sc__law_cell.nd rfl (Or.inl rfl) pe_int)
  (pss_cons (ps_if (pt_cmpR (op_lt) (pv 1) (pe_callB call_len_seq (by exact rfl) m_len Ken.boot_len (pa_cons (pv 0) pa_nil)) (nomark _))
    (pss_one (ps_set (i := 2) sc__law_cell.nd rfl (Or.inl rfl) (pe_op op_mod (pe_ix ix_list (pv 0) (pv 1) (fun _ _ => rfl)) pe_int)))
    pss_nil)
  (pss_one (ps_ret (pe_call G__law_mix hr (by exact rfl) m__law_mix k__law_mix b__law_mix .nil pass0 (pa_cons (pv 2) (pa_cons (pe_op op_add (pv 1) pe_int) pa_nil))))))), ?_⟩
  walk_at "rdx_1"
  refine ⟨_, .inl hS, ?_⟩
  rw [List.length_map]
  have e : cellOf ns j = mix (if j < (ns.length : Int) then (ns[j.toNat]?.getD 0) % 2147483647 else 0) (j + 101) := rfl
  refine ite2 (fun c => ?_) (fun c => ?_)
  · rw [if_pos c] at e
    have hj : j.toNat < ns.length := by omega
    refine ⟨_, hS, V.int (ns[j.toNat]), ?_, _, rfl, by decide, ?_⟩
    · have ej : j = ((j.toNat : Nat) : Int) := by omega
      have q : atI (ns.map V.int) ((j.toNat : Nat) : Int) = some (.int ns[j.toNat]) := atI_nat (by rw [List.getElem?_map, List.getElem?_eq_getElem hj] <;> rfl)
      rw [← ej] at q
      exact q
    · rw [List.getElem?_eq_getElem hj] at e
      rw [e] at q
      exact ⟨_, _, rfl, by omega, by omega, q⟩
  · rw [if_neg c] at e
    rw [e] at q
    exact ⟨_, _, rfl, by omega, by omega, q⟩
theorem ok__law_leaf {k : Nat} {f__law_leaf : Addr} {fd__law_leaf : FuncData} (F__law_leaf : Fun K "_law_leaf" "_law_leaf" s__law_leaf f__law_leaf fd__law_leaf) (m_len : mg "len" = none) : FnOk P w K mg base CX0 (k + 1) f__law_leaf fd__law_leaf ["_law_cell_here", "_law_words_here"] (sp_leaf K) := by
  refine F__law_leaf.ok sc__law_leaf (fun vs H Q E h => ?_) (fun cdv A outer s H vs Q E hr h => ?_)
  · obtain ⟨a, ns, k, rfl, _⟩ := h
    rfl
  obtain ⟨c, wa, ws, rfl, hS, hw, q⟩ := h
  refine ⟨_, (pss_cons (ps_if (pt_cmpR (op_eq) (pe_op op_mod (pv 0) pe_int) pe_int (nomark _))
    (pss_one (ps_ret (pe_tup (pa_cons pe_str pa_nil))))
    pss_nil)
  (pss_one (ps_ret (pe_tup (pa_cons pe_str (pa_cons (pe_ix ix_list (pv 1) (pe_op op_mod (pe_op op_fdiv (pv 0) pe_int) (pe_callB call_len_seq (by exact rfl) m_len Ken.boot_len (pa_cons (pv 1) pa_nil))) (fun _ _ => rfl)) pa_nil)))))), ?_⟩
  walk_at "rdx_1"
  refine ⟨by decide, ite2 (fun _ => ?_) (fun _ => ?_)⟩
  · exact ⟨by decide, fun p hp => q _ _ _ (same_new hp _) (made_low ws hp)⟩
  · have hl : ((ws.map V.str).length : Int) = ws.length := by rw [List.length_map]
    have h2 := hw.1
    refine ⟨⟨by decide, by decide⟩, _, .inl hS, by rw [hl]; omega, _, hS, ?_⟩
    rw [hl]
    obtain ⟨v, hv, e⟩ := at_list (xs := ws.map V.str) (i := c / 6 % (ws.length : Int)) (Int.emod_nonneg _ (by omega)) (by rw [hl]; exact Int.emod_lt_of_pos _ (by omega))
    obtain ⟨x, hx, rfl⟩ := List.mem_map.mp hv
    exact ⟨_, e, by decide, fun p hp => q _ _ _ (same_new hp _) (made_ltr hx hp)⟩
theorem ok__law_statement {k n : Nat} {f__law_statement : Addr} {fd__law_statement : FuncData} (F__law_statement : Fun K "_law_statement" "_law_statement" s__law_statement f__law_statement fd__law_statement) (G__law_statement : FnOk P w K mg base CX0 k f__law_statement fd__law_statement ["_law_cell_here", "_law_size", "_law_words_here"] (sp_stm K n)) (m__law_statement : mg "_law_statement" = some (.ref f__law_statement)) (k__law_statement : PySem.W.keepIn K (.ref f__law_statement) = true) (b__law_statement : Binds K fd__law_statement ["_law_cell_here", "_law_size", "_law_words_here"] []) {f__law_mix : Addr} {fd__law_mix : FuncData} (G__law_mix : FnOk P w K mg base CX0 k f__law_mix fd__law_mix ["_law_cell_here", "_law_k"] (sp_mix)) (m__law_mix : mg "_law_mix" = some (.ref f__law_mix)) (k__law_mix : PySem.W.keepIn K (.ref f__law_mix) = true) (b__law_mix : Binds K fd__law_mix ["_law_cell_here", "_law_k"] []) {f__law_leaf : Addr} {fd__law_leaf : FuncData} (G__law_leaf : FnOk P w K mg base CX0 k f__law_leaf fd__law_leaf ["_law_cell_here", "_law_words_here"] (sp_leaf K)) (m__law_leaf : mg "_law_leaf" = some (.ref f__law_leaf)) (k__law_leaf : PySem.W.keepIn K (.ref f__law_leaf) = true) (b__law_leaf : Binds K fd__law_leaf ["_law_cell_here", "_law_words_here"] []) : FnOk P w K mg base CX0 (k + 1) f__law_statement fd__law_statement ["_law_cell_here", "_law_size", "_law_words_here"] (sp_stm K (n + 1)) := by
  refine F__law_statement.ok sc__law_statement (fun vs H Q E h => ?_) (fun cdv A outer s H vs Q E hr h => ?_)
  · obtain ⟨c, size, wa, ws, rfl, _⟩ := h
    rfl
  obtain ⟨c, size, wa, ws, rfl, hc0, h0, h1, hn, hS, hw, q⟩ := h
  refine ⟨_, (pss_cons (ps_if (pt_cmpR (op_lt) (pv 1) pe_int (nomark _))
    (pss_one (ps_ret (pe_call G__law_leaf hr (by exact rfl) m__law_leaf k__law_leaf b__law_leaf .nil pass0 (pa_cons (pe_op op_fdiv (pv 0) pe_int) (pa_cons (pv 2) pa_nil)))))
    pss_nil)
  (pss_cons (ps_if ((pw_and (pt_cmpR (op_lt) (pv 1) pe_int (nomark _)) (pw_and1 (pt_cmpR (op_eq) (pe_op op_mod (pe_op op_fdiv (pv 0) pe_int) pe_int) pe_int (nomark _))))).pt
    (pss_one (ps_ret (pe_tup (pa_cons pe_str (pa_cons (pe_call G__law_statement hr (by exact rfl) m__law_statement k__law_statement b__law_statement .nil pass0 (pa_cons (pe_call G__law_mix hr (by exact rfl) m__law_mix k__law_mix b__law_mix .nil pass0 (pa_cons (pv 0) (pa_cons pe_int pa_nil))) (pa_cons (pe_op op_sub (pv 1) pe_int) (pa_cons (pv 2) pa_nil)))) (pa_cons (pe_tup (pa_cons pe_str pa_nil)) pa_nil))))))
    pss_nil)
  (pss_cons (ps_set (i := 3) sc__law_statement.nd rfl (Or.inl rfl) (pe_op op_sub (pv 1) pe_int))
  (pss_cons (ps_set (i := 4) sc__law_statement.nd rfl (Or.inl rfl) (pe_op op_add pe_int (pe_op op_mod (pe_call G__law_mix hr (by exact rfl) m__law_mix k__law_mix b__law_mix .nil pass0 (pa_cons (pv 0) (pa_cons pe_int pa_nil))) (pe_op op_sub (pv 3) pe_int))))
  (pss_cons (ps_if (pt_cmpR (op_ge) (pv 1) pe_int (nomark _))
    (pss_one (ps_set (i := 4) sc__law_statement.nd rfl (Or.inl rfl) (pe_op op_add (pe_op op_fdiv (pv 3) pe_int) (pe_op op_mod (pe_call G__law_mix hr (by exact rfl) m__law_mix k__law_mix b__law_mix .nil pass0 (pa_cons (pv 0) (pa_cons pe_int pa_nil))) (pe_op op_fdiv (pv 3) pe_int)))))
    pss_nil)
  (pss_cons (ps_set (i := 5) sc__law_statement.nd rfl (Or.inl rfl) (pe_call G__law_statement hr (by exact rfl) m__law_statement k__law_statement b__law_statement .nil pass0 (pa_cons (pe_call G__law_mix hr (by exact rfl) m__law_mix k__law_mix b__law_mix .nil pass0 (pa_cons (pv 0) (pa_cons pe_int pa_nil))) (pa_cons (pv 4) (pa_cons (pv 2) pa_nil)))))
  (pss_cons (ps_set (i := 6) sc__law_statement.nd rfl (Or.inl rfl) (pe_call G__law_statement hr (by exact rfl) m__law_statement k__law_statement b__law_statement .nil pass0 (pa_cons (pe_call G__law_mix hr (by exact rfl) m__law_mix k__law_mix b__law_mix .nil pass0 (pa_cons (pv 0) (pa_cons pe_int pa_nil))) (pa_cons (pe_op op_sub (pv 3) (pv 4)) (pa_cons (pv 2) pa_nil)))))
  (pss_one (ps_ret (pe_tup (pa_cons (pe_ix ix_list (pe_lst (pa_cons pe_str (pa_cons pe_str (pa_cons pe_str (pa_cons pe_str pa_nil))))) (pe_op op_mod (pv 0) pe_int) (fun _ _ => rfl)) (pa_cons (pv 5) (pa_cons (pv 6) pa_nil))))))))))))), ?_⟩
  walk_at "rdx_1"
  have h2 := hw.1
  have tail : ∀ (few : Int), 1 ≤ few → few ≤ size - 2 → rk few < rk size → rk (size - 1 - few) < rk size →
      sp_mix [V.int c, V.int 3] H (fun x H1 => sp_stm K n [x, V.int few, V.ref wa] H1 (fun x H1 => sp_mix [V.int c, V.int 4] H1 (fun x_1 H1 => sp_stm K n [x_1, V.int (size - 1 - few), V.ref wa] H1 (fun x_2 H1 =>
        4 ≤ sizeLine ∧ ∀ (p : Addr), H1 p = none → (0 : Int) < 4 ∧ ∃ x_3, SqL K (upd H1 p (.lst [V.str "both", V.str "one", V.str "then", V.str "then"])) p x_3 ∧ ∃ x_4, atI x_3 (c % 4) = some x_4 ∧ 3 ≤ sizeLine ∧
          ∀ (p_1 : Addr), upd H1 p (.lst [V.str "both", V.str "one", V.str "then", V.str "then"]) p_1 = none → Q (V.ref p_1) (upd (upd H1 p (.lst [V.str "both", V.str "one", V.str "then", V.str "then"])) p_1 (.tup [x_4, x, x_2]))) E0) E0) E0) E0 := by
    intro few f1 f2 r1 r2
    refine ⟨_, _, rfl, by decide, by decide, ?_⟩
    refine ⟨_, _, _, ws, rfl, mix_nn _ _, by omega, by omega, by omega, hS, hw, fun x H1 a e1 m1 => ?_⟩
    refine ⟨_, _, rfl, by decide, by decide, ?_⟩
    refine ⟨_, _, _, ws, rfl, mix_nn _ _, by omega, by omega, by omega, e1.seq hS, hw, fun y H2 b e2 m2 => ?_⟩
    refine ⟨by decide, fun p hp => ⟨by decide, _, .inl (.inl upd_same), _, at_kd4 (Int.emod_nonneg _ (by decide)) (Int.emod_lt_of_pos _ (by decide)), by decide, fun p1 hp1 => ?_⟩⟩
    have k3 : KeepT K H2 (upd H2 p (.lst [V.str "both", V.str "one", V.str "then", V.str "then"])) := keepT_new hp
    have m1' := m1.mono (e2.keepT.trans k3) (Nat.le_refl _) (Nat.le_refl _)
    have m2' := m2.mono k3 (Nat.le_refl _) (Nat.le_refl _)
    refine q _ _ _ (((e1.trans e2).trans (same_new hp _)).trans (same_new hp1 _)) ((made_nd m1' m2' hp1).mono (KeepT.refl _) (by omega) (by omega))
  refine ite2 (fun c3 => ?_) (fun c3 => ?_)
  · exact ⟨⟨by decide, by decide⟩, _, _, ws, rfl, hS, hw, fun r H' t e m => q r H' t e (m.mono (KeepT.refl _) (by omega) (by omega))⟩
  have d4 : CDiv c 4 := ⟨by decide, by decide⟩
  have b4 : CDiv (size - 1) 4 := ⟨by decide, by decide⟩
  have b2 : CDiv (size - 1) 2 := ⟨by decide, by decide⟩
  have small : size < 40 → ∀ m : Int, rk (1 + m % (size - 1 - 1)) < rk size ∧ rk (size - 1 - (1 + m % (size - 1 - 1))) < rk size ∧ 1 ≤ 1 + m % (size - 1 - 1) ∧ 1 + m % (size - 1 - 1) ≤ size - 2 := fun c40 m => by
    have b0 := Int.emod_nonneg m (show size - 1 - 1 ≠ 0 by omega)
    have b1 := Int.emod_lt_of_pos m (show 0 < size - 1 - 1 by omega)
    exact ⟨rk_less (by omega) c40 (by omega), rk_less (by omega) c40 (by omega), by omega, by omega⟩
  refine ite2 (fun c40 => ?_) (fun c40 => ?_)
  · refine ⟨d4, by decide, ite2 (fun c0 => ?_) (fun c0 => ?_)⟩
    · refine ⟨_, _, rfl, by decide, by decide, ?_⟩
      have r0 := rk_two (by omega) c40
      refine ⟨_, _, _, ws, rfl, mix_nn _ _, by omega, by omega, by omega, hS, hw, fun x H1 a e1 m1 => ?_⟩
      refine ⟨by decide, fun p hp => ⟨by decide, fun p1 hp1 => ?_⟩⟩
      have m1' := m1.mono (keepT_new (o := .tup [V.str "low"]) hp) (Nat.le_refl _) (Nat.le_refl _)
      refine q _ _ _ ((e1.trans (same_new hp _)).trans (same_new hp1 _)) ((made_nd (k := .thn) m1' (made_low ws hp) hp1).mono (KeepT.refl _) (by omega) (by omega))
    · refine ⟨_, _, rfl, by decide, by decide, _, rfl, by omega, ite2 (fun c41 => by omega) (fun c41 => ?_)⟩
      obtain ⟨r1, r2, f1, f2⟩ := small c40 (mix c 2)
      exact tail _ f1 f2 r1 r2
  · refine ⟨_, _, rfl, by decide, by decide, _, rfl, by omega, ite2 (fun c41 => ?_) (fun c41 => by omega)⟩
    refine ⟨b4, _, _, rfl, by decide, by decide, b2, _, rfl, by omega, ?_⟩
    have g0 := Int.emod_nonneg (mix c 2) (show (size - 1) / 2 ≠ 0 by omega)
    have g1 := Int.emod_lt_of_pos (mix c 2) (show 0 < (size - 1) / 2 by omega)
    exact tail _ (by omega) (by omega) (rk_big (by omega) h1 (by omega)) (rk_big (by omega) h1 (by omega))
theorem stm_zero {f : Addr} {fd : FuncData} {ps : List Str} {k : Nat} : FnOk P w K mg base CX0 k f fd ps (sp_stm K 0) := by
  have no : ∀ vs H Q E, ¬ sp_stm K 0 vs H Q E := fun vs H Q E h => by
    obtain ⟨c, size, wa, ws, _, _, _, _, hn, _⟩ := h
    exact absurd hn (Nat.not_lt_zero _)
  exact ⟨fun vs H Q E h => absurd h (no vs H Q E), fun A outer s H args us vs Q E _ _ _ _ h => absurd h (no vs H Q E)⟩
theorem all__law_statement {f__law_statement : Addr} {fd__law_statement : FuncData} (F__law_statement : Fun K "_law_statement" "_law_statement" s__law_statement f__law_statement fd__law_statement) (m__law_statement : mg "_law_statement" = some (.ref f__law_statement)) (b__law_statement : Binds K fd__law_statement ["_law_cell_here", "_law_size", "_law_words_here"] [])
    {f__law_mix : Addr} {fd__law_mix : FuncData} (G__law_mix : ∀ k, FnOk P w K mg base CX0 (k + 1) f__law_mix fd__law_mix ["_law_cell_here", "_law_k"] sp_mix) (m__law_mix : mg "_law_mix" = some (.ref f__law_mix)) (k__law_mix : PySem.W.keepIn K (.ref f__law_mix) = true) (b__law_mix : Binds K fd__law_mix ["_law_cell_here", "_law_k"] [])
    {f__law_leaf : Addr} {fd__law_leaf : FuncData} (G__law_leaf : ∀ k, FnOk P w K mg base CX0 (k + 1) f__law_leaf fd__law_leaf ["_law_cell_here", "_law_words_here"] (sp_leaf K)) (m__law_leaf : mg "_law_leaf" = some (.ref f__law_leaf)) (k__law_leaf : PySem.W.keepIn K (.ref f__law_leaf) = true) (b__law_leaf : Binds K fd__law_leaf ["_law_cell_here", "_law_words_here"] []) :
    ∀ n : Nat, FnOk P w K mg base CX0 (n + 1) f__law_statement fd__law_statement ["_law_cell_here", "_law_size", "_law_words_here"] (sp_stm K n)
  | 0 => stm_zero
  | n + 1 => ok__law_statement F__law_statement (all__law_statement F__law_statement m__law_statement b__law_statement G__law_mix m__law_mix k__law_mix b__law_mix G__law_leaf m__law_leaf k__law_leaf b__law_leaf n) m__law_statement F__law_statement.kp b__law_statement (G__law_mix n) m__law_mix k__law_mix b__law_mix (G__law_leaf n) m__law_leaf k__law_leaf b__law_leaf
theorem ok__law_drawn {k : Nat} {f__law_drawn : Addr} {fd__law_drawn : FuncData} (F__law_drawn : Fun K "_law_drawn" "_law_drawn" s__law_drawn f__law_drawn fd__law_drawn) {f__law_statement : Addr} {fd__law_statement : FuncData} (G__law_statement : FnOk P w K mg base CX0 k f__law_statement fd__law_statement ["_law_cell_here", "_law_size", "_law_words_here"] (sp_stm K 47)) (m__law_statement : mg "_law_statement" = some (.ref f__law_statement)) (k__law_statement : PySem.W.keepIn K (.ref f__law_statement) = true) (b__law_statement : Binds K fd__law_statement ["_law_cell_here", "_law_size", "_law_words_here"] []) {f__law_mix : Addr} {fd__law_mix : FuncData} (G__law_mix : FnOk P w K mg base CX0 k f__law_mix fd__law_mix ["_law_cell_here", "_law_k"] (sp_mix)) (m__law_mix : mg "_law_mix" = some (.ref f__law_mix)) (k__law_mix : PySem.W.keepIn K (.ref f__law_mix) = true) (b__law_mix : Binds K fd__law_mix ["_law_cell_here", "_law_k"] []) {f__law_comb : Addr} {fd__law_comb : FuncData} (G__law_comb : FnOk P w K mg base CX0 k f__law_comb fd__law_comb ["_law_cell_here", "_law_many", "_law_words_here"] (sp_comb K)) (m__law_comb : mg "_law_comb" = some (.ref f__law_comb)) (k__law_comb : PySem.W.keepIn K (.ref f__law_comb) = true) (b__law_comb : Binds K fd__law_comb ["_law_cell_here", "_law_many", "_law_words_here"] []) : FnOk P w K mg base CX0 (k + 1) f__law_drawn fd__law_drawn ["_law_cell_here", "_law_most", "_law_words_here"] (sp_drawn K) := by
  refine F__law_drawn.ok sc__law_drawn (fun vs H Q E h => ?_) (fun cdv A outer s H vs Q E hr h => ?_)
  · obtain ⟨c, size, wa, ws, rfl, _⟩ := h
    rfl
  obtain ⟨c, most, wa, ws, rfl, hc0, h0, h1, hS, hw, q⟩ := h
  refine ⟨_, (pss_cons (ps_set (i := 3) sc__law_drawn.nd rfl (Or.inl rfl) (pe_op op_mod (pv 0) pe_int))
  (pss_cons (ps_if (pt_cmpR (op_eq) (pv 3) pe_int (nomark _))
    (pss_one (ps_ret (pe_call G__law_comb hr (by exact rfl) m__law_comb k__law_comb b__law_comb .nil pass0 (pa_cons (pe_call G__law_mix hr (by exact rfl) m__law_mix k__law_mix b__law_mix .nil pass0 (pa_cons (pv 0) (pa_cons pe_int pa_nil))) (pa_cons (pe_op op_mod (pe_op op_fdiv (pv 0) pe_int) (pv 1)) (pa_cons (pv 2) pa_nil))))))
    pss_nil)
  (pss_cons (ps_if (pt_cmpR (op_eq) (pv 3) pe_int (nomark _))
    (pss_one (ps_ret (pe_call G__law_statement hr (by exact rfl) m__law_statement k__law_statement b__law_statement .nil pass0 (pa_cons (pe_call G__law_mix hr (by exact rfl) m__law_mix k__law_mix b__law_mix .nil pass0 (pa_cons (pv 0) (pa_cons pe_int pa_nil))) (pa_cons (pe_op op_add pe_int (pe_op op_mod (pe_op op_fdiv (pv 0) pe_int) pe_int)) (pa_cons (pv 2) pa_nil))))))
    pss_nil)
  (pss_cons (ps_if (pt_cmpR (op_eq) (pv 3) pe_int (nomark _))
    (pss_one (ps_ret (pe_call G__law_statement hr (by exact rfl) m__law_statement k__law_statement b__law_statement .nil pass0 (pa_cons (pe_call G__law_mix hr (by exact rfl) m__law_mix k__law_mix b__law_mix .nil pass0 (pa_cons (pv 0) (pa_cons pe_int pa_nil))) (pa_cons (pe_op op_add pe_int (pe_op op_mod (pe_op op_fdiv (pv 0) pe_int) pe_int)) (pa_cons (pv 2) pa_nil))))))
    pss_nil)
  (pss_one (ps_ret (pe_call G__law_statement hr (by exact rfl) m__law_statement k__law_statement b__law_statement .nil pass0 (pa_cons (pe_call G__law_mix hr (by exact rfl) m__law_mix k__law_mix b__law_mix .nil pass0 (pa_cons (pv 0) (pa_cons pe_int pa_nil))) (pa_cons (pe_op op_add pe_int (pe_op op_mod (pe_op op_fdiv (pv 0) pe_int) pe_int)) (pa_cons (pv 2) pa_nil)))))))))), ?_⟩
  walk_at "rdx_1"
  have d4 : CDiv c 4 := ⟨by decide, by decide⟩
  refine ⟨by decide, ite2 (fun _ => ?_) (fun _ => ite2 (fun _ => ?_) (fun _ => ite2 (fun _ => ?_) (fun _ => ?_)))⟩
  · refine ⟨_, _, rfl, by decide, by decide, d4, by omega, ?_⟩
    have b0 := Int.emod_nonneg (c / 4) (show most ≠ 0 by omega)
    have b1 := Int.emod_lt_of_pos (c / 4) (show 0 < most by omega)
    exact ⟨_, _, _, ws, rfl, mix_nn _ _, b0, by omega, hS, hw, fun r H' t e m => q r H' t e (m.mono (KeepT.refl _) (by omega) (by omega))⟩
  all_goals
    refine ⟨_, _, rfl, by decide, by decide, d4, by decide, ?_⟩
    refine ⟨_, _, _, ws, rfl, mix_nn _ _, by omega, by omega, Nat.lt_succ_of_le (rk_le _), hS, hw, fun r H' t e m => q r H' t e (m.mono (KeepT.refl _) (by omega) ?_)⟩
    have := rk_le (1 + c / 4 % 9)
    have := rk_le (1 + c / 4 % 60)
    have := rk_le (1 + c / 4 % 300)
    omega
end
set_option Elab.async false
set_option linter.all false
set_option maxRecDepth 100000
set_option maxHeartbeats 4000000
section
variable {P : Program} {w : World} {K : PySem.W.Frag} {mg : Str → Option Value} {base : Heap}
theorem ok__law_words {k : Nat} {f__law_words : Addr} {fd__law_words : FuncData} (F__law_words : Fun K "_law_words" "_law_words" s__law_words f__law_words fd__law_words) (m_range : mg "range" = none) : FnOk P w K mg base CX0 (k + 1) f__law_words fd__law_words ["_law_cell_here", "_law_many"] sp_words := by
  refine F__law_words.ok sc__law_words (fun vs H Q E h => ?_) (fun cdv A outer s H vs Q E hr h => ?_)
  · obtain ⟨c, m, rfl, _⟩ := h
    rfl
  obtain ⟨c, m, rfl, hc0, h0, h1, q⟩ := h
  refine ⟨_, (pss_cons (ps_set (i := 2) sc__law_words.nd rfl (Or.inl rfl) (pe_lst (pa_cons pe_str (pa_cons pe_str (pa_cons pe_str (pa_cons pe_str (pa_cons pe_str (pa_cons pe_str pa_nil))))))))
  (pss_cons (ps_if (pt_cmpR (op_eq) (pe_op op_mod (pv 0) pe_int) pe_int (nomark _))
    (pss_one (ps_setLC (i := 2) sc__law_words.nd rfl (Or.inl rfl) (blk0 (N' := ["_law_k"]) (by decide +kernel) (by decide +kernel) rfl (by decide +kernel)) rfl (pi_range1 rfl m_range (pa_cons pe_int pa_nil)) (fun _ _ _ _ => (pg_name (i := 0) (show (["_law_k"] : List Str).Nodup from by decide +kernel) rfl (Or.inl rfl))) (fun _ _ _ _ => (pe_op op_mulS pe_str (pe_op op_add pe_int (pv 0)))) rfl))
    pss_nil)
  (pss_cons (ps_if (pt_cmpR (op_eq) (pe_op op_mod (pv 0) pe_int) pe_int (nomark _))
    (pss_cons (ps_set (i := 3) sc__law_words.nd rfl (Or.inr rfl) (pe_op op_add pe_int (pe_op op_mod (pe_op op_fdiv (pv 0) pe_int) pe_int)))
  (pss_cons (ps_set (i := 4) sc__law_words.nd rfl (Or.inr rfl) (pe_op op_mod (pe_op op_fdiv (pv 0) pe_int) (pv 3)))
  (pss_one (ps_setLC (i := 2) sc__law_words.nd rfl (Or.inl rfl) (blkC (N' := ["_law_k", "_law_at", "_law_size"]) (nt := 1) (ci := [4, 3]) ["_law_cell_here", "_law_many", "_law_some", "_law_size", "_law_at", "_law_start"] (defScope s__law_words) rfl rfl (by decide +kernel) rfl (by decide +kernel) (by decide +kernel) rfl (by decide +kernel)) rfl (pi_range1 rfl m_range (pa_cons pe_int pa_nil)) (fun _ _ _ _ => (pg_name (i := 0) (show (["_law_k", "_law_at", "_law_size"] : List Str).Nodup from by decide +kernel) rfl (Or.inl rfl))) (fun _ _ _ _ => (pe_op op_add_str (pe_op op_add_str (pe_op op_mulS pe_str (pv 1)) (pe_ix ix_str pe_str (pv 0) (fun _ _ => rfl))) (pe_op op_mulS pe_str (pe_op op_sub (pe_op op_sub (pv 2) pe_int) (pv 1))))) rfl))))
    pss_nil)
  (pss_cons (ps_if (pt_cmpR (op_eq) (pe_op op_mod (pv 0) pe_int) pe_int (nomark _))
    (pss_one (ps_set (i := 2) sc__law_words.nd rfl (Or.inl rfl) (pe_lst (pa_cons pe_str (pa_cons pe_str (pa_cons pe_str (pa_cons pe_str (pa_cons pe_str (pa_cons pe_str pa_nil)))))))))
    pss_nil)
  (pss_cons (ps_set (i := 5) sc__law_words.nd rfl (Or.inl rfl) (pe_op op_mod (pe_op op_fdiv (pv 0) pe_int) pe_int))
  (pss_one (ps_ret (pe_slice sl_list (pe_op op_cat (pe_slice sl_list (pv 2) (po_some (pv 5)) po_none) (pe_slice sl_list (pv 2) po_none (po_some (pv 5)))) po_none (po_some (pv 1)))))))))), ?_⟩
  have lit : ∀ (ws : List Str) (H1 : Hp) (p : Addr), Same H H1 → H1 p = none → ws.length = 6 → (ws.all wordB) = true → Six H (upd H1 p (.lst (ws.map V.str))) p ws := fun ws H1 p e hp hl hw =>
    ⟨e.trans (same_new hp _), e.free hp, upd_same, hl, fun x hx => word_of (List.all_eq_true.mp hw x hx)⟩
  refine seq_then (fun σ' H' => ∃ p ws x3 x4, σ' = [some (.int c), some (.int m), some (.ref p), x3, x4, none] ∧ Six H H' p ws) ?_ ?_
  rotate_left
  · intro C hC
    walk_at "rdx_1"
    exact ⟨by decide, fun p hp => hC _ _ ⟨p, ["a", "b", "c", "d", "e", "f"], none, none, rfl, lit ["a", "b", "c", "d", "e", "f"] H p (Same.refl H) hp rfl (by decide +kernel)⟩⟩
  rintro σ1 H1 ⟨p1, w1, x3, x4, rfl, S1⟩
  refine seq_then (fun σ' H' => ∃ p ws x3 x4, σ' = [some (.int c), some (.int m), some (.ref p), x3, x4, none] ∧ Six H H' p ws) ?_ ?_
  rotate_left
  · intro C hC
    walk_at "rdx_1"
    refine ⟨by decide, ite2 (fun _ => ?_) (fun _ => hC _ _ ⟨p1, w1, x3, x4, rfl, S1⟩)⟩
    unfold tLC
    walk_at "rdx_1"
    refine ⟨by decide, by decide, fun acc hacc => ?_⟩
    refine lcW_range (n := 6) (lo := 0) (fun i ys H2 => H2 = upd H1 acc (.lst ys) ∧ ∃ ws, ys = ws.map V.str ∧ ws.length = i ∧ ∀ x ∈ ws, Word x) ⟨rfl, [], rfl, rfl, by simp⟩ (fun i ys H2 hi ⟨e, ws, e2, e3, _⟩ => ?_) (fun i ys H2 hi ⟨e, ws, e2, e3, e4⟩ C' hC' => ?_) (fun ys H2 ⟨e, ws, e2, e3, e4⟩ => ?_)
    · subst e; subst e2
      refine ⟨upd_same, ?_⟩
      rw [List.length_map, e3]; exact small1000 (by omega)
    · subst e; subst e2
      walk_at "rdx_1"
      refine ⟨wk_head, by decide, by omega, by omega, ?_⟩
      refine hC' _ _ upd_same ⟨by rw [upd_upd], ws ++ [Txt.mul "k" (1 + (0 + (i : Int)))], by rw [List.map_append]; rfl, by rw [List.length_append, e3]; rfl, fun x hx => ?_⟩
      rcases List.mem_append.mp hx with z | z
      · exact e4 x z
      · have z' : x = Txt.mul "k" (1 + (0 + (i : Int))) := by simpa using z
        rw [z']
        exact word_mul (c := 107) (by decide) (by decide) (by omega) (by omega)
    · subst e; subst e2
      exact hC _ _ ⟨acc, ws, x3, x4, rfl, S1.1.trans (same_new hacc _), S1.1.free hacc, upd_same, e3, e4⟩
  rintro σ2 H2 ⟨p2, w2, x3, x4, rfl, S2⟩
  refine seq_then (fun σ' H' => ∃ p ws x3 x4, σ' = [some (.int c), some (.int m), some (.ref p), x3, x4, none] ∧ Six H H' p ws) ?_ ?_
  rotate_left
  · intro C hC
    walk_at "rdx_1"
    refine ⟨by decide, ite2 (fun _ => ?_) (fun _ => hC _ _ ⟨p2, w2, x3, x4, rfl, S2⟩)⟩
    refine ⟨⟨by decide, by decide⟩, by decide, ⟨by decide, by decide⟩, by omega, ?_⟩
    unfold tLC
    walk_at "rdx_1"
    refine ⟨by decide, by decide, fun acc hacc => ?_⟩
    have a0 := Int.emod_nonneg (c / 32) (show 1 + c / 4 % 8 ≠ 0 by omega)
    have a1 := Int.emod_lt_of_pos (c / 32) (show 0 < 1 + c / 4 % 8 by omega)
    generalize ea : c / 32 % (1 + c / 4 % 8) = at' at a0 a1 ⊢
    generalize es : 1 + c / 4 % 8 = size at a1 ⊢
    have hs8 : size ≤ 8 := by omega
    refine lcW_range (n := 6) (lo := 0) (fun i ys H3 => H3 = upd H2 acc (.lst ys) ∧ ∃ ws, ys = ws.map V.str ∧ ws.length = i ∧ ∀ x ∈ ws, Word x) ⟨rfl, [], rfl, rfl, by simp⟩ (fun i ys H3 hi ⟨e, ws, e2, e3, _⟩ => ?_) (fun i ys H3 hi ⟨e, ws, e2, e3, e4⟩ C' hC' => ?_) (fun ys H3 ⟨e, ws, e2, e3, e4⟩ => ?_)
    · subst e; subst e2
      refine ⟨upd_same, ?_⟩
      rw [List.length_map, e3]; exact small1000 (by omega)
    · subst e; subst e2
      walk_at "rdx_1"
      have hcd : ∃ d : Nat, atI ("aghmxz" : Str).cps.toList (0 + (i : Int)) = some d ∧ 97 ≤ d ∧ d ≤ 122 := by
        have : i = 0 ∨ i = 1 ∨ i = 2 ∨ i = 3 ∨ i = 4 ∨ i = 5 := by omega
        rcases this with rfl | rfl | rfl | rfl | rfl | rfl
        · exact ⟨97, rfl, by decide, by decide⟩
        · exact ⟨103, rfl, by decide, by decide⟩
        · exact ⟨104, rfl, by decide, by decide⟩
        · exact ⟨109, rfl, by decide, by decide⟩
        · exact ⟨120, rfl, by decide, by decide⟩
        · exact ⟨122, rfl, by decide, by decide⟩
      obtain ⟨d, hd, d1, d2⟩ := hcd
      have l1 : (Txt.mul "m" at').length ≤ 8 := by rw [show ("m" : Str) = ⟨#[109]⟩ from rfl, mul_len]; omega
      have l2 : (Txt.mul "m" (size - 1 - at')).length ≤ 8 := by rw [show ("m" : Str) = ⟨#[109]⟩ from rfl, mul_len]; omega
      have l3 : (⟨#[d]⟩ : Str).length = 1 := rfl
      have l4 : (Txt.mul "m" at' ++ (⟨#[d]⟩ : Str)).length ≤ 9 := by rw [strLen_append]; omega
      refine ⟨wk_head, by decide, by omega, by omega, by decide, d, hd, ?_, by decide, by omega, by omega, ?_, ?_⟩
      · exact Nat.le_of_lt (small1000 (by omega))
      · exact Nat.le_of_lt (small1000 (by omega))
      refine hC' _ _ upd_same ⟨by rw [upd_upd], ws ++ [Txt.mul "m" at' ++ (⟨#[d]⟩ : Str) ++ Txt.mul "m" (size - 1 - at')], by rw [List.map_append]; rfl, by rw [List.length_append, e3]; rfl, fun x hx => ?_⟩
      rcases List.mem_append.mp hx with z | z
      · exact e4 x z
      · have z' : x = Txt.mul "m" at' ++ (⟨#[d]⟩ : Str) ++ Txt.mul "m" (size - 1 - at') := by simpa using z
        rw [z']
        exact word_mid (c := 109) (by decide) (by decide) d1 d2 (by omega) (by omega) (by omega)
    · subst e; subst e2
      exact hC _ _ ⟨acc, ws, _, _, rfl, S2.1.trans (same_new hacc _), S2.1.free hacc, upd_same, e3, e4⟩
  rintro σ3 H3 ⟨p3, w3, x3, x4, rfl, S3⟩
  refine seq_then (fun σ' H' => ∃ p ws x3 x4, σ' = [some (.int c), some (.int m), some (.ref p), x3, x4, none] ∧ Six H H' p ws) ?_ ?_
  rotate_left
  · intro C hC
    walk_at "rdx_1"
    refine ⟨by decide, ite2 (fun _ => ?_) (fun _ => hC _ _ ⟨p3, w3, x3, x4, rfl, S3⟩)⟩
    exact ⟨by decide, fun p hp => hC _ _ ⟨p, ["low", "one", "both", "then", "letter", "lows"], _, _, rfl, lit ["low", "one", "both", "then", "letter", "lows"] H3 p S3.1 hp rfl (by decide +kernel)⟩⟩
  rintro σ4 H4 ⟨p4, w4, x3, x4, rfl, S4⟩
  walk_at "rdx_1"
  have b0 := Int.emod_nonneg (c / 256) (show (6 : Int) ≠ 0 by decide)
  have b1 := Int.emod_lt_of_pos (c / 256) (show (0 : Int) < 6 by decide)
  generalize c / 256 % 6 = st at b0 b1 ⊢
  obtain ⟨e4, f4, h4, l4, o4⟩ := S4
  refine ⟨⟨by decide, by decide⟩, by decide, w4.map V.str, .inl (.inl h4), fun q1 hq1 => ⟨w4.map V.str, ?_, fun q2 hq2 => ?_⟩⟩
  · exact sqL_ne (.inl (.inl h4)) (ne_of_none h4 hq1)
  have n21 : q2 ≠ q1 := fun z => by subst z; rw [upd_same] at hq2; cases hq2
  refine ⟨cutV (w4.map V.str) (some st) none, ?_, cutV (w4.map V.str) none (some st), upd_same, ?_, fun q3 hq3 => ⟨_, .inl (.inl upd_same), fun q4 hq4 => ?_⟩⟩
  · rw [upd_ne (Ne.symm n21), upd_same]
  · have z1 := cutV_length (w4.map V.str) (some st) none
    have z2 := cutV_length (w4.map V.str) none (some st)
    rw [List.length_map] at z1 z2
    exact Nat.le_of_lt (small1000 (by omega))
  rw [cut_map, cut_map, ← List.map_append] at hq4 ⊢
  rw [cut_map]
  have e3' : Same H4 (upd (upd (upd H4 q1 (.lst (cutV (w4.map V.str) (some st) none))) q2 (.lst (cutV (w4.map V.str) none (some st)))) q3 (.lst (cutV (w4.map V.str) (some st) none ++ cutV (w4.map V.str) none (some st)))) := ((same_new hq1 _).trans (same_new hq2 _)).trans (same_new hq3 _)
  rw [cut_map, cut_map, ← List.map_append] at e3'
  have eA := e4.trans e3'
  have hst : st = ((st.toNat : Nat) : Int) := by omega
  have hm : m = ((m.toNat : Nat) : Int) := by omega
  refine q _ _ _ (eA.trans (same_new hq4 _)) (eA.free hq4) upd_same ⟨?_, ?_, fun x hx => ?_⟩
  · rw [hst, hm]
    simp only [List.length_take, List.length_drop, List.length_append, HT.sIx_nat, HT.sIx_none, l4]
    omega
  · rw [hst, hm]
    simp only [List.length_take, List.length_drop, List.length_append, HT.sIx_nat, HT.sIx_none, l4]
    omega
  · have hx1 := List.mem_of_mem_drop (List.mem_of_mem_take hx)
    rcases List.mem_append.mp hx1 with z | z
    · exact o4 x (List.mem_of_mem_drop (List.mem_of_mem_take z))
    · exact o4 x (List.mem_of_mem_drop (List.mem_of_mem_take z))
end
set_option Elab.async false
set_option linter.all false
set_option maxRecDepth 100000
set_option maxHeartbeats 4000000
section
variable {P : Program} {w : World} {K : PySem.W.Frag} {mg : Str → Option Value} {base : Heap}
theorem ok__law_comb {k : Nat} {f__law_comb : Addr} {fd__law_comb : FuncData} (F__law_comb : Fun K "_law_comb" "_law_comb" s__law_comb f__law_comb fd__law_comb) {f__law_mix : Addr} {fd__law_mix : FuncData} (G__law_mix : FnOk P w K mg base CX0 k f__law_mix fd__law_mix ["_law_cell_here", "_law_k"] (sp_mix)) (m__law_mix : mg "_law_mix" = some (.ref f__law_mix)) (k__law_mix : PySem.W.keepIn K (.ref f__law_mix) = true) (b__law_mix : Binds K fd__law_mix ["_law_cell_here", "_law_k"] []) {f__law_leaf : Addr} {fd__law_leaf : FuncData} (G__law_leaf : FnOk P w K mg base CX0 k f__law_leaf fd__law_leaf ["_law_cell_here", "_law_words_here"] (sp_leaf K)) (m__law_leaf : mg "_law_leaf" = some (.ref f__law_leaf)) (k__law_leaf : PySem.W.keepIn K (.ref f__law_leaf) = true) (b__law_leaf : Binds K fd__law_leaf ["_law_cell_here", "_law_words_here"] []) (m_range : mg "range" = none) : FnOk P w K mg base CX0 (k + 1) f__law_comb fd__law_comb ["_law_cell_here", "_law_many", "_law_words_here"] (sp_comb K) := by
  refine F__law_comb.ok sc__law_comb (fun vs H Q E h => ?_) (fun cdv A outer s H vs Q E hr h => ?_)
  · obtain ⟨c, size, wa, ws, rfl, _⟩ := h
    rfl
  obtain ⟨c, many, wa, ws, rfl, hc0, h0, h1, hS, hw, q⟩ := h
  refine ⟨_, (pss_cons (ps_set (i := 3) sc__law_comb.nd rfl (Or.inl rfl) (pe_call G__law_leaf hr (by exact rfl) m__law_leaf k__law_leaf b__law_leaf .nil pass0 (pa_cons (pv 0) (pa_cons (pv 2) pa_nil))))
  (pss_cons (ps_for PassesOwn.never rfl (pi_range1 rfl m_range (pa_cons (pv 1) pa_nil)) (pg_name (i := 4) sc__law_comb.nd rfl (Or.inl rfl))
    (pss_cons (ps_set (i := 5) sc__law_comb.nd rfl (Or.inl rfl) (pe_call G__law_mix hr (by exact rfl) m__law_mix k__law_mix b__law_mix .nil pass0 (pa_cons (pv 0) (pa_cons (pe_op op_add pe_int (pv 4)) pa_nil))))
  (pss_cons (ps_set (i := 6) sc__law_comb.nd rfl (Or.inl rfl) (pe_ix ix_list (pe_lst (pa_cons pe_str (pa_cons pe_str (pa_cons pe_str (pa_cons pe_str pa_nil))))) (pe_op op_mod (pv 5) pe_int) (fun _ _ => rfl)))
  (pss_cons (ps_set (i := 7) sc__law_comb.nd rfl (Or.inl rfl) (pe_call G__law_leaf hr (by exact rfl) m__law_leaf k__law_leaf b__law_leaf .nil pass0 (pa_cons (pe_op op_fdiv (pv 5) pe_int) (pa_cons (pv 2) pa_nil))))
  (pss_one (ps_set (i := 3) sc__law_comb.nd rfl (Or.inl rfl) (pe_ix ix_list (pe_lst (pa_cons (pe_tup (pa_cons (pv 6) (pa_cons (pv 3) (pa_cons (pv 7) pa_nil)))) (pa_cons (pe_tup (pa_cons (pv 6) (pa_cons (pv 7) (pa_cons (pv 3) pa_nil)))) (pa_cons (pe_tup (pa_cons pe_str (pa_cons (pv 3) (pa_cons (pe_tup (pa_cons pe_str pa_nil)) pa_nil)))) pa_nil)))) (pe_op op_mod (pe_op op_fdiv (pv 5) pe_int) pe_int) (fun _ _ => rfl))))))))
  (pss_one (ps_ret (pv 3))))), ?_⟩
  refine seq_then (fun σ' H' => ∃ v t, σ' = [some (.int c), some (.int many), some (.ref wa), some v, none, none, none, none] ∧ Same H H' ∧ Made K H' ws 1 1 v t) ?_ ?_
  rotate_left
  · intro C hC
    walk_at "rdx_1"
    exact ⟨_, _, ws, rfl, hS, hw, fun r H' t e m => hC _ _ ⟨r, t, rfl, e, m⟩⟩
  rintro σ1 H1 ⟨v1, t1, rfl, e1, m1⟩
  refine seq_then (fun σ' H' => ∃ v t x4 x5 x6 x7, σ' = [some (.int c), some (.int many), some (.ref wa), some v, x4, x5, x6, x7] ∧ Same H H' ∧ Made K H' ws (1 + 2 * many.toNat) (1 + many.toNat) v t) ?_ ?_
  rotate_left
  · intro C hC
    refine ⟨_, rfl, many, rfl, by omega, by omega, ?_⟩
    refine for_range (n := many.toNat) (lo := 0) (fun i σ' H' => ∃ v t x4 x5 x6 x7, σ' = [some (.int c), some (.int many), some (.ref wa), some v, x4, x5, x6, x7] ∧ Same H H' ∧ Made K H' ws (1 + 2 * i) (1 + i) v t) ⟨v1, t1, none, none, none, none, rfl, e1, m1⟩ (fun i σ' H' hi hp => ?_) (fun σ' H' hp => hC _ _ hp)
    obtain ⟨v, t, x4, x5, x6, x7, rfl, e, m⟩ := hp
    walk_at "rdx_1"
    refine ⟨_, _, rfl, by omega, by omega, by decide, fun p hp => ⟨_, rfl, by decide, _, .inl (.inl upd_same), _, at_kd4 (Int.emod_nonneg _ (by decide)) (Int.emod_lt_of_pos _ (by decide)), _, rfl, ⟨by decide, by decide⟩, ?_⟩⟩
    generalize kd4 (mix c (10 + (0 + (i : Int))) % 4) = kd
    refine ⟨_, _, ws, rfl, (same_new hp _).seq (e.seq hS), hw, fun y H2 b e2 m2 => ?_⟩
    refine ⟨by decide, fun q1 h1 => ⟨by decide, fun q2 h2 => ⟨by decide, fun q3 h3 => ⟨by decide, fun q4 h4 => ⟨by decide, fun q5 h5 => ?_⟩⟩⟩⟩⟩
    have m' : Made K H2 ws (1 + 2 * i) (1 + i) v t := m.mono ((keepT_new hp).trans e2.keepT) (Nat.le_refl _) (Nat.le_refl _)
    have M1 := made_nd (k := kd) m' m2 h1
    have M2 := made_nd (k := kd) (m2.mono (keepT_new (o := .tup [.str kd.str, v, y]) h1) (Nat.le_refl _) (Nat.le_refl _)) (m'.mono (keepT_new (o := .tup [.str kd.str, v, y]) h1) (Nat.le_refl _) (Nat.le_refl _)) h2
    have M3 := made_low (K := K) ws h3
    have k13 : KeepT K H2 (upd (upd (upd H2 q1 (.tup [.str kd.str, v, y])) q2 (.tup [.str kd.str, y, v])) q3 (.tup [.str "low"])) := ((keepT_new h1).trans (keepT_new h2)).trans (keepT_new h3)
    have M4 := made_nd (k := .thn) (m'.mono k13 (Nat.le_refl _) (Nat.le_refl _)) M3 h4
    have S5 := ((((same_new h1 (.tup [.str kd.str, v, y])).trans (same_new h2 (.tup [.str kd.str, y, v]))).trans (same_new h3 (.tup [.str "low"]))).trans (same_new h4 (.tup [.str Kd.thn.str, v, .ref q3])))
    have EE := (e.trans (same_new hp _)).trans e2
    have fin := (EE.trans S5).trans (same_new h5 (.lst [.ref q1, .ref q2, .ref q4]))
    refine ⟨_, rfl, ⟨by decide, by decide⟩, by decide, _, .inl (.inl upd_same), ?_⟩
    have b0 := Int.emod_nonneg (mix c (10 + (0 + (i : Int))) / 4) (show (3 : Int) ≠ 0 by decide)
    have b1 := Int.emod_lt_of_pos (mix c (10 + (0 + (i : Int))) / 4) (show (0 : Int) < 3 by decide)
    generalize mix c (10 + (0 + (i : Int))) / 4 % 3 = j3 at b0 b1 ⊢
    have : j3 = 0 ∨ j3 = 1 ∨ j3 = 2 := by omega
    rcases this with rfl | rfl | rfl
    · exact ⟨_, rfl, fin, _, M1.mono ((((keepT_new h2).trans (keepT_new h3)).trans (keepT_new h4)).trans (keepT_new h5)) (by omega) (by omega)⟩
    · exact ⟨_, rfl, fin, _, M2.mono (((keepT_new h3).trans (keepT_new h4)).trans (keepT_new h5)) (by omega) (by omega)⟩
    · exact ⟨_, rfl, fin, _, M4.mono (keepT_new h5) (by omega) (by omega)⟩
  rintro σ2 H2 ⟨v, t, x4, x5, x6, x7, rfl, e, m⟩
  walk_at "rdx_1"
  exact q _ _ _ e m
end
set_option Elab.async false
set_option linter.all false
set_option maxRecDepth 100000
set_option maxHeartbeats 4000000
noncomputable abbrev s__law_written : Stmt := top 34
theorem sc__law_written : FnScope ["_law_statement_here", "_law_cell_here", "_law_signs", "_law_found", "_law_todo", "_law_here"] ["_law_statement_here", "_law_cell_here"] (defScope s__law_written) := ⟨rfl, rfl, rfl, by decide +kernel, rfl, by decide +kernel, by decide +kernel⟩
section
variable {P : Program} {w : World} {K : PySem.W.Frag} {mg : Str → Option Value} {base : Heap}
theorem ok__law_written {k : Nat} {f__law_written : Addr} {fd__law_written : FuncData} (F__law_written : Fun K "_law_written" "_law_written" s__law_written f__law_written fd__law_written) {f__law_mix : Addr} {fd__law_mix : FuncData} (G__law_mix : FnOk P w K mg base CX0 k f__law_mix fd__law_mix ["_law_cell_here", "_law_k"] (sp_mix)) (m__law_mix : mg "_law_mix" = some (.ref f__law_mix)) (k__law_mix : PySem.W.keepIn K (.ref f__law_mix) = true) (b__law_mix : Binds K fd__law_mix ["_law_cell_here", "_law_k"] []) (m_isinstance : mg "isinstance" = none) (m_str : mg "str" = none) (m_len : mg "len" = none) : FnOk P w K mg base CX0 (k + 1) f__law_written fd__law_written ["_law_statement_here", "_law_cell_here"] (sp_written K) := by
  refine F__law_written.ok sc__law_written (fun vs H Q E h => ?_) (fun cdv A outer s H vs Q E hr h => ?_)
  · obtain ⟨v, t, c, rfl, _⟩ := h
    rfl
  obtain ⟨v, T, c, rfl, hT, ho, hp, q⟩ := h
  refine ⟨_, (pss_cons (ps_set (i := 2) sc__law_written.nd rfl (Or.inl rfl) (pe_disp (pps_cons pe_str pe_str (pps_cons pe_str pe_str (pps_cons pe_str pe_str pps_nil))) rfl rfl (by simp) (by decide)))
  (pss_cons (ps_set (i := 3) sc__law_written.nd rfl (Or.inl rfl) (pe_lst pa_nil))
  (pss_cons (ps_set (i := 4) sc__law_written.nd rfl (Or.inl rfl) (pe_lst (pa_cons (pv 0) pa_nil)))
  (pss_cons (ps_while PassesOwn.never (pt_cmpR (op_neD (hu_150 hr)) (pv 4) (pe_lst pa_nil) (nomark _))
    (pss_cons (ps_set (i := 5) sc__law_written.nd rfl (Or.inl rfl) (pe_bm0 PySem.F.plainAttrs_list PySem.F.slot_list_pop PySem.F.type_list_pop mt_pop (pv 4)))
  (pss_one (ps_if (pt_val (pe_callB call_isi (by exact rfl) m_isinstance Ken.boot_isinstance (pa_cons (pv 5) (pa_cons (pe_bltn (v := .ty "str") (by exact rfl) m_str Ken.boot_str (by exact rfl)) pa_nil))))
    (pss_one (ps_expr (pe_bm PySem.F.plainAttrs_list PySem.F.slot_list_append PySem.F.type_list_append mt_append (pv 3) (pa_cons (pv 5) pa_nil))))
    (pss_one (ps_if (pt_cmpR (op_eq) (pe_ix ix_tup (pv 5) pe_int (fun _ _ => rfl)) pe_str (nomark _))
    (pss_one (ps_expr (pe_bm PySem.F.plainAttrs_list PySem.F.slot_list_append PySem.F.type_list_append mt_append (pv 3) (pa_cons pe_str pa_nil))))
    (pss_one (ps_if (pt_cmpR (op_eq) (pe_ix ix_tup (pv 5) pe_int (fun _ _ => rfl)) pe_str (nomark _))
    (pss_one (ps_expr (pe_bm PySem.F.plainAttrs_list PySem.F.slot_list_append PySem.F.type_list_append mt_append (pv 3) (pa_cons (pe_ix ix_tup (pv 5) pe_int (fun _ _ => rfl)) pa_nil))))
    (pss_one (ps_if ((pw_and (pt_cmpR (op_eq) (pe_ix ix_tup (pv 5) pe_int (fun _ _ => rfl)) pe_str (nomark _)) (pw_and (pt_cmpR (op_eqD (hu_150 hr)) (pe_ix ix_tup (pv 5) pe_int (fun _ _ => rfl)) (pe_tup (pa_cons pe_str pa_nil)) (nomark _)) (pw_and1 (pt_cmpR (op_gt) (pe_op op_mod (pe_call G__law_mix hr (by exact rfl) m__law_mix k__law_mix b__law_mix .nil pass0 (pa_cons (pv 1) (pa_cons (pe_callB call_len_seq (by exact rfl) m_len Ken.boot_len (pa_cons (pv 3) pa_nil)) pa_nil))) pe_int) pe_int (nomark _)))))).pt
    (pss_cons (ps_expr (pe_bm PySem.F.plainAttrs_list PySem.F.slot_list_append PySem.F.type_list_append mt_append (pv 3) (pa_cons pe_str pa_nil)))
  (pss_one (ps_expr (pe_bm PySem.F.plainAttrs_list PySem.F.slot_list_append PySem.F.type_list_append mt_append (pv 4) (pa_cons (pe_ix ix_tup (pv 5) pe_int (fun _ _ => rfl)) pa_nil)))))
    (pss_cons (ps_expr (pe_bm PySem.F.plainAttrs_list PySem.F.slot_list_append PySem.F.type_list_append mt_append (pv 3) (pa_cons pe_str pa_nil)))
  (pss_one (ps_expr (pe_bm PySem.F.plainAttrs_list PySem.F.slot_list_extend PySem.F.type_list_extend mt_extend (pv 4) (pa_cons (pe_lst (pa_cons pe_str (pa_cons (pe_ix ix_tup (pv 5) pe_int (fun _ _ => rfl)) (pa_cons (pe_dget (hu_of hr) (pv 2) (pe_ix ix_tup (pv 5) pe_int (fun _ _ => rfl)) (fun _ _ => rfl)) (pa_cons (pe_ix ix_tup (pv 5) pe_int (fun _ _ => rfl)) pa_nil))))) pa_nil)))))))))))))))
  (pss_one (ps_ret (pe_bm PySem.F.plainAttrs_str PySem.F.slot_str_join PySem.F.type_str_join mt_join pe_str (pa_cons (pv 3) pa_nil)))))))), ?_⟩
  walk_at "rdx_1"
  refine fun ld hld => ?_
  refine ⟨upd_same, [(Sum.inr "both", .str " & "), (Sum.inr "one", .str " | "), (Sum.inr "then", .str " > ")], rfl, by decide, by decide, fun lf hlf => ⟨by decide, fun lt hlt => ?_⟩⟩
  have S1 : Same H (upd (upd H ld (.dK [])) ld (.dK (mergeK [] [(Sum.inr "both", .str " & "), (Sum.inr "one", .str " | "), (Sum.inr "then", .str " > ")]))) := (same_new hld _).write hld
  have d1 : upd (upd H ld (.dK [])) ld (.dK (mergeK [] [(Sum.inr "both", .str " & "), (Sum.inr "one", .str " | "), (Sum.inr "then", .str " > ")])) ld = some (.dK [(Sum.inr "both", .str " & "), (Sum.inr "one", .str " | "), (Sum.inr "then", .str " > ")]) := upd_same
  generalize upd (upd H ld (.dK [])) ld (.dK (mergeK [] [(Sum.inr "both", .str " & "), (Sum.inr "one", .str " | "), (Sum.inr "then", .str " > ")])) = H1 at S1 d1 hlf hlt ⊢
  have flf : H lf = none := S1.free hlf
  have flt : H lt = none := S1.free ((same_new hlf _).free hlt)
  have l0 : upd H1 lf (.lst []) lf = some (.lst []) := upd_same
  have l1 : upd (upd H1 lf (.lst [])) lt (.lst [v]) lf = some (.lst []) := by rw [upd_ne (ne_of_none l0 hlt)]; exact l0
  have S2 : Same H1 (upd (upd H1 lf (.lst [])) lt (.lst [v])) := (same_new hlf _).trans (same_new hlt _)
  have nft : lf ≠ lt := fun z => by subst z; rw [upd_same] at hlt; cases hlt
  refine ⟨fun m σ' H' => ∃ st is ys x5, m = itsW is ∧ σ' = [some v, some (.int c), some (.ref ld), some (.ref lf), some (.ref lt), x5] ∧ Same H H' ∧ H' ld = some (.dK [(Sum.inr "both", .str " & "), (Sum.inr "one", .str " | "), (Sum.inr "then", .str " > ")]) ∧ H' lf = some (.lst (ys.map V.str)) ∧ H' lt = some (.lst st.reverse) ∧ DIts K H' st is ∧ (∀ i ∈ is, itOk i) ∧ (∀ z, WrI is z → Wr T ((ys.map fun y => y.cps.toList).flatten ++ z)) ∧ ys.length + itsW is ≤ 1800,
    ⟨_, [v], [.inr T], [], none, rfl, rfl, S1.trans S2, S2 _ _ d1, l1, upd_same, .cons ⟨hT.keep (S1.trans S2).keepT, ho⟩ .nil, ?_, ?_, ?_⟩, ?_⟩
  · intro i hi
    rcases List.mem_singleton.mp hi with rfl
    exact ho
  · intro z hz
    cases hz with
    | tm hw hn =>
      cases hn
      show Wr T ([] ++ (_ ++ []))
      simpa using hw
  · show 0 + (6 * T.parts + 0) ≤ 1800
    omega
  clear S1 d1 hlf hlt l0 l1 S2 H1
  rintro m σ1 H1 ⟨st, is, ys, x5, rfl, rfl, e1, hd1, hf1, ht1, hd, hok, hw, hn⟩
  have nlf : ∀ {o o'}, H1 lf = some (.lst o) → H1 ld = some (.dK o') → lf ≠ ld := fun a b => ne_of a b (by intro z; cases z)
  walk_at "rdx_1"
  refine ⟨by decide, fun pn hpn => ⟨.list (is.map itD).reverse, ?_, .list [], ?_, ?_, rfl, Nat.le_trans (Nat.min_le_right _ _) (by decide), ?_⟩⟩
  · rw [Dn]
    exact ⟨lt, st.reverse, rfl, SqL.of (by rw [upd_ne (ne_of_none ht1 hpn)]; exact ht1), its_dn (DIts.keep (keepT_new hpn) hd)⟩
  · rw [Dn]
    exact ⟨pn, [], rfl, SqL.of upd_same, by rw [DnAll]⟩
  · refine canLay_list fun d hd' => ?_
    rw [List.mem_reverse, List.mem_map] at hd'
    obtain ⟨i, hi, rfl⟩ := hd'
    exact itD_lay (hok i hi)
  rw [if_pos trivial, eqv_nil]
  have Sn : Same H1 (upd H1 pn (.lst [])) := same_new hpn _
  have e1n := e1.trans Sn
  have hd1n := Sn _ _ hd1
  have hf1n := Sn _ _ hf1
  have ht1n := Sn _ _ ht1
  have hdn := DIts.keep Sn.keepT hd
  clear hd1 hf1 ht1 hd e1 Sn
  generalize upd H1 pn (.lst []) = H2 at e1n hd1n hf1n ht1n hdn ⊢
  have ndf : lf ≠ ld := ne_of hf1n hd1n (by intro z; cases z)
  have ndt : lt ≠ ld := ne_of ht1n hd1n (by intro z; cases z)
  cases hdn with
  | nil =>
    rw [if_neg (by decide)]
    have hWr := hw [] .nil
    rw [List.append_nil] at hWr
    have hl := hWr.len ho
    have hsum : (ys.map (·.length)).sum ≤ 3000 := by
      rw [List.length_flatten, List.map_map] at hl
      have e2 : (ys.map (·.length)) = ys.map (List.length ∘ fun y => y.cps.toList) := List.map_congr_left fun y _ => len_cps y
      rw [e2]; omega
    refine ⟨rfl, ys, SqL.of hf1n, by rw [show Str.length "" = 0 from rfl]; omega, q _ _ e1n ?_⟩
    rw [show ("" : Str) = Str.empty from rfl, join_cps]
    exact hWr
  | @cons u i st is hu hst =>
    have hrev : (u :: st).reverse = st.reverse ++ [u] := List.reverse_cons
    rw [if_pos (by simp)]
    rw [hrev] at ht1n
    refine ⟨_, fun σ' H' z => z, .inl ⟨rfl, _, SqL.of ht1n⟩, _, ht1n, u, by simp, ?_⟩
    rw [List.dropLast_concat]
    have k1 : KeepT K H2 (upd H2 lt (.lst st.reverse)) := keepT_lst ht1n
    have hf3 : upd H2 lt (.lst st.reverse) lf = some (.lst (ys.map V.str)) := by rw [upd_ne nft]; exact hf1n
    have hd3 : upd H2 lt (.lst st.reverse) ld = some (.dK [(Sum.inr "both", .str " & "), (Sum.inr "one", .str " | "), (Sum.inr "then", .str " > ")]) := by rw [upd_ne (Ne.symm ndt)]; exact hd1n
    have e3 : Same H (upd H2 lt (.lst st.reverse)) := e1n.write flt
    have hst3 := DIts.keep k1 hst
    have ht3 : upd H2 lt (.lst st.reverse) lt = some (.lst st.reverse) := upd_same
    rw [itsW_cons] at hn ⊢
    have hok' : ∀ i ∈ is, itOk i := fun j hj => hok j (List.mem_cons_of_mem _ hj)
    cases i with
    | inl x =>
      have hu' : u = .str x := hu
      subst hu'
      refine ⟨_, .of (.str x), _, kit_same K "str", ?_⟩
      rw [if_pos rfl]
      refine ⟨.inl ⟨rfl, _, SqL.of hf3⟩, _, hf3, small1M (by rw [List.length_map]; omega), itsW is, (by show itsW is < 1 + itsW is; omega), st, is, rfl, ys ++ [x], _, rfl, e3.write flf, by rw [upd_ne (Ne.symm ndf)]; exact hd3, by rw [upd_same, List.map_append]; rfl, by rw [upd_ne (Ne.symm nft)]; exact ht3, DIts.keep (keepT_lst hf3) hst3, hok', ?_, ?_⟩
      · intro z hz
        rw [flat_snoc]
        exact hw _ (.str hz)
      · have : itW (.inl x) = 1 := rfl
        rw [List.length_append, List.length_singleton]; omega
    | inr b =>
      obtain ⟨hb, ob⟩ := hu
      have hb3 := hb.keep k1
      obtain ⟨a, xs, rfl, hs⟩ := isT_tup hb3
      refine ⟨_, .tupK hs, _, kit_ts K, ?_⟩
      rw [if_neg Bool.false_ne_true]
      generalize upd H2 lt (.lst st.reverse) = H3 at hf3 hd3 e3 hst3 ht3 hb3 hs ⊢
      have bp : itW (.inr b) = 6 * b.parts := rfl
      have bpp := b.parts_pos
      have sml : (ys.map V.str).length < sizeLine := small1M (by rw [List.length_map]; omega)
      have ldf : ∀ {o}, upd H3 lf o ld = some (.dK [(Sum.inr "both", .str " & "), (Sum.inr "one", .str " | "), (Sum.inr "then", .str " > ")]) := fun {o} => by rw [upd_ne (Ne.symm ndf)]; exact hd3
      have ltf : ∀ {o}, upd H3 lf o lt = some (.lst st.reverse) := fun {o} => by rw [upd_ne (Ne.symm nft)]; exact ht3
      have lff : ∀ {y : Str}, upd H3 lf (.lst (ys.map V.str ++ [.str y])) lf = some (.lst ((ys ++ [y]).map V.str)) := fun {y} => by rw [upd_same, List.map_append]; rfl
      have ks : ∀ {o}, KeepT K H3 (upd H3 lf o) := fun {o} => keepT_lst hf3
      cases b with
      | low =>
        obtain ⟨a', z, hs'⟩ := isT_low.mp hb3
        cases z
        refine ⟨a, rfl, _, hs', _, rfl, scal_str _ _, ?_⟩
        rw [if_pos rfl]
        refine ⟨.inl ⟨rfl, _, SqL.of hf3⟩, _, hf3, sml, itsW is, by omega, st, is, rfl, ys ++ [("0" : Str)], _, rfl, e3.write flf, ldf, lff, ltf, DIts.keep ks hst3, hok', ?_, ?_⟩
        · intro z hz
          rw [flat_snoc]
          exact hw _ (.tm .low hz)
        · rw [List.length_append, List.length_singleton]; omega
      | ltr wd =>
        obtain ⟨a', z, hs'⟩ := isT_ltr.mp hb3
        cases z
        refine ⟨a, rfl, _, hs', _, rfl, scal_str _ _, ?_⟩
        rw [if_neg (by decide)]
        refine ⟨a, rfl, _, hs', _, rfl, scal_str _ _, ?_⟩
        rw [if_pos rfl]
        refine ⟨.inl ⟨rfl, _, SqL.of hf3⟩, a, rfl, _, hs', _, rfl, _, hf3, sml, itsW is, by omega, st, is, rfl, ys ++ [wd], _, rfl, e3.write flf, ldf, lff, ltf, DIts.keep ks hst3, hok', ?_, ?_⟩
        · intro z hz
          rw [flat_snoc]
          exact hw _ (.tm (.ltr wd) hz)
        · rw [List.length_append, List.length_singleton]; omega
      | nd kk x y =>
        obtain ⟨a', vx, vy, z, hs', hx, hy⟩ := isT_nd.mp hb3
        cases z
        have bq : (Tm.nd kk x y).parts = 1 + x.parts + y.parts := rfl
        have yp := y.parts_pos
        refine ⟨a, rfl, _, hs', _, rfl, scal_str _ _, ?_⟩
        rw [if_neg (by cases kk <;> decide)]
        refine ⟨a, rfl, _, hs', _, rfl, scal_str _ _, ?_⟩
        rw [if_neg (by cases kk <;> decide)]
        refine ⟨a, rfl, _, hs', _, rfl, scal_str _ _, ?_⟩
        by_cases hk : kk = .thn
        · subst hk
          rw [if_pos (show V.str Kd.thn.str = V.str "then" from rfl)]
          refine ⟨a, rfl, _, hs', vy, rfl, by decide, fun p0 hp0 => ?_⟩
          have low : IsT K (upd H3 p0 (.tup [.str "low"])) (.ref p0) .low := isT_low.mpr ⟨p0, rfl, .inl (.inl upd_same)⟩
          refine ⟨_, hy.keep (keepT_new hp0), _, low, y.lay ob.2, Tm.lay .low trivial, Nat.le_trans (Nat.min_le_right _ _) (by rw [Tm.depth]; decide), ?_⟩
          rw [if_neg Bool.false_ne_true, Tm.eqv y .low]
          have S34 : Same H3 (upd H3 p0 (.tup [.str "low"])) := same_new hp0 _
          generalize upd H3 p0 (.tup [.str "low"]) = H4 at S34 ⊢
          by_cases e : y = .low
          · rw [decide_eq_true e, if_pos rfl]
            refine ⟨_, .inl (SqL.of (S34 _ _ hf3)), c, _, rfl, by omega, by rw [List.length_map]; omega, _, rfl, by decide, ite2 (fun _ => ?_) (fun _ => ?_)⟩
            · subst e
              have hf4 : H4 lf = some (.lst (ys.map V.str)) := S34 _ _ hf3
              have hd4 := S34 _ _ hd3
              have ht4 := S34 _ _ ht3
              have hs4 : SqT K H4 a [.str Kd.thn.str, vx, vy] := S34.keepT _ _ hs'
              have kf : KeepT K H4 (upd H4 lf (.lst (ys.map V.str ++ [.str "~"]))) := keepT_lst hf4
              have hd5 : upd H4 lf (.lst (ys.map V.str ++ [.str "~"])) ld = some (.dK [(Sum.inr "both", .str " & "), (Sum.inr "one", .str " | "), (Sum.inr "then", .str " > ")]) := by rw [upd_ne (Ne.symm ndf)]; exact hd4
              have ht5 : upd H4 lf (.lst (ys.map V.str ++ [.str "~"])) lt = some (.lst st.reverse) := by rw [upd_ne (Ne.symm nft)]; exact ht4
              have hf5 : upd H4 lf (.lst (ys.map V.str ++ [.str "~"])) lf = some (.lst ((ys ++ [("~" : Str)]).map V.str)) := by rw [upd_same, List.map_append]; rfl
              have e5 : Same H (upd H4 lf (.lst (ys.map V.str ++ [.str "~"]))) := (e3.trans S34).write flf
              refine ⟨.inl ⟨rfl, _, SqL.of hf4⟩, _, hf4, sml, ?_⟩
              generalize upd H4 lf (.lst (ys.map V.str ++ [.str "~"])) = H5 at kf hd5 ht5 hf5 e5 ⊢
              have ht6 : upd H5 lt (.lst (st.reverse ++ [vx])) lt = some (.lst (st.reverse ++ [vx])) := upd_same
              have k6 : KeepT K H3 (upd H5 lt (.lst (st.reverse ++ [vx]))) := (S34.keepT.trans kf).trans (keepT_lst ht5)
              have w9 : itsW (.inr x :: is) = 6 * x.parts + itsW is := by rw [itsW_cons]; rfl
              have l2 := paired_len hst3
              have w2 := len_le_w is
              refine ⟨.inl ⟨rfl, _, SqL.of ht5⟩, a, rfl, _, kf _ _ hs4, _, rfl, _, ht5, ?_, itsW (.inr x :: is), ?_, vx :: st, .inr x :: is, rfl, ys ++ [("~" : Str)], _, rfl, e5.write flt, ?_, ?_, ?_, .cons ⟨hx.keep k6, ob.1⟩ (DIts.keep k6 hst3), ?_, ?_, ?_⟩
              · rw [List.length_reverse]
                exact small1M (by omega)
              · rw [w9]; omega
              · rw [upd_ne (Ne.symm ndt)]; exact hd5
              · rw [upd_ne nft]; exact hf5
              · rw [upd_same, List.reverse_cons]
              · intro j hj
                rcases List.mem_cons.mp hj with rfl | hj
                · exact ob.1
                · exact hok' j hj
              · intro z hz
                cases hz with
                | tm h1 hz =>
                  rw [flat_snoc]
                  rw [show ("~" : Str).cps.toList = [126] from rfl]
                  have := hw _ (.tm (.neg h1) hz)
                  simpa using this
              · rw [w9, List.length_append, List.length_singleton]; omega
            · skip
              have hf4 : H4 lf = some (.lst (ys.map V.str)) := S34 _ _ hf3
              have hd4 := S34 _ _ hd3
              have ht4 := S34 _ _ ht3
              have hs4 : SqT K H4 a [.str Kd.thn.str, vx, vy] := S34.keepT _ _ hs'
              have kf : KeepT K H4 (upd H4 lf (.lst (ys.map V.str ++ [.str "("]))) := keepT_lst hf4
              have hd5 : upd H4 lf (.lst (ys.map V.str ++ [.str "("])) ld = some (.dK [(Sum.inr "both", .str " & "), (Sum.inr "one", .str " | "), (Sum.inr "then", .str " > ")]) := by rw [upd_ne (Ne.symm ndf)]; exact hd4
              have ht5 : upd H4 lf (.lst (ys.map V.str ++ [.str "("])) lt = some (.lst st.reverse) := by rw [upd_ne (Ne.symm nft)]; exact ht4
              have hf5 : upd H4 lf (.lst (ys.map V.str ++ [.str "("])) lf = some (.lst ((ys ++ [("(" : Str)]).map V.str)) := by rw [upd_same, List.map_append]; rfl
              have e5 : Same H (upd H4 lf (.lst (ys.map V.str ++ [.str "("]))) := (e3.trans S34).write flf
              refine ⟨.inl ⟨rfl, _, SqL.of hf4⟩, _, hf4, sml, ?_⟩
              generalize upd H4 lf (.lst (ys.map V.str ++ [.str "("])) = H5 at kf hd5 ht5 hf5 e5 ⊢
              have gt : DGet H5 ld (.str Kd.thn.str) (some (.str (sgs Kd.thn))) := DGet.k (k := Sum.inr "then") hd5
              refine ⟨.inl ⟨rfl, _, SqL.of ht5⟩, a, rfl, _, kf _ _ hs4, _, rfl, a, rfl, _, kf _ _ hs4, _, rfl, _, gt, a, rfl, _, kf _ _ hs4, _, rfl, by decide, fun p hp => ?_⟩
              have ht6 : upd H5 p (.lst [.str ")", vy, .str (sgs Kd.thn), vx]) lt = some (.lst st.reverse) := by rw [upd_ne (ne_of_none ht5 hp)]; exact ht5
              have k6 : KeepT K H3 (upd (upd H5 p (.lst [.str ")", vy, .str (sgs Kd.thn), vx])) lt (.lst (st.reverse ++ [.str ")", vy, .str (sgs Kd.thn), vx]))) := ((S34.keepT.trans kf).trans (keepT_new hp)).trans (keepT_lst ht6)
              have w9 : itsW (.inr x :: .inl (sgs Kd.thn) :: .inr y :: .inl (")" : Str) :: is) = 6 * x.parts + (1 + (6 * y.parts + (1 + itsW is))) := by rw [itsW_cons, itsW_cons, itsW_cons, itsW_cons]; rfl
              have l2 := paired_len hst3
              have w2 := len_le_w is
              refine ⟨_, ht6, _, upd_same, ?_, itsW (.inr x :: .inl (sgs Kd.thn) :: .inr y :: .inl (")" : Str) :: is), ?_, vx :: .str (sgs Kd.thn) :: vy :: .str ")" :: st, .inr x :: .inl (sgs Kd.thn) :: .inr y :: .inl (")" : Str) :: is, rfl, ys ++ [("(" : Str)], _, rfl, (e5.trans (same_new hp _)).write flt, ?_, ?_, ?_, .cons ⟨hx.keep k6, ob.1⟩ (.cons rfl (.cons ⟨hy.keep k6, ob.2⟩ (.cons rfl (DIts.keep k6 hst3)))), ?_, ?_, ?_⟩
              · rw [List.length_reverse]
                exact Nat.le_of_lt (small1M (by simp; omega))
              · rw [w9]; omega
              · rw [upd_ne (Ne.symm ndt), upd_ne (ne_of_none hd5 hp)]; exact hd5
              · rw [upd_ne nft, upd_ne (ne_of_none hf5 hp)]; exact hf5
              · rw [upd_same]; simp
              · intro j hj
                simp only [List.mem_cons] at hj
                rcases hj with rfl | rfl | rfl | rfl | hj
                · exact ob.1
                · exact sgs_ok Kd.thn
                · exact ob.2
                · exact par_ok
                · exact hok' j hj
              · intro z hz
                cases hz with
                | tm h1 hz =>
                  cases hz with
                  | str hz =>
                    cases hz with
                    | tm h2 hz =>
                      cases hz with
                      | str hz =>
                        rw [flat_snoc]
                        have := hw _ (.tm (.nd (k := Kd.thn) h1 h2) hz)
                        rw [sgs_cps, show ("(" : Str).cps.toList = [40] from rfl, show (")" : Str).cps.toList = [41] from rfl]
                        simpa using this
              · rw [w9, List.length_append, List.length_singleton]; omega
          · rw [decide_eq_false e, if_neg Bool.false_ne_true, if_neg Bool.false_ne_true]
            have hf4 : H4 lf = some (.lst (ys.map V.str)) := S34 _ _ hf3
            have hd4 := S34 _ _ hd3
            have ht4 := S34 _ _ ht3
            have hs4 : SqT K H4 a [.str Kd.thn.str, vx, vy] := S34.keepT _ _ hs'
            have kf : KeepT K H4 (upd H4 lf (.lst (ys.map V.str ++ [.str "("]))) := keepT_lst hf4
            have hd5 : upd H4 lf (.lst (ys.map V.str ++ [.str "("])) ld = some (.dK [(Sum.inr "both", .str " & "), (Sum.inr "one", .str " | "), (Sum.inr "then", .str " > ")]) := by rw [upd_ne (Ne.symm ndf)]; exact hd4
            have ht5 : upd H4 lf (.lst (ys.map V.str ++ [.str "("])) lt = some (.lst st.reverse) := by rw [upd_ne (Ne.symm nft)]; exact ht4
            have hf5 : upd H4 lf (.lst (ys.map V.str ++ [.str "("])) lf = some (.lst ((ys ++ [("(" : Str)]).map V.str)) := by rw [upd_same, List.map_append]; rfl
            have e5 : Same H (upd H4 lf (.lst (ys.map V.str ++ [.str "("]))) := (e3.trans S34).write flf
            refine ⟨.inl ⟨rfl, _, SqL.of hf4⟩, _, hf4, sml, ?_⟩
            generalize upd H4 lf (.lst (ys.map V.str ++ [.str "("])) = H5 at kf hd5 ht5 hf5 e5 ⊢
            have gt : DGet H5 ld (.str Kd.thn.str) (some (.str (sgs Kd.thn))) := DGet.k (k := Sum.inr "then") hd5
            refine ⟨.inl ⟨rfl, _, SqL.of ht5⟩, a, rfl, _, kf _ _ hs4, _, rfl, a, rfl, _, kf _ _ hs4, _, rfl, _, gt, a, rfl, _, kf _ _ hs4, _, rfl, by decide, fun p hp => ?_⟩
            have ht6 : upd H5 p (.lst [.str ")", vy, .str (sgs Kd.thn), vx]) lt = some (.lst st.reverse) := by rw [upd_ne (ne_of_none ht5 hp)]; exact ht5
            have k6 : KeepT K H3 (upd (upd H5 p (.lst [.str ")", vy, .str (sgs Kd.thn), vx])) lt (.lst (st.reverse ++ [.str ")", vy, .str (sgs Kd.thn), vx]))) := ((S34.keepT.trans kf).trans (keepT_new hp)).trans (keepT_lst ht6)
            have w9 : itsW (.inr x :: .inl (sgs Kd.thn) :: .inr y :: .inl (")" : Str) :: is) = 6 * x.parts + (1 + (6 * y.parts + (1 + itsW is))) := by rw [itsW_cons, itsW_cons, itsW_cons, itsW_cons]; rfl
            have l2 := paired_len hst3
            have w2 := len_le_w is
            refine ⟨_, ht6, _, upd_same, ?_, itsW (.inr x :: .inl (sgs Kd.thn) :: .inr y :: .inl (")" : Str) :: is), ?_, vx :: .str (sgs Kd.thn) :: vy :: .str ")" :: st, .inr x :: .inl (sgs Kd.thn) :: .inr y :: .inl (")" : Str) :: is, rfl, ys ++ [("(" : Str)], _, rfl, (e5.trans (same_new hp _)).write flt, ?_, ?_, ?_, .cons ⟨hx.keep k6, ob.1⟩ (.cons rfl (.cons ⟨hy.keep k6, ob.2⟩ (.cons rfl (DIts.keep k6 hst3)))), ?_, ?_, ?_⟩
            · rw [List.length_reverse]
              exact Nat.le_of_lt (small1M (by simp; omega))
            · rw [w9]; omega
            · rw [upd_ne (Ne.symm ndt), upd_ne (ne_of_none hd5 hp)]; exact hd5
            · rw [upd_ne nft, upd_ne (ne_of_none hf5 hp)]; exact hf5
            · rw [upd_same]; simp
            · intro j hj
              simp only [List.mem_cons] at hj
              rcases hj with rfl | rfl | rfl | rfl | hj
              · exact ob.1
              · exact sgs_ok Kd.thn
              · exact ob.2
              · exact par_ok
              · exact hok' j hj
            · intro z hz
              cases hz with
              | tm h1 hz =>
                cases hz with
                | str hz =>
                  cases hz with
                  | tm h2 hz =>
                    cases hz with
                    | str hz =>
                      rw [flat_snoc]
                      have := hw _ (.tm (.nd (k := Kd.thn) h1 h2) hz)
                      rw [sgs_cps, show ("(" : Str).cps.toList = [40] from rfl, show (")" : Str).cps.toList = [41] from rfl]
                      simpa using this
            · rw [w9, List.length_append, List.length_singleton]; omega
        · rw [if_neg (by intro z; apply hk; exact Kd.str_inj (V.str.inj z)), if_neg Bool.false_ne_true]
          have S34 : Same H3 H3 := Same.refl _
          have hf4 : H3 lf = some (.lst (ys.map V.str)) := S34 _ _ hf3
          have hd4 := S34 _ _ hd3
          have ht4 := S34 _ _ ht3
          have hs4 : SqT K H3 a [.str kk.str, vx, vy] := S34.keepT _ _ hs'
          have kf : KeepT K H3 (upd H3 lf (.lst (ys.map V.str ++ [.str "("]))) := keepT_lst hf4
          have hd5 : upd H3 lf (.lst (ys.map V.str ++ [.str "("])) ld = some (.dK [(Sum.inr "both", .str " & "), (Sum.inr "one", .str " | "), (Sum.inr "then", .str " > ")]) := by rw [upd_ne (Ne.symm ndf)]; exact hd4
          have ht5 : upd H3 lf (.lst (ys.map V.str ++ [.str "("])) lt = some (.lst st.reverse) := by rw [upd_ne (Ne.symm nft)]; exact ht4
          have hf5 : upd H3 lf (.lst (ys.map V.str ++ [.str "("])) lf = some (.lst ((ys ++ [("(" : Str)]).map V.str)) := by rw [upd_same, List.map_append]; rfl
          have e5 : Same H (upd H3 lf (.lst (ys.map V.str ++ [.str "("]))) := (e3.trans S34).write flf
          refine ⟨.inl ⟨rfl, _, SqL.of hf4⟩, _, hf4, sml, ?_⟩
          generalize upd H3 lf (.lst (ys.map V.str ++ [.str "("])) = H5 at kf hd5 ht5 hf5 e5 ⊢
          have gt : DGet H5 ld (.str kk.str) (some (.str (sgs kk))) := by
            cases kk
            · exact DGet.k (k := Sum.inr "both") hd5
            · exact DGet.k (k := Sum.inr "one") hd5
            · exact DGet.k (k := Sum.inr "then") hd5
          refine ⟨.inl ⟨rfl, _, SqL.of ht5⟩, a, rfl, _, kf _ _ hs4, _, rfl, a, rfl, _, kf _ _ hs4, _, rfl, _, gt, a, rfl, _, kf _ _ hs4, _, rfl, by decide, fun p hp => ?_⟩
          have ht6 : upd H5 p (.lst [.str ")", vy, .str (sgs kk), vx]) lt = some (.lst st.reverse) := by rw [upd_ne (ne_of_none ht5 hp)]; exact ht5
          have k6 : KeepT K H3 (upd (upd H5 p (.lst [.str ")", vy, .str (sgs kk), vx])) lt (.lst (st.reverse ++ [.str ")", vy, .str (sgs kk), vx]))) := ((S34.keepT.trans kf).trans (keepT_new hp)).trans (keepT_lst ht6)
          have w9 : itsW (.inr x :: .inl (sgs kk) :: .inr y :: .inl (")" : Str) :: is) = 6 * x.parts + (1 + (6 * y.parts + (1 + itsW is))) := by rw [itsW_cons, itsW_cons, itsW_cons, itsW_cons]; rfl
          have l2 := paired_len hst3
          have w2 := len_le_w is
          refine ⟨_, ht6, _, upd_same, ?_, itsW (.inr x :: .inl (sgs kk) :: .inr y :: .inl (")" : Str) :: is), ?_, vx :: .str (sgs kk) :: vy :: .str ")" :: st, .inr x :: .inl (sgs kk) :: .inr y :: .inl (")" : Str) :: is, rfl, ys ++ [("(" : Str)], _, rfl, (e5.trans (same_new hp _)).write flt, ?_, ?_, ?_, .cons ⟨hx.keep k6, ob.1⟩ (.cons rfl (.cons ⟨hy.keep k6, ob.2⟩ (.cons rfl (DIts.keep k6 hst3)))), ?_, ?_, ?_⟩
          · rw [List.length_reverse]
            exact Nat.le_of_lt (small1M (by simp; omega))
          · rw [w9]; omega
          · rw [upd_ne (Ne.symm ndt), upd_ne (ne_of_none hd5 hp)]; exact hd5
          · rw [upd_ne nft, upd_ne (ne_of_none hf5 hp)]; exact hf5
          · rw [upd_same]; simp
          · intro j hj
            simp only [List.mem_cons] at hj
            rcases hj with rfl | rfl | rfl | rfl | hj
            · exact ob.1
            · exact sgs_ok kk
            · exact ob.2
            · exact par_ok
            · exact hok' j hj
          · intro z hz
            cases hz with
            | tm h1 hz =>
              cases hz with
              | str hz =>
                cases hz with
                | tm h2 hz =>
                  cases hz with
                  | str hz =>
                    rw [flat_snoc]
                    have := hw _ (.tm (.nd (k := kk) h1 h2) hz)
                    rw [sgs_cps, show ("(" : Str).cps.toList = [40] from rfl, show (")" : Str).cps.toList = [41] from rfl]
                    simpa using this
          · rw [w9, List.length_append, List.length_singleton]; omega
end
set_option Elab.async false
set_option linter.all false
set_option maxRecDepth 100000
set_option maxHeartbeats 4000000
noncomputable abbrev s__law_sign : Stmt := top 35
theorem sc__law_sign : FnScope ["_law_cell_here", "_law_some", "_law_few_here"] ["_law_cell_here"] (defScope s__law_sign) := ⟨rfl, rfl, rfl, by decide +kernel, rfl, by decide +kernel, by decide +kernel⟩
noncomputable abbrev s__law_spoiled : Stmt := top 36
theorem sc__law_spoiled : FnScope ["_law_text", "_law_cell_here", "_law_at", "_law_sign_here", "_law_way", "_law_both"] ["_law_text", "_law_cell_here"] (defScope s__law_spoiled) := ⟨rfl, rfl, rfl, by decide +kernel, rfl, by decide +kernel, by decide +kernel⟩
noncomputable abbrev s__law_few : Stmt := top 37
theorem sc__law_few : FnScope ["_law_script", "_law_signs", "_law_k", "_law_cell_here"] ["_law_script"] (defScope s__law_few) := ⟨rfl, rfl, rfl, by decide +kernel, rfl, by decide +kernel, by decide +kernel⟩
section
variable {P : Program} {w : World} {K : PySem.W.Frag} {mg : Str → Option Value} {base : Heap}
noncomputable def signsA : Str := Str.ofString " !\"#$&'()*+,-./0123456789:;<=>?@ABCDEFGHIJKLMNOPQRSTUVWXYZ[\\]^_`" ++ Str.ofString "abcdefghijklmnopqrstuvwxyz{|}~\n\t"
theorem signsA_ok : (∀ c ∈ signsA.cps.toList, c < 128) ∧ 0 < signsA.length ∧ signsA.length ≤ 100 ∧ signsA.length = signsA.cps.toList.length := by decide +kernel
theorem signsB_ok : (∀ c ∈ (Str.ofString "()~&|>0 az").cps.toList, c < 128) ∧ 0 < (Str.ofString "()~&|>0 az").length ∧ (Str.ofString "()~&|>0 az").length ≤ 100 ∧ (Str.ofString "()~&|>0 az").length = (Str.ofString "()~&|>0 az").cps.toList.length := by decide +kernel
theorem pick_sign {x : Str} {c : Int} (h : (∀ c ∈ x.cps.toList, c < 128) ∧ 0 < x.length ∧ x.length ≤ 100 ∧ x.length = x.cps.toList.length) : ∃ d, d < 128 ∧ atI x.cps.toList (c % (x.length : Int)) = some d := by
  obtain ⟨v, hv, e⟩ := at_list (xs := x.cps.toList) (i := c % (x.length : Int)) (Int.emod_nonneg _ (by omega)) (by rw [← h.2.2.2]; exact Int.emod_lt_of_pos _ (by omega))
  exact ⟨v, h.1 v hv, e⟩
theorem ok__law_sign {k : Nat} {f__law_sign : Addr} {fd__law_sign : FuncData} (F__law_sign : Fun K "_law_sign" "_law_sign" s__law_sign f__law_sign fd__law_sign) (m_len : mg "len" = none) : FnOk P w K mg base CX0 (k + 1) f__law_sign fd__law_sign ["_law_cell_here"] sp_sign := by
  refine F__law_sign.ok sc__law_sign (fun vs H Q E h => ?_) (fun cdv A outer s H vs Q E hr h => ?_)
  · obtain ⟨c, rfl, _⟩ := h
    rfl
  obtain ⟨c, rfl, hc, q⟩ := h
  refine ⟨_, (pss_cons (ps_set (i := 1) sc__law_sign.nd rfl (Or.inl rfl) pe_str)
  (pss_cons (ps_set (i := 1) sc__law_sign.nd rfl (Or.inl rfl) (pe_op op_add_str (pv 1) pe_str))
  (pss_cons (ps_set (i := 2) sc__law_sign.nd rfl (Or.inl rfl) pe_str)
  (pss_one (ps_ret (pe_ix ix_list (pe_lst (pa_cons (pe_ix ix_str (pv 1) (pe_op op_mod (pe_op op_fdiv (pv 0) pe_int) (pe_callB call_len_str (by exact rfl) m_len Ken.boot_len (pa_cons (pv 1) pa_nil))) (fun _ _ => rfl)) (pa_cons (pe_ix ix_str (pv 2) (pe_op op_mod (pe_op op_fdiv (pv 0) pe_int) (pe_callB call_len_str (by exact rfl) m_len Ken.boot_len (pa_cons (pv 2) pa_nil))) (fun _ _ => rfl)) pa_nil))) (pe_op op_mod (pv 0) pe_int) (fun _ _ => rfl))))))), ?_⟩
  walk_at "rdx_1"
  have l1 : (Str.ofString " !\"#$&'()*+,-./0123456789:;<=>?@ABCDEFGHIJKLMNOPQRSTUVWXYZ[\\]^_`").length + (Str.ofString "abcdefghijklmnopqrstuvwxyz{|}~\n\t").length ≤ 100 := by decide +kernel
  have hA := signsA_ok
  have hB := signsB_ok
  show _ ∧ _ ∧ signsA.length ≤ sizeLine ∧ (0 : Int) < (signsA.length : Int) ∧ signsA.length ≤ sizeLine ∧ ∃ x, atI signsA.cps.toList (c / 2 % (signsA.length : Int)) = some x ∧ _
  obtain ⟨d1, hd1, e1⟩ := pick_sign (c := c / 2) hA
  obtain ⟨d2, hd2, e2⟩ := pick_sign (c := c / 2) hB
  refine ⟨Nat.le_of_lt (small1000 (by omega)), ⟨by decide, by decide⟩, Nat.le_of_lt (small1000 (by omega)), by omega, Nat.le_of_lt (small1000 (by omega)), d1, e1, ⟨by decide, by decide⟩, Nat.le_of_lt (small1000 (by omega)), by omega, Nat.le_of_lt (small1000 (by omega)), d2, e2, by decide, fun p hp => ⟨by decide, _, SqL.of upd_same, ?_⟩⟩
  obtain ⟨v, hv, e⟩ := at_list (xs := [V.str ⟨#[d1]⟩, V.str ⟨#[d2]⟩]) (i := c % 2) (Int.emod_nonneg _ (by decide)) (Int.emod_lt_of_pos _ (by decide))
  refine ⟨v, e, ?_⟩
  simp only [List.mem_cons, List.not_mem_nil, or_false] at hv
  rcases hv with rfl | rfl
  · exact q d1 _ (same_new hp _) hd1
  · exact q d2 _ (same_new hp _) hd2
theorem asc_app {x y : Str} (hx : AscN x) (hy : AscN y) : AscN (x ++ y) := fun c hc => by
  rw [app_cps] at hc
  rcases List.mem_append.mp hc with h | h
  · exact hx c h
  · exact hy c h
theorem asc_one {d : Nat} (h : d < 128) : AscN ⟨#[d]⟩ := fun c hc => by
  have : c = d := by simpa using hc
  omega
theorem asc_to {x : Str} (hx : AscN x) (b : Nat) : AscN (Txt.slice x none (some (b : Int))) := fun c hc => by
  rw [cps_to] at hc
  exact hx c (List.mem_of_mem_take hc)
theorem asc_from {x : Str} (hx : AscN x) (a : Nat) : AscN (Txt.slice x (some (a : Int)) none) := fun c hc => by
  rw [cps_from] at hc
  exact hx c (List.mem_of_mem_drop hc)
theorem asc_ss {x : Str} (hx : AscN x) (a b : Nat) (hab : a ≤ b) : AscN (Txt.slice x (some (a : Int)) (some (b : Int))) := fun c hc => by
  rw [cps_ss x a b hab] at hc
  exact hx c (List.mem_of_mem_drop (List.mem_of_mem_take hc))
theorem len_to (x : Str) (b : Nat) : (Txt.slice x none (some (b : Int))).length ≤ b := by rw [len_cps, cps_to, List.length_take]; omega
theorem len_from (x : Str) (a : Nat) : (Txt.slice x (some (a : Int)) none).length = x.length - a := by rw [len_cps, cps_from, List.length_drop, ← len_cps]
theorem len_ss (x : Str) (a b : Nat) (hab : a ≤ b) : (Txt.slice x (some (a : Int)) (some (b : Int))).length ≤ b - a := by rw [len_cps, cps_ss x a b hab, List.length_take]; omega
theorem len_one (d : Nat) : (⟨#[d]⟩ : Str).length = 1 := rfl
theorem ok__law_spoiled {k : Nat} {f__law_spoiled : Addr} {fd__law_spoiled : FuncData} (F__law_spoiled : Fun K "_law_spoiled" "_law_spoiled" s__law_spoiled f__law_spoiled fd__law_spoiled) {f__law_sign : Addr} {fd__law_sign : FuncData} (G__law_sign : FnOk P w K mg base CX0 k f__law_sign fd__law_sign ["_law_cell_here"] (sp_sign)) (m__law_sign : mg "_law_sign" = some (.ref f__law_sign)) (k__law_sign : PySem.W.keepIn K (.ref f__law_sign) = true) (b__law_sign : Binds K fd__law_sign ["_law_cell_here"] []) {f__law_mix : Addr} {fd__law_mix : FuncData} (G__law_mix : FnOk P w K mg base CX0 k f__law_mix fd__law_mix ["_law_cell_here", "_law_k"] (sp_mix)) (m__law_mix : mg "_law_mix" = some (.ref f__law_mix)) (k__law_mix : PySem.W.keepIn K (.ref f__law_mix) = true) (b__law_mix : Binds K fd__law_mix ["_law_cell_here", "_law_k"] []) (m_len : mg "len" = none) : FnOk P w K mg base CX0 (k + 1) f__law_spoiled fd__law_spoiled ["_law_text", "_law_cell_here"] sp_spoilN := by
  refine F__law_spoiled.ok sc__law_spoiled (fun vs H Q E h => ?_) (fun cdv A outer s H vs Q E hr h => ?_)
  · obtain ⟨x, c, rfl, _⟩ := h
    rfl
  obtain ⟨x, c, rfl, hc, hl, hx, q⟩ := h
  refine ⟨_, (pss_cons (ps_set (i := 2) sc__law_spoiled.nd rfl (Or.inl rfl) (pe_op op_mod (pe_op op_fdiv (pv 1) pe_int) (pe_op op_add (pe_callB call_len_str (by exact rfl) m_len Ken.boot_len (pa_cons (pv 0) pa_nil)) pe_int)))
  (pss_cons (ps_set (i := 3) sc__law_spoiled.nd rfl (Or.inl rfl) (pe_call G__law_sign hr (by exact rfl) m__law_sign k__law_sign b__law_sign .nil pass0 (pa_cons (pe_call G__law_mix hr (by exact rfl) m__law_mix k__law_mix b__law_mix .nil pass0 (pa_cons (pv 1) (pa_cons pe_int pa_nil))) pa_nil)))
  (pss_cons (ps_set (i := 4) sc__law_spoiled.nd rfl (Or.inl rfl) (pe_op op_mod (pv 1) pe_int))
  (pss_cons (ps_if (pt_cmpR (op_lt) (pv 4) pe_int (nomark _))
    (pss_one (ps_ret (pe_op op_add_str (pe_op op_add_str (pe_slice sl_str (pv 0) po_none (po_some (pv 2))) (pv 3)) (pe_slice sl_str (pv 0) (po_some (pv 2)) po_none))))
    pss_nil)
  (pss_cons (ps_if (pt_cmpR (op_lt) (pv 4) pe_int (nomark _))
    (pss_one (ps_ret (pe_op op_add_str (pe_slice sl_str (pv 0) po_none (po_some (pv 2))) (pe_slice sl_str (pv 0) (po_some (pe_op op_add (pv 2) pe_int)) po_none))))
    pss_nil)
  (pss_cons (ps_if (pt_cmpR (op_lt) (pv 4) pe_int (nomark _))
    (pss_one (ps_ret (pe_op op_add_str (pe_op op_add_str (pe_slice sl_str (pv 0) po_none (po_some (pv 2))) (pv 3)) (pe_slice sl_str (pv 0) (po_some (pe_op op_add (pv 2) pe_int)) po_none))))
    pss_nil)
  (pss_cons (ps_if (pt_cmpR (op_eq) (pv 4) pe_int (nomark _))
    (pss_cons (ps_set (i := 5) sc__law_spoiled.nd rfl (Or.inl rfl) (pe_op op_add_str (pe_slice sl_str (pv 0) (po_some (pe_op op_add (pv 2) pe_int)) (po_some (pe_op op_add (pv 2) pe_int))) (pe_slice sl_str (pv 0) (po_some (pv 2)) (po_some (pe_op op_add (pv 2) pe_int)))))
  (pss_one (ps_ret (pe_op op_add_str (pe_op op_add_str (pe_slice sl_str (pv 0) po_none (po_some (pv 2))) (pv 5)) (pe_slice sl_str (pv 0) (po_some (pe_op op_add (pv 2) pe_int)) po_none)))))
    pss_nil)
  (pss_one (ps_ret (pe_slice sl_str (pv 0) po_none (po_some (pv 2)))))))))))), ?_⟩
  have sm : x.length ≤ sizeLine := Nat.le_of_lt (small1M (Nat.le_trans hl (by decide)))
  refine seq_then (fun σ' H' => ∃ a : Nat, a ≤ x.length ∧ σ' = [some (.str x), some (.int c), some (.int (a : Nat)), none, none, none] ∧ H' = H) ?_ ?_
  rotate_left
  · intro C hC
    walk_at "rdx_1"
    refine ⟨⟨by decide, by decide⟩, sm, by omega, ?_⟩
    have c0 := Int.emod_nonneg (c / 8) (show ((x.length : Nat) : Int) + 1 ≠ 0 by omega)
    have c1 := Int.emod_lt_of_pos (c / 8) (show 0 < ((x.length : Nat) : Int) + 1 by omega)
    generalize c / 8 % (((x.length : Nat) : Int) + 1) = m at c0 c1 ⊢
    exact hC _ _ ⟨m.toNat, by omega, by rw [Int.toNat_of_nonneg c0], rfl⟩
  rintro σ1 H1 ⟨a, ha, rfl, rfl⟩
  refine seq_then (fun σ' H' => ∃ d : Nat, d < 128 ∧ σ' = [some (.str x), some (.int c), some (.int (a : Nat)), some (.str ⟨#[d]⟩), none, none] ∧ Same H1 H') ?_ ?_
  rotate_left
  · intro C hC
    walk_at "rdx_1"
    exact ⟨c, 3, rfl, by decide, by decide, _, rfl, mix_nn _ _, fun d H' e hd => hC _ _ ⟨d, hd, rfl, e⟩⟩
  rintro σ2 H2 ⟨d, hd, rfl, e2⟩
  walk_at "rdx_1"
  have e1 : ((a : Int) + 1) = ((a + 1 : Nat) : Int) := rfl
  have e3 : ((a : Int) + 2) = ((a + 2 : Nat) : Int) := rfl
  rw [e1, e3]
  have b1 := len_to x a
  have b2 := len_from x a
  have b3 := len_from x (a + 1)
  have b4 := len_from x (a + 2)
  have b5 := len_ss x (a + 1) (a + 2) (by omega)
  have b6 := len_ss x a (a + 1) (by omega)
  have t1 := asc_to hx a
  have t2 := asc_from hx a
  have t3 := asc_from hx (a + 1)
  have t4 := asc_from hx (a + 2)
  have t5 := asc_ss hx (a + 1) (a + 2) (by omega)
  have t6 := asc_ss hx a (a + 1) (by omega)
  have b7 := len_one d
  have t7 := asc_one hd
  have sz : ∀ n : Nat, n ≤ x.length + 2 → n ≤ sizeLine := fun n h => Nat.le_of_lt (small1M (by omega))
  refine ⟨by decide, ite2 (fun _ => ⟨sm, sz _ (by omega), sm, sz _ (by rw [Str.length_append]; omega), q _ _ e2 (asc_app (asc_app t1 t7) t2) (by rw [Str.length_append, Str.length_append]; omega)⟩) fun _ => ite2 (fun _ => ⟨sm, sm, sz _ (by omega), q _ _ e2 (asc_app t1 t3) (by rw [Str.length_append]; omega)⟩) fun _ => ite2 (fun _ => ⟨sm, sz _ (by omega), sm, sz _ (by rw [Str.length_append]; omega), q _ _ e2 (asc_app (asc_app t1 t7) t3) (by rw [Str.length_append, Str.length_append]; omega)⟩) fun _ => ite2 (fun _ => ⟨sm, sm, sz _ (by omega), sm, sz _ (by rw [Str.length_append]; omega), sm, sz _ (by rw [Str.length_append, Str.length_append]; omega), q _ _ e2 (asc_app (asc_app t1 (asc_app t5 t6)) t4) (by rw [Str.length_append, Str.length_append, Str.length_append]; omega)⟩) fun _ => ⟨sm, q _ _ e2 t1 (by omega)⟩⟩
theorem signsC_ok : (∀ c ∈ (Str.ofString "((~~&|>>0  aaz))").cps.toList, c < 128) ∧ 0 < (Str.ofString "((~~&|>>0  aaz))").length ∧ (Str.ofString "((~~&|>>0  aaz))").length ≤ 100 ∧ (Str.ofString "((~~&|>>0  aaz))").length = (Str.ofString "((~~&|>>0  aaz))").cps.toList.length := by decide +kernel
theorem ok__law_few {k : Nat} {f__law_few : Addr} {fd__law_few : FuncData} (F__law_few : Fun K "_law_few" "_law_few" s__law_few f__law_few fd__law_few) {f__law_cell : Addr} {fd__law_cell : FuncData} (G__law_cell : FnOk P w K mg base CX0 k f__law_cell fd__law_cell ["_law_script", "_law_k"] (sp_cell K)) (m__law_cell : mg "_law_cell" = some (.ref f__law_cell)) (k__law_cell : PySem.W.keepIn K (.ref f__law_cell) = true) (b__law_cell : Binds K fd__law_cell ["_law_script", "_law_k"] []) {f__law_mix : Addr} {fd__law_mix : FuncData} (G__law_mix : FnOk P w K mg base CX0 k f__law_mix fd__law_mix ["_law_cell_here", "_law_k"] (sp_mix)) (m__law_mix : mg "_law_mix" = some (.ref f__law_mix)) (k__law_mix : PySem.W.keepIn K (.ref f__law_mix) = true) (b__law_mix : Binds K fd__law_mix ["_law_cell_here", "_law_k"] []) (m_range : mg "range" = none) (m_len : mg "len" = none) (m_max : mg "max" = none) : FnOk P w K mg base CX0 (k + 1) f__law_few fd__law_few ["_law_script"] (sp_few K) := by
  refine F__law_few.ok sc__law_few (fun vs H Q E h => ?_) (fun cdv A outer s H vs Q E hr h => ?_)
  · obtain ⟨a, ns, rfl, _⟩ := h
    rfl
  obtain ⟨a, ns, rfl, hS, hl, q⟩ := h
  refine ⟨_, (pss_cons (ps_set (i := 1) sc__law_few.nd rfl (Or.inl rfl) (pe_lst pa_nil))
  (pss_cons (ps_for PassesOwn.never rfl (pi_range1 rfl m_range (pa_cons (pe_op op_mod (pe_call G__law_cell hr (by exact rfl) m__law_cell k__law_cell b__law_cell .nil pass0 (pa_cons (pv 0) (pa_cons pe_int pa_nil))) pe_int) pa_nil)) (pg_name (i := 2) sc__law_few.nd rfl (Or.inl rfl))
    (pss_cons (ps_set (i := 3) sc__law_few.nd rfl (Or.inl rfl) (pe_call G__law_mix hr (by exact rfl) m__law_mix k__law_mix b__law_mix .nil pass0 (pa_cons (pe_call G__law_cell hr (by exact rfl) m__law_cell k__law_cell b__law_cell .nil pass0 (pa_cons (pv 0) (pa_cons (pe_op op_add pe_int (pe_op op_mod (pv 2) (pe_callB (call_max2 rfl) (by exact rfl) m_max Ken.boot_max (pa_cons pe_int (pa_cons (pe_callB call_len_seq (by exact rfl) m_len Ken.boot_len (pa_cons (pv 0) pa_nil)) pa_nil))))) pa_nil))) (pa_cons (pv 2) pa_nil))))
  (pss_one (ps_expr (pe_bm PySem.F.plainAttrs_list PySem.F.slot_list_append PySem.F.type_list_append mt_append (pv 1) (pa_cons (pe_ix ix_str pe_str (pe_op op_mod (pv 3) pe_int) (fun _ _ => rfl)) pa_nil))))))
  (pss_one (ps_ret (pe_bm PySem.F.plainAttrs_str PySem.F.slot_str_join PySem.F.type_str_join mt_join pe_str (pa_cons (pv 1) pa_nil)))))), ?_⟩
  refine seq_then (fun σ' H' => ∃ ls, σ' = [some (.ref a), some (.ref ls), none, none] ∧ Same H H' ∧ H ls = none ∧ H' ls = some (.lst [])) ?_ ?_
  rotate_left
  · intro C hC
    walk_at "rdx_1"
    exact ⟨by decide, fun p hp => hC _ _ ⟨p, rfl, same_new hp _, hp, upd_same⟩⟩
  rintro σ1 H1 ⟨ls, rfl, e1, f1, h1⟩
  refine seq_then (fun σ' H' => ∃ (x2 x3 : Option V) (ys : List Str), σ' = [some (.ref a), some (.ref ls), x2, x3] ∧ Same H H' ∧ H' ls = some (.lst (ys.map V.str)) ∧ ys.length ≤ 30 ∧ ∀ y ∈ ys, ∃ d, d < 128 ∧ y = ⟨#[d]⟩) ?_ ?_
  rotate_left
  · intro C hC
    walk_at "rdx_2"
    refine ⟨a, ns, 3, rfl, e1.seq hS, hl, by decide, by decide, ?_⟩
    have m0 := Int.emod_nonneg (cellOf ns 3) (show (31 : Int) ≠ 0 by decide)
    have m1 := Int.emod_lt_of_pos (cellOf ns 3) (show (0 : Int) < 31 by decide)
    refine ⟨_, rfl, by decide, by omega, by omega, ?_⟩
    refine for_range (D := { nx := C, rt := Q }) (n := (cellOf ns 3 % 31).toNat) (lo := 0) (fun i σ' H' => ∃ (x2 x3 : Option V) (ys : List Str), σ' = [some (.ref a), some (.ref ls), x2, x3] ∧ Same H H' ∧ H' ls = some (.lst (ys.map V.str)) ∧ ys.length = i ∧ ∀ y ∈ ys, ∃ d, d < 128 ∧ y = ⟨#[d]⟩) ⟨none, none, [], rfl, e1, h1, rfl, fun y h => nomatch h⟩ (fun i σ' H' hlt hp => ?_) (fun σ' H' ⟨x2, x3, ys, h1, h2, h3, h4, h5⟩ => hC _ _ ⟨x2, x3, ys, h1, h2, h3, by omega, h5⟩)
    obtain ⟨x2, x3, ys, rfl, e, h, hy, hya⟩ := hp
    walk_at "rdx_1"
    have hm : ∃ m : Nat, (if (((ns.map V.int).length : Nat) : Int) > 1 then (((ns.map V.int).length : Nat) : Int) else 1) = (m : Int) ∧ 1 ≤ m ∧ m ≤ 63 := by
      rw [List.length_map]
      by_cases c1 : ((ns.length : Nat) : Int) > 1
      · rw [if_pos c1]; exact ⟨_, rfl, by omega, hl⟩
      · rw [if_neg c1]; exact ⟨1, rfl, by decide, by decide⟩
    obtain ⟨m, em, hm1, hm2⟩ := hm
    have n0 := Int.emod_nonneg (0 + (i : Int)) (show ((m : Nat) : Int) ≠ 0 by omega)
    have n1 := Int.emod_lt_of_pos (0 + (i : Int)) (show 0 < ((m : Nat) : Int) by omega)
    obtain ⟨d, hd, ed⟩ := pick_sign (c := mix (cellOf ns (4 + (0 + (i : Int)) % (m : Int))) (0 + (i : Int))) signsC_ok
    have l16 : (((Str.ofString "((~~&|>>0  aaz))").length : Nat) : Int) = 16 := by decide +kernel
    rw [l16] at ed
    refine ⟨_, .inl (e.seq hS), ?_⟩
    rw [em]
    refine ⟨by omega, a, ns, _, rfl, e.seq hS, hl, by omega, by omega, _, _, rfl, by omega, by omega, .inl ⟨rfl, _, SqL.of h⟩, _, rfl, by decide, Nat.le_of_lt (small1000 (by decide +kernel)), d, ed, _, h, small1M (by rw [List.length_map]; omega), e.write f1, ys ++ [⟨#[d]⟩], by rw [upd_same, List.map_append]; rfl, by rw [List.length_append, hy]; rfl, fun y hm => ?_⟩
    rcases List.mem_append.mp hm with h7 | h7
    · exact hya y h7
    · exact ⟨d, hd, List.mem_singleton.mp h7⟩
  rintro σ2 H2 ⟨x2, x3, ys, rfl, e2, h2, ly, hy⟩
  walk_at "rdx_1"
  have s1 : (ys.map (·.length)).sum = ys.length := by
    have : ys.map (·.length) = ys.map (fun _ => 1) := List.map_congr_left fun y h => by obtain ⟨d, _, rfl⟩ := hy y h; rfl
    rw [this, List.map_const', List.sum_replicate_nat]; omega
  have z : (Str.ofString "").length = 0 := rfl
  refine ⟨rfl, ys, SqL.of h2, by rw [s1, z]; omega, q _ _ e2 ?_ ?_⟩
  · intro c hc
    rw [show (Str.ofString "") = Str.empty from rfl, join_cps] at hc
    obtain ⟨l, hl, hc⟩ := List.mem_flatten.mp hc
    obtain ⟨y, hy', rfl⟩ := List.mem_map.mp hl
    obtain ⟨d, hd, rfl⟩ := hy y hy'
    exact asc_one hd c hc
  · rw [len_cps, show (Str.ofString "") = Str.empty from rfl, join_cps, List.length_flatten, List.map_map]
    have : ys.map (List.length ∘ fun y => y.cps.toList) = ys.map (·.length) := List.map_congr_left fun y _ => (len_cps y).symm
    rw [this, s1]; omega
end
set_option Elab.async false
set_option linter.all false
set_option maxRecDepth 100000
set_option maxHeartbeats 4000000
noncomputable abbrev s_NoText___init__ : Stmt := inClass (top 2) 0
theorem sc_NoText___init__ : FnScope ["self", "at"] ["self", "at"] (defScope s_NoText___init__) := ⟨rfl, rfl, rfl, by decide +kernel, rfl, by decide +kernel, by decide +kernel⟩
noncomputable abbrev s_past : Stmt := top 19
theorem sc_past : FnScope ["text", "at", "sign"] ["text", "at", "sign"] (defScope s_past) := ⟨rfl, rfl, rfl, by decide +kernel, rfl, by decide +kernel, by decide +kernel⟩
noncomputable abbrev s_word_end : Stmt := top 20
theorem sc_word_end : FnScope ["text", "at", "end"] ["text", "at"] (defScope s_word_end) := ⟨rfl, rfl, rfl, by decide +kernel, rfl, by decide +kernel, by decide +kernel⟩
noncomputable abbrev s_read_simple : Stmt := top 21
theorem sc_read_simple : FnScope ["text", "at", "end"] ["text", "at"] (defScope s_read_simple) := ⟨rfl, rfl, rfl, by decide +kernel, rfl, by decide +kernel, by decide +kernel⟩
noncomputable abbrev s_read_kind : Stmt := top 22
theorem sc_read_kind : FnScope ["text", "at", "sign"] ["text", "at"] (defScope s_read_kind) := ⟨rfl, rfl, rfl, by decide +kernel, rfl, by decide +kernel, by decide +kernel⟩
noncomputable abbrev s_openings_end : Stmt := top 23
theorem sc_openings_end : FnScope ["text", "at"] ["text", "at"] (defScope s_openings_end) := ⟨rfl, rfl, rfl, by decide +kernel, rfl, by decide +kernel, by decide +kernel⟩
noncomputable abbrev s_at_end : Stmt := top 24
theorem sc_at_end : FnScope ["text", "at", "statement"] ["text", "at", "statement"] (defScope s_at_end) := ⟨rfl, rfl, rfl, by decide +kernel, rfl, by decide +kernel, by decide +kernel⟩
noncomputable abbrev s_negated : Stmt := top 15
theorem sc_negated : FnScope ["statement"] ["statement"] (defScope s_negated) := ⟨rfl, rfl, rfl, by decide +kernel, rfl, by decide +kernel, by decide +kernel⟩
section
variable {P : Program} {w : World} {K : PySem.W.Frag} {mg : Str → Option Value} {base : Heap}
theorem txt_small (i : Nat) (h : i ≤ 5000) : (Str.ofString "no statement is shown by this text, seen at place ").length + (Str.ofString (toString ((i : Nat) : Int))).length ≤ 100 := by
  have h1 : (Str.ofString (toString ((i : Nat) : Int))).length ≤ 10 := PySem.W.KT.len_num (by omega) (Int.lt_of_le_of_lt (show ((i : Nat) : Int) ≤ 5000 by omega) (by decide))
  have h2 : (Str.ofString "no statement is shown by this text, seen at place ").length = 50 := by decide +kernel
  omega
theorem txt_log (i : Nat) (h : i ≤ 5000) : ((i : Nat) : Int).natAbs.log2 < 1920 := by
  have : ((i : Nat) : Int).natAbs = i := rfl
  rw [this]
  by_cases h0 : i = 0
  · subst h0; decide
  · rw [Nat.log2_lt h0]
    exact Nat.lt_of_le_of_lt h (by decide)
theorem ok_NoText___init__ {k : Nat} {f_NoText___init__ : Addr} {fd_NoText___init__ : FuncData} (F_NoText___init__ : Fun K "__init__" "NoText.__init__" s_NoText___init__ f_NoText___init__ fd_NoText___init__) {aKenError aNoText : Addr} (m_KenError : mg "KenError" = some (.ref aKenError)) (xi_KenError : XIni K aKenError) (xc_NoText : XC K aNoText) (xs_NoText : XSet K aNoText "at") : FnOk P w K mg base CX0 (k + 1) f_NoText___init__ fd_NoText___init__ ["self", "at"] (sp_xinitN aNoText) := by
  refine F_NoText___init__.ok sc_NoText___init__ (fun vs H Q E h => ?_) (fun cdv A outer s H vs Q E hr h => ?_)
  · obtain ⟨e, i, T, rfl, _⟩ := h
    rfl
  obtain ⟨e, i, T, rfl, hi, he, q⟩ := h
  refine ⟨_, (pss_cons (ps_expr (pe_xini (C := aNoText) xi_KenError (by exact rfl) m_KenError xc_NoText (pa_cons (pv 0) (pa_cons (pe_fstr (pf_str (pf_valI (pv 1) pf_nil))) pa_nil))))
  (pss_one (ps_xfld xs_NoText xc_NoText (pv 0) (pv 1)))), ?_⟩
  have h1 := txt_small i hi
  have h2 := txt_log i hi
  walk_at "rdx_1"
  have h3 : (Str.empty ++ Str.ofString "no statement is shown by this text, seen at place ").length ≤ 100 := by rw [Str.length_append]; show 0 + _ ≤ _; omega
  have h4 : (Str.empty ++ Str.ofString "no statement is shown by this text, seen at place " ++ Str.ofString (toString ((i : Nat) : Int))).length ≤ 100 := by rw [Str.length_append, Str.length_append]; show 0 + _ + _ ≤ _; omega
  exact ⟨Nat.le_of_lt (small1000 (by omega)), h2, Nat.le_of_lt (small1000 (by omega)), Nat.le_of_lt (small1000 (by omega)), _, _, he, T, he, q⟩
theorem raiseT {C ea : Addr} {n : Nat} {H : Hp} {E : XK} (hn : n ≤ 5000) (hea : H ea = none) (q : Raise C H E n) :
    sp_xinitN C [.ref ea, .int (n : Nat)] (upd H ea (ExcO ea (.ref C) none none)) (fun r H2 => r = V.non ∧ ∃ dd, H2 ea = some (ExcO ea (.ref C) dd none) ∧ (∀ d : Addr, dd = some d → d ≠ ea) ∧ Same H H2 ∧ ∀ H' : Hp, Xtd H ea (.ref C) dd H' → (∀ (d : Addr) (o : HO), dd = some d → H2 d = some o → H' d = some o) → E (.ref ea) dd H') E0 :=
  ⟨ea, n, none, rfl, hn, upd_same, fun d hd hde => ⟨rfl, some d, upd_same, fun d' e => by cases e; exact hde, ((same_new hea _).trans (same_new hd _)).write hea, fun H' hx hk => q ea d H' hx (hk d _ rfl (by rw [upd_ne hde, upd_same]))⟩⟩
theorem sign_is {x : Str} {a c : Nat} (ha : a ≤ x.length) : (Txt.slice x (some (a : Int)) (some ((a : Int) + 1)) = ⟨#[c]⟩) ↔ (x.cps.toList.drop a).head? = some c := by
  cases hd : x.cps.toList.drop a with
  | nil =>
    rw [sign_end ha hd]
    constructor
    · intro z; have := congrArg (fun y : Str => y.cps.toList) z; cases this
    · intro z; cases z
  | cons d r =>
    rw [sign_at hd, str1_inj, List.head?_cons, Option.some.injEq]
theorem ok_past {k : Nat} {f_past : Addr} {fd_past : FuncData} (F_past : Fun K "past" "past" s_past f_past fd_past) {aNoText : Addr} (m_NoText : mg "NoText" = some (.ref aNoText)) {f_NoText___init__ : Addr} {fd_NoText___init__ : FuncData} (G_NoText___init__ : FnOk P w K mg base CX0 k f_NoText___init__ fd_NoText___init__ ["self", "at"] (sp_xinitN aNoText)) (b_NoText___init__ : Binds K fd_NoText___init__ ["self", "at"] []) (x_NoText : XClsI K aNoText f_NoText___init__) : FnOk P w K mg base (CXe P w) (k + 1 + 1) f_past fd_past ["text", "at", "sign"] (sp_pastX aNoText) := by
  refine F_past.okX sc_past (fun vs H Q E h => ?_) (fun cdv A outer s H vs Q E hr h => ?_)
  · obtain ⟨x, a, c, rfl, _⟩ := h
    rfl
  obtain ⟨x, a, c, rfl, hP, q, qe⟩ := h
  refine ⟨_, (pss_cons (ps_if (pt_cmpR (op_ne) (pe_slice sl_str (pv 0) (po_some (pv 1)) (po_some (pe_op op_add (pv 1) pe_int))) (pv 2) (nomark _))
    (pss_one (ps_raiseI G_NoText___init__ hr b_NoText___init__ xok_cxOf rfl (by exact rfl) m_NoText x_NoText (pa_cons (pv 1) pa_nil)))
    pss_nil)
  (pss_one (ps_ret (pe_op op_add (pv 1) pe_int)))), ?_⟩
  walk_at "rdx_1"
  refine ⟨Nat.le_of_lt (small1M (Nat.le_trans hP.1 (by decide))), ?_⟩
  by_cases hc : (x.cps.toList.drop a).head? = some c
  · rw [decide_eq_true ((sign_is hP.2).mpr hc), if_neg (by decide)]
    exact q hc
  · rw [decide_eq_false (fun z => hc ((sign_is hP.2).mp z)), if_pos (by rfl)]
    exact ⟨by decide, fun ea hea => raiseT (Nat.le_trans hP.2 hP.1) hea (qe hc)⟩
theorem ok_at_end {k : Nat} {f_at_end : Addr} {fd_at_end : FuncData} (F_at_end : Fun K "at_end" "at_end" s_at_end f_at_end fd_at_end) {aNoText : Addr} (m_NoText : mg "NoText" = some (.ref aNoText)) {f_NoText___init__ : Addr} {fd_NoText___init__ : FuncData} (G_NoText___init__ : FnOk P w K mg base CX0 k f_NoText___init__ fd_NoText___init__ ["self", "at"] (sp_xinitN aNoText)) (b_NoText___init__ : Binds K fd_NoText___init__ ["self", "at"] []) (x_NoText : XClsI K aNoText f_NoText___init__) (m_len : mg "len" = none) : FnOk P w K mg base (CXe P w) (k + 1 + 1) f_at_end fd_at_end ["text", "at", "statement"] (sp_atendX aNoText) := by
  refine F_at_end.okX sc_at_end (fun vs H Q E h => ?_) (fun cdv A outer s H vs Q E hr h => ?_)
  · obtain ⟨x, a, v, rfl, _⟩ := h
    rfl
  obtain ⟨x, a, v, rfl, hP, q, qe⟩ := h
  refine ⟨_, (pss_cons (ps_if (pt_cmpR (op_lt) (pv 1) (pe_callB call_len_str (by exact rfl) m_len Ken.boot_len (pa_cons (pv 0) pa_nil)) (nomark _))
    (pss_one (ps_raiseI G_NoText___init__ hr b_NoText___init__ xok_cxOf rfl (by exact rfl) m_NoText x_NoText (pa_cons (pv 1) pa_nil)))
    pss_nil)
  (pss_one (ps_ret (pv 2)))), ?_⟩
  walk_at "rdx_1"
  refine ⟨Nat.le_of_lt (small1M (Nat.le_trans hP.1 (by decide))), ?_⟩
  have h2 := hP.2
  by_cases hc : a < x.length
  · rw [if_pos (by omega)]
    exact ⟨by decide, fun ea hea => raiseT (Nat.le_trans hP.2 hP.1) hea (qe hc)⟩
  · rw [if_neg (by omega)]
    exact q (by omega)
theorem ok_negated {k : Nat} {f_negated : Addr} {fd_negated : FuncData} (F_negated : Fun K "negated" "negated" s_negated f_negated fd_negated) {aLOW : Addr} (m_LOW : mg "LOW" = some (.ref aLOW)) (t_LOW : ∀ H, SqT K H aLOW [.str "low"]) : FnOk P w K mg base CX0 (k + 1) f_negated fd_negated ["statement"] (sp_neg K) := by
  refine F_negated.ok sc_negated (fun vs H Q E h => ?_) (fun cdv A outer s H vs Q E hr h => ?_)
  · obtain ⟨x, v, rfl, _⟩ := h
    rfl
  obtain ⟨v, t, rfl, hT, q⟩ := h
  refine ⟨_, (pss_one (ps_ret (pe_tup (pa_cons pe_str (pa_cons (pv 0) (pa_cons (pe_glob (v := .ref aLOW) (by exact rfl) m_LOW (by exact rfl)) pa_nil)))))), ?_⟩
  walk_at "rdx_1"
  exact ⟨by decide, fun p hp => q _ _ (same_new hp _) (isT_nd.mpr ⟨p, v, .ref aLOW, rfl, .inl (.inl upd_same), hT.keep (keepT_new hp), isT_low.mpr ⟨aLOW, rfl, t_LOW _⟩⟩)⟩
theorem ok_openings_end {k : Nat} {f_openings_end : Addr} {fd_openings_end : FuncData} (F_openings_end : Fun K "openings_end" "openings_end" s_openings_end f_openings_end fd_openings_end) : FnOk P w K mg base CX0 (k + 1) f_openings_end fd_openings_end ["text", "at"] sp_opens := by
  refine F_openings_end.ok sc_openings_end (fun vs H Q E h => ?_) (fun cdv A outer s H vs Q E hr h => ?_)
  · obtain ⟨x, v, _, _, rfl, _⟩ := h
    rfl
  obtain ⟨x, a, os, r, rfl, hos, hr0, hA, q⟩ := h
  refine ⟨_, (pss_cons (ps_while PassesOwn.never (pt_cmpR (op_in_seq) (pe_slice sl_str (pv 0) (po_some (pv 1)) (po_some (pe_op op_add (pv 1) pe_int))) (pe_tup (pa_cons pe_str (pa_cons pe_str pa_nil))) (by with_unfolding_all rfl))
    (pss_one (ps_aug (i := 1) sc_openings_end.nd rfl (Or.inl rfl) pe_int ip_add)))
  (pss_one (ps_ret (pv 1)))), ?_⟩
  walk_at "rdx_1"
  refine ⟨fun m σ' H' => ∃ (b : Nat) (ps : List Nat), m = ps.length ∧ σ' = [some (.str x), some (.int b)] ∧ Same H H' ∧ (∀ c ∈ ps, c = 40 ∨ c = 126) ∧ At x b (ps ++ r) ∧ b + ps.length = a + os.length, ⟨_, a, os, rfl, rfl, Same.refl _, hos, hA, rfl⟩, ?_⟩
  rintro m σ1 H1 ⟨b, ps, rfl, rfl, e1, hps, hB, hb⟩
  have sm : x.length ≤ sizeLine := Nat.le_of_lt (small1M (Nat.le_trans hA.1 (by decide)))
  walk_at "rdx_1"
  refine ⟨sm, by decide, fun p hp => ⟨_, .inr (.inl (.inl upd_same)), rfl, rfl, ?_⟩⟩
  rw [if_neg Bool.false_ne_true]
  have e2 : Same H (upd H1 p (.tup [.str "(", .str "~"])) := e1.trans (same_new hp _)
  cases ps with
  | nil =>
    have z : inV (.str (Txt.slice x (some (b : Int)) (some ((b : Int) + 1)))) [.str "(", .str "~"] = false := by
      cases r with
      | nil => rw [sign_end hB.2.1 hB.2.2, in_open]; decide
      | cons c r =>
        rw [sign_at hB.2.2, in_open1, decide_eq_false hr0.1, decide_eq_false hr0.2]; rfl
    rw [z, if_neg Bool.false_ne_true]
    have := q _ e2
    rw [← hb] at this
    exact this
  | cons c ps =>
    have z : inV (.str (Txt.slice x (some (b : Int)) (some ((b : Int) + 1)))) [.str "(", .str "~"] = true := by
      rw [sign_at hB.2.2, in_open1]
      rcases hps c List.mem_cons_self with rfl | rfl <;> decide
    rw [z, if_pos rfl]
    exact ⟨_, fun σ' H' z => z, ps.length, Nat.lt_succ_self _, b + 1, ps, rfl, rfl, e2, fun d hd => hps d (List.mem_cons_of_mem _ hd), hB.step, by rw [← hb, List.length_cons]; omega⟩
theorem ok_word_end {k : Nat} {f_word_end : Addr} {fd_word_end : FuncData} (F_word_end : Fun K "word_end" "word_end" s_word_end f_word_end fd_word_end) {tk8 : Tok} (m_LONGEST_WORD : mg "LONGEST_WORD" = some (.int 8 tk8)) : FnOk P w K mg base CX0 (k + 1) f_word_end fd_word_end ["text", "at"] sp_wendX := by
  refine F_word_end.ok sc_word_end (fun vs H Q E h => ?_) (fun cdv A outer s H vs Q E hr h => ?_)
  · obtain ⟨x, a, rfl, _⟩ := h
    rfl
  obtain ⟨x, a, rfl, hP, q⟩ := h
  refine ⟨_, (pss_cons (ps_set (i := 2) sc_word_end.nd rfl (Or.inl rfl) (pv 1))
  (pss_cons (ps_while PassesOwn.never ((pw_and (pt_cmpR (op_lt) (pv 2) (pe_op op_add (pv 1) (pe_glob (v := .int 8) (by exact rfl) m_LONGEST_WORD ⟨_, rfl⟩)) (nomark _)) (pw_and1 (pt_chain (op_le_str) (op_le_str) pe_str (pe_slice sl_str (pv 0) (po_some (pv 2)) (po_some (pe_op op_add (pv 2) pe_int))) pe_str)))).pt
    (pss_one (ps_aug (i := 2) sc_word_end.nd rfl (Or.inl rfl) pe_int ip_add)))
  (pss_one (ps_ret (pv 2))))), ?_⟩
  have lw := len_cps x
  have ha := hP.2
  have sm : x.length ≤ sizeLine := Nat.le_of_lt (small1M (Nat.le_trans hP.1 (by decide)))
  walk_at "rdx_1"
  refine ⟨fun m σ' H' => ∃ (j : Nat), m = 8 - j ∧ σ' = [some (.str x), some (.int a), some (.int ((a + j : Nat) : Int))] ∧ H' = H ∧ j ≤ 8 ∧ a + j ≤ x.length ∧ j + wendL (8 - j) (x.cps.toList.drop (a + j)) = wendL 8 (x.cps.toList.drop a), ⟨_, 0, rfl, rfl, rfl, Nat.zero_le _, ha, by rw [Nat.zero_add]; rfl⟩, ?_⟩
  rintro m σ1 H1 ⟨j, rfl, rfl, rfl, hj, hjl, hw⟩
  have q' : wendL (8 - j) (x.cps.toList.drop (a + j)) = 0 → Q (.int ((a + j : Nat) : Int)) H1 := fun e => by rw [e, Nat.add_zero] at hw; rw [hw]; exact q
  walk_at "rdx_1"
  refine ite2 (fun hlt => ⟨sm, ?_⟩) (fun hge => ?_)
  · obtain ⟨n, hn⟩ : ∃ n, 8 - j = n + 1 := ⟨7 - j, by omega⟩
    cases hd : x.cps.toList.drop (a + j) with
    | nil =>
      rw [sign_end hjl hd, if_neg (by decide), if_neg Bool.false_ne_true]
      exact q' (by rw [hd, hn]; rfl)
    | cons c r =>
      rw [sign_at hd]
      have e : wendL (8 - j) (x.cps.toList.drop (a + j)) = if 97 ≤ c ∧ c ≤ 122 then wendL n r + 1 else 0 := by rw [hd, hn]; rfl
      by_cases h1 : c < 97
      · rw [if_neg (by
          have : (([c] : List Nat) < [97]) := lt1.mpr h1
          have e : decide (([c] : List Nat) < ("a" : Str).cps.toList) = true := decide_eq_true this
          show ¬ ((!decide (([c] : List Nat) < ("a" : Str).cps.toList)) = true)
          rw [e]; decide), if_neg Bool.false_ne_true]
        exact q' (by rw [e, if_neg (by omega)])
      · rw [if_pos (by
          rw [Bool.not_eq_true', decide_eq_false_iff_not]
          show ¬ (([c] : List Nat) < [97])
          rw [lt1]; omega)]
        by_cases h2 : 122 < c
        · rw [if_neg (by
            have : (([122] : List Nat) < [c]) := lt1.mpr h2
            have e : decide (("z" : Str).cps.toList < ([c] : List Nat)) = true := decide_eq_true this
            show ¬ ((!decide (("z" : Str).cps.toList < ([c] : List Nat))) = true)
            rw [e]; decide)]
          exact q' (by rw [e, if_neg (by omega)])
        · rw [if_pos (by
            rw [Bool.not_eq_true', decide_eq_false_iff_not]
            show ¬ (([122] : List Nat) < [c])
            rw [lt1]; omega)]
          have hdl : (x.cps.toList.drop (a + j)).length = x.cps.toList.length - (a + j) := List.length_drop
          rw [hd, List.length_cons] at hdl
          refine ⟨_, fun σ' H' z => z, 8 - (j + 1), by omega, j + 1, rfl, rfl, rfl, by omega, by omega, ?_⟩
          have hr2 : x.cps.toList.drop (a + (j + 1)) = r := by rw [← Nat.add_assoc, ← List.drop_drop, hd]; rfl
          rw [hr2, show 8 - (j + 1) = n by omega, ← hw, e, if_pos (by omega)]; omega
  · rw [if_neg Bool.false_ne_true]
    exact q' (by rw [show 8 - j = 0 by omega]; rfl)
theorem ok_read_simple {k : Nat} {f_read_simple : Addr} {fd_read_simple : FuncData} (F_read_simple : Fun K "read_simple" "read_simple" s_read_simple f_read_simple fd_read_simple) {f_word_end : Addr} {fd_word_end : FuncData} (G_word_end : FnOk P w K mg base CX0 (k + 1) f_word_end fd_word_end ["text", "at"] sp_wendX) (m_word_end : mg "word_end" = some (.ref f_word_end)) (k_word_end : PySem.W.keepIn K (.ref f_word_end) = true) (b_word_end : Binds K fd_word_end ["text", "at"] []) {aLOW : Addr} (m_LOW : mg "LOW" = some (.ref aLOW)) (t_LOW : ∀ H, SqT K H aLOW [.str "low"]) {aNoText : Addr} (m_NoText : mg "NoText" = some (.ref aNoText)) {f_NoText___init__ : Addr} {fd_NoText___init__ : FuncData} (G_NoText___init__ : FnOk P w K mg base CX0 k f_NoText___init__ fd_NoText___init__ ["self", "at"] (sp_xinitN aNoText)) (b_NoText___init__ : Binds K fd_NoText___init__ ["self", "at"] []) (x_NoText : XClsI K aNoText f_NoText___init__) : FnOk P w K mg base (CXe P w) (k + 1 + 1) f_read_simple fd_read_simple ["text", "at"] (sp_simX K aNoText) := by
  refine F_read_simple.okX sc_read_simple (fun vs H Q E h => ?_) (fun cdv A outer s H vs Q E hr h => ?_)
  · obtain ⟨x, a, rfl, _⟩ := h
    rfl
  obtain ⟨x, a, rfl, hP, q, qe⟩ := h
  refine ⟨_, (pss_cons (ps_if (pt_cmpR (op_eq) (pe_slice sl_str (pv 0) (po_some (pv 1)) (po_some (pe_op op_add (pv 1) pe_int))) pe_str (nomark _))
    (pss_one (ps_ret (pe_tup (pa_cons (pe_glob (v := .ref aLOW) (by exact rfl) m_LOW (by exact rfl)) (pa_cons (pe_op op_add (pv 1) pe_int) pa_nil)))))
    pss_nil)
  (pss_cons (ps_set (i := 2) sc_read_simple.nd rfl (Or.inl rfl) (pe_call G_word_end hr (by exact rfl) m_word_end k_word_end b_word_end .nil pass0 (pa_cons (pv 0) (pa_cons (pv 1) pa_nil))))
  (pss_cons (ps_if (pt_cmpR (op_eq) (pv 2) (pv 1) (nomark _))
    (pss_one (ps_raiseI G_NoText___init__ hr b_NoText___init__ xok_cxOf rfl (by exact rfl) m_NoText x_NoText (pa_cons (pv 1) pa_nil)))
    pss_nil)
  (pss_one (ps_ret (pe_tup (pa_cons (pe_tup (pa_cons pe_str (pa_cons (pe_slice sl_str (pv 0) (po_some (pv 1)) (po_some (pv 2))) pa_nil))) (pa_cons (pv 2) pa_nil)))))))), ?_⟩
  have sm : x.length ≤ sizeLine := Nat.le_of_lt (small1M (Nat.le_trans hP.1 (by decide)))
  walk_at "rdx_1"
  refine ⟨sm, ?_⟩
  by_cases h0 : (x.cps.toList.drop a).head? = some 48
  · rw [if_pos (show Txt.slice x (some (a : Int)) (some ((a : Int) + 1)) = "0" from (sign_is hP.2).mpr h0)]
    exact ⟨by decide, fun p hp => q 1 (if_pos h0) p (.ref aLOW) .low _ (same_new hp _) (.inl (.inl upd_same)) (isT_low.mpr ⟨aLOW, rfl, t_LOW _⟩)⟩
  · rw [if_neg (show ¬ Txt.slice x (some (a : Int)) (some ((a : Int) + 1)) = "0" from fun z => h0 ((sign_is hP.2).mp z))]
    refine ⟨x, a, rfl, hP, scal_int _ _, ?_⟩
    by_cases hw : wendL 8 (x.cps.toList.drop a) = 0
    · rw [if_pos (by rw [hw]; rfl)]
      exact ⟨by decide, fun ea hea => raiseT (Nat.le_trans hP.2 hP.1) hea (qe (by unfold sim; rw [if_neg h0, if_pos hw]))⟩
    · rw [if_neg (by intro z; have := V.int.inj z; omega)]
      have hs : sim (x.cps.toList.drop a) = some (wendL 8 (x.cps.toList.drop a)) := by unfold sim; rw [if_neg h0, if_neg hw]
      refine ⟨_, rfl, sm, by decide, fun p hp => ⟨by decide, fun p1 hp1 => ?_⟩⟩
      exact q _ hs p1 (.ref p) (.ltr _) _ ((same_new hp _).trans (same_new hp1 _)) (.inl (.inl upd_same)) (IsT.keep (isT_ltr.mpr ⟨p, rfl, .inl (.inl upd_same)⟩) (keepT_new hp1))
theorem kin_at (z : Str) (o : Option Nat) (hz : match o with | none => z = Str.empty | some c => z = ⟨#[c]⟩) : List.lookup z [(("&" : Str), V.str "both"), (("|" : Str), V.str "one"), ((">" : Str), V.str "then")] = (kdOf o).map fun k => V.str k.str := by
  have step : ∀ (c d : Nat), ((⟨#[c]⟩ : Str) == ⟨#[d]⟩) = decide (c = d) := fun c d => by
    by_cases h : c = d
    · subst h; simp
    · rw [decide_eq_false h]
      exact beq_eq_false_iff_ne.mpr fun z => h (str1_inj.mp z)
  cases o with
  | none => subst hz; rfl
  | some c =>
    subst hz
    show List.lookup (⟨#[c]⟩ : Str) [(⟨#[38]⟩, V.str "both"), (⟨#[124]⟩, V.str "one"), (⟨#[62]⟩, V.str "then")] = _
    rw [List.lookup_cons, step, List.lookup_cons, step, List.lookup_cons, step]
    by_cases h1 : c = 38
    · subst h1; rfl
    · rw [decide_eq_false h1]
      by_cases h2 : c = 124
      · subst h2; rfl
      · rw [decide_eq_false h2]
        by_cases h3 : c = 62
        · subst h3; rfl
        · rw [decide_eq_false h3]
          have : kdOf (some c) = none := by
            unfold kdOf
            split
            · rename_i e; exact absurd (Option.some.inj e) h1
            · rename_i e; exact absurd (Option.some.inj e) h2
            · rename_i e; exact absurd (Option.some.inj e) h3
            · rfl
          rw [this]; rfl
theorem ok_read_kind {k : Nat} {f_read_kind : Addr} {fd_read_kind : FuncData} (F_read_kind : Fun K "read_kind" "read_kind" s_read_kind f_read_kind fd_read_kind) {f_past : Addr} {fd_past : FuncData} {aNoText : Addr} (G_past : FnOk P w K mg base (CXe P w) (k + 1) f_past fd_past ["text", "at", "sign"] (sp_pastX aNoText)) (m_past : mg "past" = some (.ref f_past)) (k_past : PySem.W.keepIn K (.ref f_past) = true) (b_past : Binds K fd_past ["text", "at", "sign"] []) {aKINDS : Addr} (m_KINDS : mg "KINDS" = some (.ref aKINDS)) (D_KINDS : KDict K w aKINDS [("&", .str "both"), ("|", .str "one"), (">", .str "then")]) (m_NoText : mg "NoText" = some (.ref aNoText)) {f_NoText___init__ : Addr} {fd_NoText___init__ : FuncData} (G_NoText___init__ : FnOk P w K mg base CX0 k f_NoText___init__ fd_NoText___init__ ["self", "at"] (sp_xinitN aNoText)) (b_NoText___init__ : Binds K fd_NoText___init__ ["self", "at"] []) (x_NoText : XClsI K aNoText f_NoText___init__) : FnOk P w K mg base (CXe P w) (k + 1 + 1) f_read_kind fd_read_kind ["text", "at"] (sp_kindX K aNoText) := by
  refine F_read_kind.okX sc_read_kind (fun vs H Q E h => ?_) (fun cdv A outer s H vs Q E hr h => ?_)
  · obtain ⟨x, a, rfl, _⟩ := h
    rfl
  obtain ⟨x, a, rfl, hP, q, qe⟩ := h
  refine ⟨_, (pss_cons (ps_set (i := 1) sc_read_kind.nd rfl (Or.inl rfl) (pe_call G_past hr (by exact rfl) m_past k_past b_past .nil (passX xok_cxOf) (pa_cons (pv 0) (pa_cons (pv 1) (pa_cons pe_str pa_nil)))))
  (pss_cons (ps_set (i := 2) sc_read_kind.nd rfl (Or.inl rfl) (pe_slice sl_str (pv 0) (po_some (pv 1)) (po_some (pe_op op_add (pv 1) pe_int))))
  (pss_cons (ps_if (pt_cmp (pc_knotin D_KINDS rfl m_KINDS (pv 2)) (by with_unfolding_all rfl))
    (pss_one (ps_raiseI G_NoText___init__ hr b_NoText___init__ xok_cxOf rfl (by exact rfl) m_NoText x_NoText (pa_cons (pv 1) pa_nil)))
    pss_nil)
  (pss_one (ps_ret (pe_tup (pa_cons (pe_kdget D_KINDS rfl m_KINDS (pv 2)) (pa_cons (pe_call G_past hr (by exact rfl) m_past k_past b_past .nil (passX xok_cxOf) (pa_cons (pv 0) (pa_cons (pe_op op_add (pv 1) pe_int) (pa_cons pe_str pa_nil)))) pa_nil)))))))), ?_⟩
  have sm : x.length ≤ sizeLine := Nat.le_of_lt (small1M (Nat.le_trans hP.1 (by decide)))
  have lx := len_cps x
  have hd1 : (x.cps.toList.drop a).drop 1 = x.cps.toList.drop (a + 1) := List.drop_drop
  have hd2 : (x.cps.toList.drop a).drop 2 = x.cps.toList.drop (a + 2) := List.drop_drop
  have more : ∀ (b : Nat) {c : Nat}, (x.cps.toList.drop b).head? = some c → b + 1 ≤ x.length := fun b c h => by
    rw [lx]
    by_cases hb : b < x.cps.toList.length
    · exact hb
    · rw [List.drop_of_length_le (by omega)] at h; cases h
  walk_at "rdx_1"
  refine ⟨x, a, 32, rfl, hP, fun hc => ⟨_, rfl, _, rfl, sm, ?_⟩, fun hc => ?_⟩
  rotate_left
  · have := qe 0 (by unfold kin; rw [if_neg hc])
    exact this
  have p1 : Pl x (a + 1) := ⟨hP.1, more a hc⟩
  have ek := kin_at (Txt.slice x (some ((a : Int) + 1)) (some ((a : Int) + 1 + 1))) (x.cps.toList.drop (a + 1)).head? (by
    cases hd : x.cps.toList.drop (a + 1) with
    | nil => exact sign_end (a := a + 1) p1.2 hd
    | cons d r => exact sign_at (a := a + 1) hd)
  rw [ek]
  cases hk : kdOf (x.cps.toList.drop (a + 1)).head? with
  | none =>
    rw [if_pos (by rfl)]
    have e1 : kin (x.cps.toList.drop a) = .inr 1 := by unfold kin; rw [if_pos hc, hd1, hk]
    have e2 : ((a : Int) + 1) = ((a + 1 : Nat) : Int) := rfl
    rw [e2]
    exact ⟨by decide, fun ea hea => raiseT (Nat.le_trans p1.2 p1.1) hea (qe 1 e1)⟩
  | some kd =>
    rw [if_neg (by intro z; cases z)]
    have hc1 : ∃ c, (x.cps.toList.drop (a + 1)).head? = some c := by
      cases h : (x.cps.toList.drop (a + 1)).head? with
      | none => rw [h] at hk; cases hk
      | some c => exact ⟨c, rfl⟩
    obtain ⟨c1, hc1⟩ := hc1
    have p2 : Pl x (a + 2) := ⟨hP.1, more (a + 1) hc1⟩
    refine ⟨_, rfl, _, rfl, x, a + 2, 32, rfl, p2, fun h2 => ⟨by decide, fun p hp => ?_⟩, fun h2 => ?_⟩
    · exact q kd (by unfold kin; rw [if_pos hc, hd1, hk, hd2]; exact if_pos h2) p _ (same_new hp _) (.inl (.inl (by rw [upd_same]; rfl)))
    · exact qe 2 (by unfold kin; rw [if_pos hc, hd1, hk, hd2]; exact if_neg h2)
end
set_option Elab.async false
set_option linter.all false
set_option maxRecDepth 100000
set_option maxHeartbeats 4000000
noncomputable abbrev s_read : Stmt := top 25
theorem sc_read : FnScope ["text", "begun", "at", "end", "statement", "kind", "first"] ["text"] (defScope s_read) := ⟨rfl, rfl, rfl, by decide +kernel, rfl, by decide +kernel, by decide +kernel⟩
section
variable {P : Program} {w : World} {K : PySem.W.Frag} {mg : Str → Option Value} {base : Heap}
noncomputable def opsL : List Nat → List Nat
  | [] => []
  | c :: r => if c = 40 ∨ c = 126 then c :: opsL r else []
noncomputable def opsR : List Nat → List Nat
  | [] => []
  | c :: r => if c = 40 ∨ c = 126 then opsR r else c :: r
theorem ops_app : ∀ l : List Nat, opsL l ++ opsR l = l
  | [] => rfl
  | c :: r => by
    show (if c = 40 ∨ c = 126 then c :: opsL r else []) ++ (if c = 40 ∨ c = 126 then opsR r else c :: r) = _
    by_cases h : c = 40 ∨ c = 126
    · rw [if_pos h, if_pos h, List.cons_append, ops_app r]
    · rw [if_neg h, if_neg h]; rfl
theorem opsL_all : ∀ (l : List Nat), ∀ c ∈ opsL l, c = 40 ∨ c = 126
  | [], c, h => by cases h
  | d :: r, c, h => by
    have h' : c ∈ (if d = 40 ∨ d = 126 then d :: opsL r else []) := h
    by_cases hd : d = 40 ∨ d = 126
    · rw [if_pos hd] at h'
      rcases List.mem_cons.mp h' with rfl | h'
      · exact hd
      · exact opsL_all r c h'
    · rw [if_neg hd] at h'; cases h'
theorem opsR_no : ∀ l : List Nat, noOpen (opsR l)
  | [] => trivial
  | c :: r => by
    show noOpen (if c = 40 ∨ c = 126 then opsR r else c :: r)
    by_cases h : c = 40 ∨ c = 126
    · rw [if_pos h]; exact opsR_no r
    · rw [if_neg h]; exact ⟨fun z => h (.inl z), fun z => h (.inr z)⟩
theorem opens_get : ∀ (l : List Nat) (i c : Nat), l[i]? = some c → (opens l)[i]? = some (if c = 126 then Fr.ng else .op .both .low [])
  | [], _, _, h => by cases h
  | d :: r, 0, c, h => by
    rw [List.getElem?_cons_zero] at h
    cases h
    rfl
  | d :: r, i + 1, c, h => by
    rw [List.getElem?_cons_succ] at h
    show (_ :: opens r)[i + 1]? = _
    rw [List.getElem?_cons_succ]
    exact opens_get r i c h
theorem ok_read {k : Nat} {f_read : Addr} {fd_read : FuncData} (F_read : Fun K "read" "read" s_read f_read fd_read) {aNoText : Addr} {f_openings_end : Addr} {fd_openings_end : FuncData} (G_openings_end : FnOk P w K mg base CX0 k f_openings_end fd_openings_end ["text", "at"] (sp_opens)) (m_openings_end : mg "openings_end" = some (.ref f_openings_end)) (k_openings_end : PySem.W.keepIn K (.ref f_openings_end) = true) (b_openings_end : Binds K fd_openings_end ["text", "at"] []) {f_read_simple : Addr} {fd_read_simple : FuncData} (G_read_simple : FnOk P w K mg base (CXe P w) k f_read_simple fd_read_simple ["text", "at"] (sp_simX K aNoText)) (m_read_simple : mg "read_simple" = some (.ref f_read_simple)) (k_read_simple : PySem.W.keepIn K (.ref f_read_simple) = true) (b_read_simple : Binds K fd_read_simple ["text", "at"] []) {f_read_kind : Addr} {fd_read_kind : FuncData} (G_read_kind : FnOk P w K mg base (CXe P w) k f_read_kind fd_read_kind ["text", "at"] (sp_kindX K aNoText)) (m_read_kind : mg "read_kind" = some (.ref f_read_kind)) (k_read_kind : PySem.W.keepIn K (.ref f_read_kind) = true) (b_read_kind : Binds K fd_read_kind ["text", "at"] []) {f_at_end : Addr} {fd_at_end : FuncData} (G_at_end : FnOk P w K mg base (CXe P w) k f_at_end fd_at_end ["text", "at", "statement"] (sp_atendX aNoText)) (m_at_end : mg "at_end" = some (.ref f_at_end)) (k_at_end : PySem.W.keepIn K (.ref f_at_end) = true) (b_at_end : Binds K fd_at_end ["text", "at", "statement"] []) {f_negated : Addr} {fd_negated : FuncData} (G_negated : FnOk P w K mg base CX0 k f_negated fd_negated ["statement"] (sp_neg K)) (m_negated : mg "negated" = some (.ref f_negated)) (k_negated : PySem.W.keepIn K (.ref f_negated) = true) (b_negated : Binds K fd_negated ["statement"] []) {f_past : Addr} {fd_past : FuncData} (G_past : FnOk P w K mg base (CXe P w) k f_past fd_past ["text", "at", "sign"] (sp_pastX aNoText)) (m_past : mg "past" = some (.ref f_past)) (k_past : PySem.W.keepIn K (.ref f_past) = true) (b_past : Binds K fd_past ["text", "at", "sign"] []) : FnOk P w K mg base (CXe P w) (k + 1) f_read fd_read ["text"] (sp_readX K aNoText) := by
  refine F_read.okX sc_read (fun vs H Q E h => ?_) (fun cdv A outer s H vs Q E hr h => ?_)
  · obtain ⟨x, rfl, _⟩ := h
    rfl
  obtain ⟨x, rfl, hx, q, qe⟩ := h
  have sm : x.length ≤ sizeLine := Nat.le_of_lt (small1M (Nat.le_trans hx (by decide)))
  have lx := len_cps x
  refine ⟨_, (pss_cons (ps_set (i := 1) sc_read.nd rfl (Or.inl rfl) (pe_lst pa_nil))
  (pss_cons (ps_set (i := 2) sc_read.nd rfl (Or.inl rfl) pe_int)
  (pss_one (ps_while PassesOwn.leaving (pt_val pe_bl)
    (pss_cons (ps_set (i := 3) sc_read.nd rfl (Or.inl rfl) (pe_call G_openings_end hr (by exact rfl) m_openings_end k_openings_end b_openings_end .nil pass0 (pa_cons (pv 0) (pa_cons (pv 2) pa_nil))))
  (pss_cons (ps_expr (pe_bm PySem.F.plainAttrs_list PySem.F.slot_list_extend PySem.F.type_list_extend mt_extend (pv 1) (pa_cons (pe_lc (blk0 (N' := ["sign"]) (by decide +kernel) (by decide +kernel) rfl (by decide +kernel)) rfl (pi_str (pe_slice sl_str (pv 0) (po_some (pv 2)) (po_some (pv 3)))) (fun _ _ _ _ => (pg_name (i := 0) (show (["sign"] : List Str).Nodup from by decide +kernel) rfl (Or.inl rfl))) (fun _ _ _ _ => (pe_tup (pa_cons (pv 0) (pa_cons pe_non pa_nil))))) pa_nil)))
  (pss_cons (ps_asg (pe_call G_read_simple hr (by exact rfl) m_read_simple k_read_simple b_read_simple .nil (passX xok_cxOf) (pa_cons (pv 0) (pa_cons (pv 3) pa_nil))) (pg_tup rfl (pgs_cons (pg_name (i := 4) sc_read.nd rfl (Or.inl rfl)) (pgs_cons (pg_name (i := 2) sc_read.nd rfl (Or.inl rfl)) pgs_nil))))
  (pss_cons (ps_while PassesOwn.leaving ((pw_and (pt_truth (pv 1) (fun _ => rfl)) (pw_and1 (pt_cmpR (op_ne) (pe_ix ix_tup (pe_ix ix_list (pv 1) (pe_un un_neg pe_int) (fun _ _ => rfl)) pe_int (fun _ _ => rfl)) pe_str (nomark _))))).pt
    (pss_cons (ps_asg (pe_bm0 PySem.F.plainAttrs_list PySem.F.slot_list_pop PySem.F.type_list_pop mt_pop (pv 1)) (pg_tup rfl (pgs_cons (pg_name (i := 5) sc_read.nd rfl (Or.inl rfl)) (pgs_cons (pg_name (i := 6) sc_read.nd rfl (Or.inl rfl)) pgs_nil))))
  (pss_one (ps_if (pt_cmpR (op_eq) (pv 5) pe_str (nomark _))
    (pss_one (ps_set (i := 4) sc_read.nd rfl (Or.inl rfl) (pe_call G_negated hr (by exact rfl) m_negated k_negated b_negated .nil pass0 (pa_cons (pv 4) pa_nil))))
    (pss_cons (ps_set (i := 2) sc_read.nd rfl (Or.inl rfl) (pe_call G_past hr (by exact rfl) m_past k_past b_past .nil (passX xok_cxOf) (pa_cons (pv 0) (pa_cons (pv 2) (pa_cons pe_str pa_nil)))))
  (pss_one (ps_set (i := 4) sc_read.nd rfl (Or.inl rfl) (pe_tup (pa_cons (pv 5) (pa_cons (pv 6) (pa_cons (pv 4) pa_nil)))))))))))
  (pss_cons (ps_if (pt_not (pt_truth (pv 1) (fun _ => rfl)))
    (pss_one (ps_ret (pe_call G_at_end hr (by exact rfl) m_at_end k_at_end b_at_end .nil (passX xok_cxOf) (pa_cons (pv 0) (pa_cons (pv 2) (pa_cons (pv 4) pa_nil))))))
    pss_nil)
  (pss_cons (ps_asg (pe_call G_read_kind hr (by exact rfl) m_read_kind k_read_kind b_read_kind .nil (passX xok_cxOf) (pa_cons (pv 0) (pa_cons (pv 2) pa_nil))) (pg_tup rfl (pgs_cons (pg_name (i := 5) sc_read.nd rfl (Or.inl rfl)) (pgs_cons (pg_name (i := 2) sc_read.nd rfl (Or.inl rfl)) pgs_nil))))
  (pss_one (ps_asg (pe_tup (pa_cons (pv 5) (pa_cons (pv 4) pa_nil))) (pg_sub (pv 1) (pe_un un_neg pe_int) set_list))))))))))))), ?_⟩
  refine seq_then (fun σ' H' => ∃ lb, σ' = [some (.str x), some (.ref lb), none, none, none, none, none] ∧ Same H H' ∧ H lb = none ∧ H' lb = some (.lst [])) ?_ ?_
  rotate_left
  · intro C hC
    walk_at "rdx_1"
    exact ⟨by decide, fun p hp => hC _ _ ⟨p, rfl, same_new hp _, hp, upd_same⟩⟩
  rintro σ0 H0 ⟨lb, rfl, e0, f0, h0⟩
  refine seq_then (fun σ' H' => σ' = [some (.str x), some (.ref lb), some (.int 0), none, none, none, none] ∧ H' = H0) ?_ ?_
  rotate_left
  · intro C hC
    walk_at "rdx_1"
    exact hC _ _ ⟨rfl, rfl⟩
  rintro σ1 H1 ⟨rfl, rfl⟩
  refine ⟨fun m σ' H' => ∃ (a : Nat) (st : List V) (fs : List Fr) (x3 x4 x5 x6 : Option V), m = x.length - a ∧ σ' = [some (.str x), some (.ref lb), some (.int a), x3, x4, x5, x6] ∧ Same H H' ∧ H' lb = some (.lst st.reverse) ∧ DFrs K H' st fs ∧ fs.length ≤ a ∧ a ≤ x.length ∧ badS x = bad .wnt (opn fs) (x.cps.toList.drop a) a,
    ⟨_, 0, [], [], none, none, none, none, rfl, rfl, e0, h0, .nil, Nat.le_refl _, Nat.zero_le _, by rw [List.drop_zero]; rfl⟩, ?_⟩
  rintro m σ2 H2 ⟨a, st, fs, x3, x4, x5, x6, rfl, rfl, e2, h2, hd, hlen, ha, hB⟩
  refine ⟨_, rfl, iteT ⟨_, fun σ' H' z => z, ?_⟩⟩
  have hst : st.length = fs.length := Paired.length hd
  have hA : At x a (opsL (x.cps.toList.drop a) ++ opsR (x.cps.toList.drop a)) := ⟨hx, ha, (ops_app _).symm⟩
  have hno := opsR_no (x.cps.toList.drop a)
  have hall := opsL_all (x.cps.toList.drop a)
  have hA1 := hA.move
  have eB : badS x = bad .wnt (opn ((opens (opsL (x.cps.toList.drop a))).reverse ++ fs)) (opsR (x.cps.toList.drop a)) (a + (opsL (x.cps.toList.drop a)).length) := by
    rw [hB, ← bad_opens _ _ _ _ hall, ops_app]
  generalize opsL (x.cps.toList.drop a) = os at hA hall hA1 eB
  generalize opsR (x.cps.toList.drop a) = rs at hA hno hA1 eB
  refine seq_then (fun σ' H' => Same H H' ∧ H' lb = some (.lst st.reverse) ∧ DFrs K H' st fs ∧ σ' = [some (.str x), some (.ref lb), some (.int a), some (.int ((a + os.length : Nat) : Int)), x4, x5, x6]) ?_ ?_
  rotate_left
  · intro C hC
    walk_at "rdx_1"
    exact ⟨x, a, os, rs, rfl, hall, hno, hA, fun H' e => hC _ _ ⟨e2.trans e, e _ _ h2, DFrs.keep e.keepT hd, rfl⟩⟩
  rintro σ3 H3 ⟨e3, h3, hd3, rfl⟩
  have ol := opens_len os
  refine seq_then (fun σ' H' => ∃ st', Same H H' ∧ H' lb = some (.lst st'.reverse) ∧ DFrs K H' st' ((opens os).reverse ++ fs) ∧ σ' = [some (.str x), some (.ref lb), some (.int a), some (.int ((a + os.length : Nat) : Int)), x4, x5, x6]) ?_ ?_
  rotate_left
  · intro C hC
    walk_at "rdx_2"
    simp only [tDrop]
    walk_at "rdx_2"
    have hz : (Txt.slice x (some (a : Int)) (some ((a + os.length : Nat) : Int))).cps.toList = os := by
      rw [slice_cps _ _ _ (by omega) hA1.2.1, hA.2.2, Nat.add_sub_cancel_left, List.take_left]
    have hzl : (Txt.slice x (some (a : Int)) (some ((a + os.length : Nat) : Int))).length = os.length := by rw [len_cps, hz]
    refine ⟨.inl ⟨rfl, _, SqL.of h3⟩, sm, ?_, fun acc hacc => ?_⟩
    · rw [← Array.all_toList, hz, List.all_eq_true]
      intro c hc
      rcases hall c hc with rfl | rfl <;> rfl
    refine lcW_str (fun i ys H' => Same H3 H' ∧ H' acc = some (.lst ys) ∧ Paired (DFr K H') ys ((opens os).take i)) ⟨same_new hacc _, upd_same, .nil⟩ (fun i ys H' hi ⟨e, h, hy⟩ => ⟨h, ?_⟩) (fun i c ys H' hc ⟨e, h, hy⟩ C' hC' => ?_) (fun ys H' ⟨e, h, hy⟩ => ?_)
    · have := Paired.length hy
      rw [List.length_take] at this
      exact small1M (by have := hA1.2.1; omega)
    · rw [hz] at hc
      have hg := opens_get os i c hc
      walk_at "rdx_1"
      refine ⟨wk_head, by decide, fun p hp => ?_⟩
      have hacc' : upd H' p (.tup [.str ⟨#[c]⟩, .non]) acc = some (.lst ys) := by rw [upd_ne (ne_of_none h hp)]; exact h
      refine hC' _ _ hacc' ⟨(e.trans (same_new hp _)).write hacc, upd_same, ?_⟩
      rw [List.take_succ, hg]
      refine Paired.snoc (Paired.mapP hy fun _ _ q => q.keep ((keepT_new hp).trans (keepT_lst hacc'))) ?_
      have ht : SqT K (upd (upd H' p (.tup [.str ⟨#[c]⟩, .non])) acc (.lst (ys ++ [.ref p]))) p [.str ⟨#[c]⟩, .non] := keepT_lst hacc' _ _ (.inl (.inl upd_same))
      rcases hall c (List.mem_of_getElem? hc) with rfl | rfl
      · exact ⟨p, rfl, ht⟩
      · exact ⟨p, rfl, ht⟩
    · rw [hzl, ← ol, List.take_length] at hy
      have hl1 := Paired.length hy
      have h3' := e _ _ h3
      refine ⟨acc, rfl, st.reverse, h3', ys, h, ?_, hC _ _ ⟨ys.reverse ++ st, (e3.trans e).write f0, by rw [upd_same, List.reverse_append, List.reverse_reverse], ?_, rfl⟩⟩
      · rw [List.length_reverse]
        have := hA1.2.1
        exact Nat.le_of_lt (small1M (by omega))
      · exact DFrs.keep (keepT_lst h3') (paired_app (paired_rev hy) (DFrs.keep e.keepT hd3))
  rintro σ4 H4 ⟨st', e4, h4, hd4, rfl⟩
  have hlen' : ((opens os).reverse ++ fs).length ≤ a + os.length := by
    rw [List.length_append, List.length_reverse, ol]; omega
  generalize (opens os).reverse ++ fs = fs' at hd4 eB hlen'
  have eS := bad_sim (os := opn fs') (i := a + os.length) hno
  rw [← hA1.2.2] at eS eB
  rw [eS] at eB
  refine seq_then (fun σ' H' => ∃ v u x3 n, Same H H' ∧ H' lb = some (.lst st'.reverse) ∧ DFrs K H' st' fs' ∧ IsT K H' v u ∧ sim (x.cps.toList.drop (a + os.length)) = some n ∧ σ' = [some (.str x), some (.ref lb), some (.int ((a + os.length + n : Nat) : Int)), x3, some v, x5, x6]) ?_ ?_
  rotate_left
  · intro C hC
    walk_at "rdx_1"
    refine ⟨x, a + os.length, rfl, ⟨hx, hA1.2.1⟩, fun n hn p v u H' e hs hv => ?_, fun hn => ?_⟩
    · exact ⟨p, rfl, _, hs, rfl, _, _, rfl, _, _, rfl, rfl, hC _ _ ⟨v, u, _, n, e4.trans e, e _ _ h4, DFrs.keep e.keepT hd4, hv, hn, rfl⟩⟩
    · rw [hn] at eB
      exact (qe _ eB).mono e4
  rintro σ5 H5 ⟨v5, u5, x3', n, e5, h5, hd5, hv5, hn, rfl⟩
  rw [hn] at eB
  have eB' : badS x = bad .hav (opn fs') (x.cps.toList.drop (a + os.length + n)) (a + os.length + n) := by
    rw [eB]
    show bad .hav (opn fs') ((x.cps.toList.drop (a + os.length)).drop n) (a + os.length + n) = _
    rw [List.drop_drop]
  have hnp := sim_pos hn
  rw [List.length_drop] at hnp
  have hbl : a + os.length + n ≤ x.length := by have := hA1.2.1; omega
  refine seq_then (fun σ' H' => ∃ (b : Nat) (st : List V) (fs : List Fr) (v : V) (t : Tm) (x3 x5 x6 : Option V), σ' = [some (.str x), some (.ref lb), some (.int b), x3, some v, x5, x6] ∧ Same H H' ∧ H' lb = some (.lst st.reverse) ∧ DFrs K H' st fs ∧ fs.length ≤ b ∧ IsT K H' v t ∧ b ≤ x.length ∧ badS x = bad .hav (opn fs) (x.cps.toList.drop b) b ∧ a < b ∧ (fs = [] ∨ ∃ k c y fs', fs = .op k c y :: fs')) ?_ ?_
  rotate_left
  · intro C hC
    refine ⟨fun m σ' H' => ∃ (b : Nat) (st : List V) (fs : List Fr) (v : V) (t : Tm) (x3 x5 x6 : Option V), m = fs.length ∧ σ' = [some (.str x), some (.ref lb), some (.int b), x3, some v, x5, x6] ∧ Same H H' ∧ H' lb = some (.lst st.reverse) ∧ DFrs K H' st fs ∧ fs.length ≤ b ∧ IsT K H' v t ∧ b ≤ x.length ∧ badS x = bad .hav (opn fs) (x.cps.toList.drop b) b ∧ a < b,
      ⟨_, a + os.length + n, st', fs', v5, u5, x3', x5, x6, rfl, rfl, e5, h5, hd5, by omega, hv5, hbl, eB', by omega⟩, ?_⟩
    rintro m σ6 H6 ⟨b, st6, fs6, v6, t6, y3, y5, y6, rfl, rfl, e6, h6, hd6, hl6, hv6, hb, hB6, hb6⟩
    walk_at "rdx_1"
    cases hd6 with
    | nil =>
      refine ⟨false, .inl ⟨[], SqL.of h6, rfl⟩, ?_⟩
      rw [if_neg Bool.false_ne_true, if_neg Bool.false_ne_true]
      exact hC _ _ ⟨b, [], [], v6, t6, y3, y5, y6, rfl, e6, h6, .nil, hl6, hv6, hb, hB6, hb6, .inl rfl⟩
    | @cons uu f st6 fs6 hu hst =>
      have h6' : H6 lb = some (.lst (st6.reverse ++ [uu])) := by rw [← List.reverse_cons]; exact h6
      have hl7 : fs6.length + 1 ≤ b := hl6
      have kp : KeepT K H6 (upd H6 lb (.lst st6.reverse)) := keepT_lst h6'
      refine ⟨true, .inl ⟨_, SqL.of h6', by simp⟩, ?_⟩
      rw [if_pos rfl]
      refine ⟨_, SqL.of h6', uu, at_last _ _, ?_⟩
      cases f with
      | ng =>
        obtain ⟨p, rfl, hs⟩ := hu
        refine ⟨p, rfl, _, hs, _, rfl, scal_str _ _, ?_⟩
        rw [if_pos (by decide)]
        refine ⟨_, fun σ' H' z => z, .inl ⟨rfl, _, SqL.of h6'⟩, _, h6', .ref p, by simp, p, rfl, [.str "~", .non], ?_, rfl, _, _, rfl, _, _, rfl, rfl, scal_str _ _, ?_⟩
        · rw [List.dropLast_concat]; exact kp _ _ hs
        rw [if_pos rfl, List.dropLast_concat]
        refine ⟨v6, t6, rfl, hv6.keep kp, fun r H' e hr => ⟨fs6.length, Nat.lt_succ_self _, b, st6, fs6, rfl, r, _, _, _, _, rfl, (e6.write f0).trans e, e _ _ upd_same, DFrs.keep (kp.trans e.keepT) hst, by omega, hr, hb, hB6, hb6⟩⟩
      | op kk cc yy =>
        obtain ⟨p, rfl, hs⟩ := hu
        refine ⟨p, rfl, _, hs, _, rfl, scal_str _ _, ?_⟩
        rw [if_neg (by decide)]
        exact hC _ _ ⟨b, .ref p :: st6, .op kk cc yy :: fs6, v6, t6, y3, y5, y6, rfl, e6, h6, .cons ⟨p, rfl, hs⟩ hst, hl6, hv6, hb, hB6, hb6, .inr ⟨_, _, _, _, rfl⟩⟩
      | sn kk aa =>
        obtain ⟨p, xx, rfl, hs, hxx⟩ := hu
        refine ⟨p, rfl, _, hs, _, rfl, scal_str _ _, ?_⟩
        rw [if_pos (by cases kk <;> decide)]
        refine ⟨_, fun σ' H' z => z, .inl ⟨rfl, _, SqL.of h6'⟩, _, h6', .ref p, by simp, p, rfl, [.str kk.str, xx], ?_, rfl, _, _, rfl, _, _, rfl, rfl, scal_str _ _, ?_⟩
        · rw [List.dropLast_concat]; exact kp _ _ hs
        rw [if_neg (by cases kk <;> decide), List.dropLast_concat]
        have hB7 : badS x = if (x.cps.toList.drop b).head? = some 41 then bad .hav (opn fs6) ((x.cps.toList.drop b).drop 1) (b + 1) else some b := hB6.trans bad_close
        refine ⟨x, b, 41, rfl, ⟨hx, hb⟩, fun hc => ⟨by decide, fun r hr => ?_⟩, fun hc => ?_⟩
        · rw [if_pos hc, List.drop_drop] at hB7
          have hb7 : b + 1 ≤ x.length := by
            rw [lx]
            by_cases hq : b < x.cps.toList.length
            · exact hq
            · rw [List.drop_of_length_le (by omega)] at hc; cases hc
          refine ⟨fs6.length, Nat.lt_succ_self _, b + 1, st6, fs6, rfl, .ref r, .nd kk aa t6, _, _, _, rfl, (e6.write f0).trans (same_new hr _), (same_new hr _) _ _ upd_same, DFrs.keep (kp.trans (keepT_new hr)) hst, by omega, ?_, hb7, hB7, by omega⟩
          exact isT_nd.mpr ⟨r, xx, v6, rfl, .inl (.inl upd_same), hxx.keep (kp.trans (keepT_new hr)), hv6.keep (kp.trans (keepT_new hr))⟩
        · rw [if_neg hc] at hB7
          exact (qe _ hB7).mono (e6.write f0)
  rintro σ6 H6 ⟨b, st6, fs6, v6, t6, y3, y5, y6, rfl, e6, h6, hd6, hl6, hv6, hb, hB6, hb6, hend⟩
  walk_at "rdx_1"
  rcases hend with rfl | ⟨kk, cc, yy, fs7, rfl⟩
  · cases hd6
    refine ⟨false, .inl ⟨[], SqL.of h6, rfl⟩, ?_⟩
    rw [if_pos (by decide)]
    have hB7 : badS x = if x.cps.toList.drop b = [] then none else some b := hB6.trans bad_end
    refine ⟨x, b, v6, rfl, ⟨hx, hb⟩, fun he => ?_, fun hlt => ?_⟩
    · rw [if_pos (List.drop_eq_nil_of_le (by omega))] at hB7
      exact q hB7 _ _ _ e6 hv6
    · rw [if_neg (fun z => by have := List.drop_eq_nil_iff.mp z; omega)] at hB7
      exact (qe _ hB7).mono e6
  · cases hd6 with
    | @cons uu f st7 _ hu hst =>
      have h6' : H6 lb = some (.lst (st7.reverse ++ [uu])) := by rw [← List.reverse_cons]; exact h6
      refine ⟨true, .inl ⟨_, SqL.of h6', by simp⟩, ?_⟩
      rw [if_neg (by decide)]
      have hB7 := hB6.trans bad_kin
      refine ⟨x, b, rfl, ⟨hx, hb⟩, fun k2 hk p H' e hs => ⟨p, rfl, _, hs, rfl, _, _, rfl, _, _, rfl, rfl, by decide, fun p1 hp1 => ?_⟩, fun n hn => ?_⟩
      rotate_left
      · rw [hn] at hB7
        exact (qe _ hB7).mono e6
      rw [hk] at hB7
      have h8 : upd H' p1 (.tup [.str k2.str, v6]) lb = some (.lst (st7.reverse ++ [uu])) := by rw [upd_ne (ne_of_none (e _ _ h6') hp1)]; exact e _ _ h6'
      refine ⟨_, h8, _, ix_last _ _, ?_⟩
      rw [set_last]
      have kp : KeepT K H6 (upd (upd H' p1 (.tup [.str k2.str, v6])) lb (.lst (st7.reverse ++ [.ref p1]))) := (e.keepT.trans (keepT_new hp1)).trans (keepT_lst h8)
      have ht : SqT K (upd (upd H' p1 (.tup [.str k2.str, v6])) lb (.lst (st7.reverse ++ [.ref p1]))) p1 [.str k2.str, v6] := keepT_lst h8 _ _ (.inl (.inl upd_same))
      have l7 : b + 3 ≤ x.length := by
        have h3 : ((x.cps.toList.drop b).drop 2).head? = some 32 := by
          unfold kin at hk
          split at hk
          · split at hk
            · cases hk
            · split at hk
              · assumption
              · cases hk
          · cases hk
        rw [List.drop_drop] at h3
        rw [lx]
        by_cases hq : b + 2 < x.cps.toList.length
        · omega
        · rw [List.drop_of_length_le (by omega)] at h3; cases h3
      refine ⟨x.length - (b + 3), by omega, b + 3, rfl, rfl, ((e6.trans e).trans (same_new hp1 _)).write f0, .ref p1 :: st7, by rw [upd_same, List.reverse_cons], .sn k2 t6 :: fs7, .cons ⟨p1, v6, rfl, ht, hv6.keep kp⟩ (DFrs.keep kp hst), ?_, l7, ?_⟩
      · exact Nat.le_trans hl6 (by omega)
      · have e3 : badS x = bad .wnt (true :: opn fs7) ((x.cps.toList.drop b).drop 3) (b + 3) := hB7
        rw [List.drop_drop] at e3
        exact e3
end
set_option Elab.async false
set_option linter.all false
set_option maxRecDepth 100000
set_option maxHeartbeats 4000000
noncomputable abbrev s__law_goes : Stmt := top 38
theorem sc__law_goes : FnScope ["_law_mode", "_law_opened", "_law_sign_here", "_law_small"] ["_law_mode", "_law_opened", "_law_sign_here"] (defScope s__law_goes) := ⟨rfl, rfl, rfl, by decide +kernel, rfl, by decide +kernel, by decide +kernel⟩
noncomputable abbrev s__law_first_bad : Stmt := top 39
theorem sc__law_first_bad : FnScope ["_law_text", "_law_mode", "_law_opened", "_law_at", "_law_sign_here"] ["_law_text"] (defScope s__law_first_bad) := ⟨rfl, rfl, rfl, by decide +kernel, rfl, by decide +kernel, by decide +kernel⟩
section
variable {P : Program} {w : World} {K : PySem.W.Frag} {mg : Str → Option Value} {base : Heap}
theorem in_wh (z : Str) : inV (.str z) [.str "word", .str "have"] = (decide (z = "word") || decide (z = "have")) := by
  show (eqV (.str "word") (.str z) || (eqV (.str "have") (.str z) || false)) = _
  rw [Bool.or_false]
  congr 1
  · show decide (("word" : Str) = z) = decide (z = "word")
    exact decide_eq_decide.mpr eq_comm
  · show decide (("have" : Str) = z) = decide (z = "have")
    exact decide_eq_decide.mpr eq_comm
theorem md_have {m : Md} : mdS m = "have" ↔ m = .hav := by
  cases m with
  | hav => exact ⟨fun _ => rfl, fun _ => rfl⟩
  | wrd n => exact ⟨fun z => absurd (show ("word" : Str) = "have" from z) (by decide), fun z => nomatch z⟩
  | _ => exact ⟨fun z => absurd z (by decide), fun z => nomatch z⟩
theorem gone_cls {md : Md} {os : List Bool} {c : Nat} (hw : mdS md = "word" ∨ mdS md = "have") (n2 : ∀ n, md = .wrd n → ¬ (small c = true ∧ n < 8)) : goN md os c = cls os c := by
  rcases hw with h | h
  · obtain ⟨n, rfl⟩ := md_word.mp h
    exact if_neg (n2 n rfl)
  · have := md_have.mp h
    subst this
    rfl
theorem gone_nil {md : Md} {c : Nat} (hw : mdS md = "word" ∨ mdS md = "have") (n2 : ∀ n, md = .wrd n → ¬ (small c = true ∧ n < 8)) : goN md [] c = none := (gone_cls hw n2).trans rfl
theorem gone_not {md : Md} {os : List Bool} {c : Nat} (hw : ¬ (mdS md = "word" ∨ mdS md = "have")) (n3 : md = .wnt → small c = false) (n4 : md = .wnt → ¬ (c = 48 ∨ c = 126 ∨ c = 40)) (n5 : md = .sgn → ¬ (c = 38 ∨ c = 124 ∨ c = 62)) (n6 : md = .gap → c ≠ 32) : goN md os c = none := by
  cases md with
  | wrd n => exact absurd (.inl rfl) hw
  | hav => exact absurd (.inr rfl) hw
  | sgn => exact if_neg (n5 rfl)
  | gap => exact if_neg (n6 rfl)
  | wnt =>
    have h := n4 rfl
    simp only [not_or] at h
    show (if small c = true then _ else if c = 48 then _ else if c = 126 then _ else if c = 40 then _ else none) = none
    rw [if_neg (by rw [n3 rfl]; exact Bool.false_ne_true), if_neg h.1, if_neg h.2.1, if_neg h.2.2]
theorem opV_strs (os : List Bool) : opV os = (os.reverse.map opS).map V.str := by unfold opV; rw [List.map_map]; rfl
theorem opS_ly {os : List Bool} : ∀ y ∈ os.reverse.map opS, (PyData.str y).canLay0 = true := fun y hy => by
  obtain ⟨b, _, rfl⟩ := List.mem_map.mp hy
  cases b <;> decide +kernel
theorem ok__law_goes {k : Nat} {f__law_goes : Addr} {fd__law_goes : FuncData} (F__law_goes : Fun K "_law_goes" "_law_goes" s__law_goes f__law_goes fd__law_goes) (m_int : mg "int" = none) : FnOk P w K mg base CX0 (k + 1) f__law_goes fd__law_goes ["_law_mode", "_law_opened", "_law_sign_here"] (sp_goes K) := by
  refine F__law_goes.ok sc__law_goes (fun vs H Q E h => ?_) (fun cdv A outer s H vs Q E hr h => ?_)
  · obtain ⟨m, o, md, os, c, rfl, _⟩ := h
    rfl
  obtain ⟨m, o, md, os, c, rfl, hm, ho, hc, hg, hl, q0, q1⟩ := h
  refine ⟨_, (pss_cons (ps_set (i := 3) sc__law_goes.nd rfl (Or.inl rfl) (pe_cmpR (op_in_str) (pv 2) pe_str (by with_unfolding_all rfl)))
  (pss_cons (ps_if ((pw_and (pt_cmpR (op_eq) (pe_ix ix_tup (pv 0) pe_int (fun _ _ => rfl)) pe_str (nomark _)) (pw_and (pt_val (pv 3)) (pw_and1 (pt_cmpR (op_lt) (pe_ix ix_tup (pv 0) pe_int (fun _ _ => rfl)) pe_int (nomark _)))))).pt
    (pss_one (ps_ret (pe_tup (pa_cons pe_str (pa_cons (pe_op op_add (pe_ix ix_tup (pv 0) pe_int (fun _ _ => rfl)) pe_int) pa_nil)))))
    pss_nil)
  (pss_cons (ps_if ((pw_and (pt_cmpR (op_eq) (pe_ix ix_tup (pv 0) pe_int (fun _ _ => rfl)) pe_str (nomark _)) (pw_and1 (pt_val (pv 3))))).pt
    (pss_one (ps_ret (pe_tup (pa_cons pe_str (pa_cons pe_int pa_nil)))))
    pss_nil)
  (pss_cons (ps_if ((pw_and (pt_cmpR (op_eq) (pe_ix ix_tup (pv 0) pe_int (fun _ _ => rfl)) pe_str (nomark _)) (pw_and1 (pt_cmpR (op_in_str) (pv 2) pe_str (by with_unfolding_all rfl))))).pt
    (pss_cons (ps_if (pt_cmpR (op_eq) (pv 2) pe_str (nomark _))
    (pss_one (ps_expr (pe_bm PySem.F.plainAttrs_list PySem.F.slot_list_append PySem.F.type_list_append mt_append (pv 1) (pa_cons pe_str pa_nil))))
    pss_nil)
  (pss_one (ps_ret (pe_ix ix_list (pe_lst (pa_cons (pe_tup (pa_cons pe_str (pa_cons pe_int pa_nil))) (pa_cons (pe_tup (pa_cons pe_str (pa_cons pe_int pa_nil))) pa_nil))) (pe_callTy call_int1 (by exact rfl) m_int Ken.boot_int (pa_cons (pe_cmpR (op_eq) (pv 2) pe_str (nomark _)) pa_nil)) (fun _ _ => rfl)))))
    pss_nil)
  (pss_cons (ps_if ((pw_and (pt_cmpR (op_eq) (pe_ix ix_tup (pv 0) pe_int (fun _ _ => rfl)) pe_str (nomark _)) (pw_and1 (pt_cmpR (op_in_str) (pv 2) pe_str (by with_unfolding_all rfl))))).pt
    (pss_one (ps_ret (pe_tup (pa_cons pe_str (pa_cons pe_int pa_nil)))))
    pss_nil)
  (pss_cons (ps_if ((pw_and (pt_cmpR (op_eq) (pe_ix ix_tup (pv 0) pe_int (fun _ _ => rfl)) pe_str (nomark _)) (pw_and1 (pt_cmpR (op_eq) (pv 2) pe_str (nomark _))))).pt
    (pss_cons (ps_asg pe_str (pg_sub (pv 1) (pe_un un_neg pe_int) set_list))
  (pss_one (ps_ret (pe_tup (pa_cons pe_str (pa_cons pe_int pa_nil))))))
    pss_nil)
  (pss_cons (ps_if ((pw_and (pt_cmpR (op_in_seq) (pe_ix ix_tup (pv 0) pe_int (fun _ _ => rfl)) (pe_tup (pa_cons pe_str (pa_cons pe_str pa_nil))) (by with_unfolding_all rfl)) (pw_and1 (pt_cmpR (op_neD (hu_150 hr)) (pv 1) (pe_lst pa_nil) (nomark _))))).pt
    (pss_cons (ps_if ((pw_and (pt_cmpR (op_eq) (pe_ix ix_list (pv 1) (pe_un un_neg pe_int) (fun _ _ => rfl)) pe_str (nomark _)) (pw_and1 (pt_cmpR (op_eq) (pv 2) pe_str (nomark _))))).pt
    (pss_one (ps_ret (pe_tup (pa_cons pe_str (pa_cons pe_int pa_nil)))))
    pss_nil)
  (pss_one (ps_if ((pw_and (pt_cmpR (op_eq) (pe_ix ix_list (pv 1) (pe_un un_neg pe_int) (fun _ _ => rfl)) pe_str (nomark _)) (pw_and1 (pt_cmpR (op_eq) (pv 2) pe_str (nomark _))))).pt
    (pss_cons (ps_expr (pe_bm0 PySem.F.plainAttrs_list PySem.F.slot_list_pop PySem.F.type_list_pop mt_pop (pv 1)))
  (pss_one (ps_ret (pe_tup (pa_cons pe_str (pa_cons pe_int pa_nil))))))
    pss_nil)))
    pss_nil)
  (pss_one (ps_ret pe_non))))))))), ?_⟩
  have hm0 : ∀ H', SqT K H' m (mdV md) → SqT K H' m [.str (mdS md), .int (mdN md : Nat)] := fun _ h => h
  refine seq_then (fun σ' H' => σ' = [some (.ref m), some (.ref o), some (.str ⟨#[c]⟩), some (.bl (small c))] ∧ H' = H) ?_ ?_
  rotate_left
  · intro C hC
    walk_at "rdx_1"
    rw [occ_small hc]
    exact hC _ _ ⟨rfl, rfl⟩
  rintro σ1 H1 ⟨rfl, rfl⟩
  refine seq_then (fun σ' H' => σ' = [some (.ref m), some (.ref o), some (.str ⟨#[c]⟩), some (.bl (small c))] ∧ H' = H1 ∧ ∀ n, md = .wrd n → ¬ (small c = true ∧ n < 8)) ?_ ?_
  rotate_left
  · intro C hC
    walk_at "rdx_1"
    refine ⟨_, hm, _, rfl, scal_str _ _, ?_⟩
    by_cases hw : mdS md = "word"
    · obtain ⟨n, rfl⟩ := md_word.mp hw
      rw [if_pos (show V.str (mdS (.wrd n)) = V.str "word" from rfl)]
      by_cases hs : small c = true
      · rw [if_pos hs]
        refine ⟨_, hm, _, rfl, _, rfl, ?_⟩
        by_cases hn : n < 8
        · rw [if_pos (show ((mdN (.wrd n) : Nat) : Int) < 8 from Int.ofNat_lt.mpr hn)]
          refine ⟨_, hm, _, rfl, _, rfl, by decide, fun p hp => ?_⟩
          exact q1 (.wrd (n + 1)) os (if_pos ⟨hs, hn⟩) p _ (.of (same_new hp _)) ((same_new hp _) _ _ ho) (.inl (.inl upd_same))
        · rw [if_neg (show ¬ ((mdN (.wrd n) : Nat) : Int) < 8 from fun z => hn (Int.ofNat_lt.mp z))]
          exact hC _ _ ⟨rfl, rfl, fun k e => by cases e; exact fun z => hn z.2⟩
      · rw [if_neg hs, if_neg Bool.false_ne_true]
        exact hC _ _ ⟨rfl, rfl, fun k e => fun z => hs z.1⟩
    · rw [if_neg (fun z => hw (V.str.inj z)), if_neg Bool.false_ne_true]
      exact hC _ _ ⟨rfl, rfl, fun n e => absurd (md_word.mpr ⟨n, e⟩) hw⟩
  rintro σ2 H2 ⟨rfl, rfl, n2⟩
  refine seq_then (fun σ' H' => σ' = [some (.ref m), some (.ref o), some (.str ⟨#[c]⟩), some (.bl (small c))] ∧ H' = H2 ∧ (md = .wnt → small c = false)) ?_ ?_
  rotate_left
  · intro C hC
    walk_at "rdx_1"
    refine ⟨_, hm, _, rfl, scal_str _ _, ?_⟩
    by_cases hw : mdS md = "want"
    · have := md_want.mp hw
      subst this
      rw [if_pos (show V.str (mdS .wnt) = V.str "want" from rfl)]
      by_cases hs : small c = true
      · rw [if_pos hs]
        exact ⟨by decide, fun p hp => q1 (.wrd 1) os (if_pos hs) p _ (.of (same_new hp _)) ((same_new hp _) _ _ ho) (.inl (.inl upd_same))⟩
      · rw [if_neg hs]
        exact hC _ _ ⟨rfl, rfl, fun _ => by simpa using hs⟩
    · rw [if_neg (fun z => hw (V.str.inj z)), if_neg Bool.false_ne_true]
      exact hC _ _ ⟨rfl, rfl, fun e => absurd (md_want.mpr e) hw⟩
  rintro σ3 H3 ⟨rfl, rfl, n3⟩
  refine seq_then (fun σ' H' => σ' = [some (.ref m), some (.ref o), some (.str ⟨#[c]⟩), some (.bl (small c))] ∧ H' = H3 ∧ (md = .wnt → ¬ (c = 48 ∨ c = 126 ∨ c = 40))) ?_ ?_
  rotate_left
  · intro C hC
    walk_at "rdx_1"
    refine ⟨_, hm, _, rfl, scal_str _ _, ?_⟩
    by_cases hw : mdS md = "want"
    · have := md_want.mp hw
      subst this
      have hs := n3 rfl
      have hs' : ¬ small c = true := by rw [hs]; exact Bool.false_ne_true
      rw [if_pos (show V.str (mdS .wnt) = V.str "want" from rfl), occ_open hc]
      by_cases h4 : c = 48 ∨ c = 126 ∨ c = 40
      · rw [decide_eq_true h4, if_pos rfl]
        rcases h4 with rfl | rfl | rfl
        · rw [if_neg (show ¬ (⟨#[48]⟩ : Str) = "(" by decide)]
          refine ⟨by decide, fun p hp => ⟨by decide, fun p1 hp1 => ⟨by decide, fun p2 hp2 => .inr ⟨_, SqL.of upd_same, .ref p1, by rfl, ?_⟩⟩⟩⟩
          have S := ((same_new hp (HO.tup [V.str "want", V.int 0])).trans (same_new hp1 (HO.tup [V.str "have", V.int 0]))).trans (same_new hp2 (HO.lst [V.ref p, V.ref p1]))
          exact q1 .hav os rfl p1 _ (.of S) (S _ _ ho) ((same_new hp2 _).sqt (.inl (.inl upd_same)))
        · rw [if_neg (show ¬ (⟨#[126]⟩ : Str) = "(" by decide)]
          refine ⟨by decide, fun p hp => ⟨by decide, fun p1 hp1 => ⟨by decide, fun p2 hp2 => .inr ⟨_, SqL.of upd_same, .ref p, by rfl, ?_⟩⟩⟩⟩
          have S := ((same_new hp (HO.tup [V.str "want", V.int 0])).trans (same_new hp1 (HO.tup [V.str "have", V.int 0]))).trans (same_new hp2 (HO.lst [V.ref p, V.ref p1]))
          exact q1 .wnt os rfl p _ (.of S) (S _ _ ho) (((same_new hp1 _).trans (same_new hp2 _)).sqt (.inl (.inl upd_same)))
        · rw [if_pos (show (⟨#[40]⟩ : Str) = "(" from rfl)]
          refine ⟨.inl ⟨rfl, _, SqL.of ho⟩, _, ho, small1M (by rw [opV_len]; omega), by decide, fun p hp => ⟨by decide, fun p1 hp1 => ⟨by decide, fun p2 hp2 => .inr ⟨_, SqL.of upd_same, .ref p, by rfl, ?_⟩⟩⟩⟩
          have S := ((same_new hp (HO.tup [V.str "want", V.int 0])).trans (same_new hp1 (HO.tup [V.str "have", V.int 0]))).trans (same_new hp2 (HO.lst [V.ref p, V.ref p1]))
          exact q1 .wnt (false :: os) rfl p _ ((sameB_upd _).trans (.of S)) (S _ _ (by rw [upd_same, opV_cons]; rfl)) (((same_new hp1 _).trans (same_new hp2 _)).sqt (.inl (.inl upd_same)))
      · rw [decide_eq_false h4, if_neg Bool.false_ne_true]
        exact hC _ _ ⟨rfl, rfl, fun _ => h4⟩
    · rw [if_neg (fun z => hw (V.str.inj z)), if_neg Bool.false_ne_true]
      exact hC _ _ ⟨rfl, rfl, fun e => absurd (md_want.mpr e) hw⟩
  rintro σ4 H4 ⟨rfl, rfl, n4⟩
  refine seq_then (fun σ' H' => σ' = [some (.ref m), some (.ref o), some (.str ⟨#[c]⟩), some (.bl (small c))] ∧ H' = H4 ∧ (md = .sgn → ¬ (c = 38 ∨ c = 124 ∨ c = 62))) ?_ ?_
  rotate_left
  · intro C hC
    walk_at "rdx_1"
    refine ⟨_, hm, _, rfl, scal_str _ _, ?_⟩
    by_cases hw : mdS md = "sign"
    · have := md_sign.mp hw
      subst this
      rw [if_pos (show V.str (mdS .sgn) = V.str "sign" from rfl), occ_kind hc]
      by_cases h4 : c = 38 ∨ c = 124 ∨ c = 62
      · rw [decide_eq_true h4, if_pos rfl]
        exact ⟨by decide, fun p hp => q1 .gap os (if_pos h4) p _ (.of (same_new hp _)) ((same_new hp _) _ _ ho) (.inl (.inl upd_same))⟩
      · rw [decide_eq_false h4, if_neg Bool.false_ne_true]
        exact hC _ _ ⟨rfl, rfl, fun _ => h4⟩
    · rw [if_neg (fun z => hw (V.str.inj z)), if_neg Bool.false_ne_true]
      exact hC _ _ ⟨rfl, rfl, fun e => absurd (md_sign.mpr e) hw⟩
  rintro σ5 H5 ⟨rfl, rfl, n5⟩
  refine seq_then (fun σ' H' => σ' = [some (.ref m), some (.ref o), some (.str ⟨#[c]⟩), some (.bl (small c))] ∧ H' = H5 ∧ (md = .gap → c ≠ 32)) ?_ ?_
  rotate_left
  · intro C hC
    walk_at "rdx_1"
    refine ⟨_, hm, _, rfl, scal_str _ _, ?_⟩
    by_cases hw : mdS md = "gap"
    · have := md_gap.mp hw
      subst this
      rw [if_pos (show V.str (mdS .gap) = V.str "gap" from rfl)]
      by_cases h4 : c = 32
      · subst h4
        rw [if_pos (show (⟨#[32]⟩ : Str) = " " from rfl)]
        cases os with
        | nil => exact absurd rfl (hg rfl)
        | cons b r =>
          rw [opV_cons] at ho
          refine ⟨_, ho, _, ix_last _ _, by decide, fun p hp => ?_⟩
          exact q1 .wnt (true :: r) rfl p _ ((sameB_upd _).trans (.of (same_new hp _))) ((same_new hp _) _ _ (by rw [upd_same, set_last, opV_cons]; rfl)) (.inl (.inl upd_same))
      · rw [if_neg (show ¬ (⟨#[c]⟩ : Str) = " " from fun z => h4 (str1_inj.mp z))]
        exact hC _ _ ⟨rfl, rfl, fun _ => h4⟩
    · rw [if_neg (fun z => hw (V.str.inj z)), if_neg Bool.false_ne_true]
      exact hC _ _ ⟨rfl, rfl, fun e => absurd (md_gap.mpr e) hw⟩
  rintro σ6 H6 ⟨rfl, rfl, n6⟩
  refine seq_then (fun σ' H' => σ' = [some (.ref m), some (.ref o), some (.str ⟨#[c]⟩), some (.bl (small c))] ∧ Same H6 H' ∧ goN md os c = none) ?_ ?_
  rotate_left
  · intro C hC
    walk_at "rdx_1"
    refine ⟨_, hm, _, rfl, by decide, fun p hp => ⟨_, .inr (.inl (.inl upd_same)), rfl, rfl, ?_⟩⟩
    have s1 := same_new hp (HO.tup [V.str "word", V.str "have"])
    have ho1 := s1 _ _ ho
    generalize upd H6 p (HO.tup [V.str "word", V.str "have"]) = H7 at s1 ho1 ⊢
    rw [if_neg Bool.false_ne_true, in_wh]
    by_cases hw : mdS md = "word" ∨ mdS md = "have"
    · rw [if_pos (by rcases hw with h | h <;> simp [h])]
      refine ⟨by decide, fun p1 hp1 => ?_⟩
      have s2 := s1.trans (same_new hp1 (HO.lst []))
      have ho2 := (same_new hp1 (HO.lst [])) _ _ ho1
      have ho3 := ho2
      rw [opV_strs] at ho3
      refine ⟨_, strs_at (SqL.of ho3), _, strs_at (L := []) (SqL.of upd_same), strs_ly opS_ly, rfl, Nat.le_trans (Nat.min_le_left _ _) (Nat.le_trans (strs_dep _) (by decide)), ?_⟩
      generalize upd H7 p1 (HO.lst []) = H8 at s2 ho2 ho3 ⊢
      rw [if_pos trivial, strs_eqv]
      have nil : os = [] → goN md os c = none := fun e => by subst e; exact gone_nil hw n2
      cases os with
      | nil =>
        rw [if_neg (by decide)]
        exact hC _ _ ⟨rfl, s2, nil rfl⟩
      | cons b r =>
        rw [decide_eq_false (by simp), if_pos (by rfl)]
        rw [opV_cons] at ho2
        refine ⟨_, SqL.of ho2, _, at_last _ _, scal_str _ _, ?_⟩
        have gc : ∀ (h : cls (b :: r) c = none), goN md (b :: r) c = none := fun h => (gone_cls hw n2).trans h
        cases b with
        | false =>
          rw [if_pos (show V.str (opS false) = V.str "left" from rfl)]
          by_cases h4 : c = 32
          · subst h4
            rw [if_pos (show (⟨#[32]⟩ : Str) = " " from rfl)]
            exact ⟨by decide, fun p2 hp2 => q1 .sgn (false :: r) ((gone_cls hw n2).trans rfl) p2 _ (.of (s2.trans (same_new hp2 _))) ((same_new hp2 _) _ _ (by rw [opV_cons]; exact ho2)) (.inl (.inl upd_same))⟩
          · rw [if_neg (show ¬ (⟨#[c]⟩ : Str) = " " from fun z => h4 (str1_inj.mp z))]
            refine ⟨_, SqL.of ho2, _, at_last _ _, scal_str _ _, ?_⟩
            rw [if_neg (show ¬ V.str (opS false) = V.str "right" from fun z => absurd (V.str.inj z) (by decide)), if_neg Bool.false_ne_true]
            exact hC _ _ ⟨rfl, s2, gc (if_neg h4)⟩
        | true =>
          rw [if_neg (show ¬ V.str (opS true) = V.str "left" from fun z => absurd (V.str.inj z) (by decide)), if_neg Bool.false_ne_true]
          refine ⟨_, SqL.of ho2, _, at_last _ _, scal_str _ _, ?_⟩
          rw [if_pos (show V.str (opS true) = V.str "right" from rfl)]
          by_cases h4 : c = 41
          · subst h4
            rw [if_pos (show (⟨#[41]⟩ : Str) = ")" from rfl)]
            refine ⟨.inl ⟨rfl, _, SqL.of ho2⟩, _, ho2, .str (opS true), by simp, by decide, fun p2 hp2 => ?_⟩
            rw [List.dropLast_concat] at hp2 ⊢
            exact q1 .hav r ((gone_cls hw n2).trans rfl) p2 _ (((SameB.of s2).trans (sameB_upd _)).trans (.of (same_new hp2 _))) ((same_new hp2 _) _ _ upd_same) (.inl (.inl upd_same))
          · rw [if_neg (show ¬ (⟨#[c]⟩ : Str) = ")" from fun z => h4 (str1_inj.mp z))]
            exact hC _ _ ⟨rfl, s2, gc (if_neg h4)⟩
    · rw [if_neg (by simp only [not_or] at hw; simp [hw.1, hw.2])]
      exact hC _ _ ⟨rfl, s1, gone_not hw n3 n4 n5 n6⟩
  rintro σ7 H7 ⟨rfl, e7, hn⟩
  walk_at "rdx_1"
  exact q0 hn _ (.of e7)
noncomputable def gapOk (md : Md) (os : List Bool) : Prop := match md, os with
  | .gap, [] => False
  | .sgn, [] => False
  | _, _ => True
theorem gapOk_gap {md : Md} {os : List Bool} (h : gapOk md os) (e : md = .gap) : os ≠ [] := fun z => by subst e z; exact h
theorem gapOk_go {md md' : Md} {os os' : List Bool} {c : Nat} (h : gapOk md os) (e : goN md os c = some (md', os')) : gapOk md' os' ∧ os'.length ≤ os.length + 1 := by
  have hc : ∀ {os : List Bool}, cls os c = some (md', os') → gapOk md' os' ∧ os'.length ≤ os.length + 1 := fun {os} e => by
    unfold cls at e
    split at e
    · cases e
    · split at e
      · cases e; exact ⟨trivial, by omega⟩
      · cases e
    · split at e
      · cases e; exact ⟨trivial, by rw [List.length_cons]; omega⟩
      · cases e
  unfold goN at e
  split at e
  · split at e
    · cases e; exact ⟨trivial, by omega⟩
    · exact hc e
  · exact hc e
  · split at e
    · cases e; exact ⟨trivial, by omega⟩
    · split at e
      · cases e; exact ⟨trivial, by omega⟩
      · split at e
        · cases e; exact ⟨trivial, by omega⟩
        · split at e
          · cases e; exact ⟨trivial, by rw [List.length_cons]; omega⟩
          · cases e
  · split at e
    · cases e
      cases os with
      | nil => exact h.elim
      | cons b r => exact ⟨trivial, by omega⟩
    · cases e
  · split at e
    · cases e; exact ⟨trivial, by rw [List.length_cons, List.length_tail]; omega⟩
    · cases e
theorem ok__law_first_bad {k : Nat} {f__law_first_bad : Addr} {fd__law_first_bad : FuncData} (F__law_first_bad : Fun K "_law_first_bad" "_law_first_bad" s__law_first_bad f__law_first_bad fd__law_first_bad) {f__law_goes : Addr} {fd__law_goes : FuncData} (G__law_goes : FnOk P w K mg base CX0 k f__law_goes fd__law_goes ["_law_mode", "_law_opened", "_law_sign_here"] (sp_goes K)) (m__law_goes : mg "_law_goes" = some (.ref f__law_goes)) (k__law_goes : PySem.W.keepIn K (.ref f__law_goes) = true) (b__law_goes : Binds K fd__law_goes ["_law_mode", "_law_opened", "_law_sign_here"] []) (m_enumerate : mg "enumerate" = none) (m_len : mg "len" = none) : FnOk P w K mg base CX0 (k + 1) f__law_first_bad fd__law_first_bad ["_law_text"] sp_fbad := by
  refine F__law_first_bad.ok sc__law_first_bad (fun vs H Q E h => ?_) (fun cdv A outer s H vs Q E hr h => ?_)
  · obtain ⟨x, rfl, _⟩ := h
    rfl
  obtain ⟨x, rfl, hx, hasc, q⟩ := h
  have sm : x.length ≤ sizeLine := Nat.le_of_lt (small1M (Nat.le_trans hx (by decide)))
  have lx := len_cps x
  refine ⟨_, (pss_cons (ps_set (i := 1) sc__law_first_bad.nd rfl (Or.inl rfl) (pe_tup (pa_cons pe_str (pa_cons pe_int pa_nil))))
  (pss_cons (ps_set (i := 2) sc__law_first_bad.nd rfl (Or.inl rfl) (pe_lst pa_nil))
  (pss_cons (ps_for PassesOwn.never rfl (pi_enumS rfl m_enumerate (pa_cons (pv 0) pa_nil)) (pg_tup rfl (pgs_cons (pg_name (i := 3) sc__law_first_bad.nd rfl (Or.inl rfl)) (pgs_cons (pg_name (i := 4) sc__law_first_bad.nd rfl (Or.inl rfl)) pgs_nil)))
    (pss_cons (ps_set (i := 1) sc__law_first_bad.nd rfl (Or.inl rfl) (pe_call G__law_goes hr (by exact rfl) m__law_goes k__law_goes b__law_goes .nil pass0 (pa_cons (pv 1) (pa_cons (pv 2) (pa_cons (pv 4) pa_nil)))))
  (pss_one (ps_if (pt_cmpR (op_isN) (pv 1) pe_non (nomark _))
    (pss_one (ps_ret (pv 3)))
    pss_nil))))
  (pss_cons (ps_if ((pw_and (pt_cmpR (op_eqD (hu_150 hr)) (pv 2) (pe_lst pa_nil) (nomark _)) (pw_and1 (pt_cmpR (op_in_seq) (pe_ix ix_tup (pv 1) pe_int (fun _ _ => rfl)) (pe_tup (pa_cons pe_str (pa_cons pe_str pa_nil))) (by with_unfolding_all rfl))))).pt
    (pss_one (ps_ret pe_non))
    pss_nil)
  (pss_one (ps_ret (pe_callB call_len_str (by exact rfl) m_len Ken.boot_len (pa_cons (pv 0) pa_nil)))))))), ?_⟩
  refine seq_then (fun σ' H' => ∃ m, σ' = [some (.str x), some (.ref m), none, none, none] ∧ Same H H' ∧ SqT K H' m (mdV .wnt)) ?_ ?_
  rotate_left
  · intro C hC
    walk_at "rdx_1"
    exact ⟨by decide, fun p hp => hC _ _ ⟨p, rfl, same_new hp _, .inl (.inl upd_same)⟩⟩
  rintro σ1 H1 ⟨m, rfl, e1, hm⟩
  refine seq_then (fun σ' H' => ∃ o, σ' = [some (.str x), some (.ref m), some (.ref o), none, none] ∧ Same H1 H' ∧ H1 o = none ∧ H' o = some (.lst (opV []))) ?_ ?_
  rotate_left
  · intro C hC
    walk_at "rdx_1"
    exact ⟨by decide, fun p hp => hC _ _ ⟨p, rfl, same_new hp _, hp, upd_same⟩⟩
  rintro σ2 H2 ⟨o, rfl, e2, f2, h2⟩
  have f0 : H o = none := e1.free f2
  refine seq_then (fun σ' H' => ∃ m md os x3 x4, σ' = [some (.str x), some (.ref m), some (.ref o), x3, x4] ∧ Same H H' ∧ H' o = some (.lst (opV os)) ∧ SqT K H' m (mdV md) ∧ badS x = if fin md os = true then none else some x.length) ?_ ?_
  rotate_left
  · intro C hC
    walk_at "rdx_2"
    refine ⟨?_, ?_⟩
    · rw [← Array.all_toList, List.all_eq_true]
      exact fun c hc => decide_eq_true (hasc c hc)
    refine for_enumS (D := { nx := C, rt := Q }) (x := x) (fun i σ' H' => ∃ m md os x3 x4, σ' = [some (.str x), some (.ref m), some (.ref o), x3, x4] ∧ Same H H' ∧ H' o = some (.lst (opV os)) ∧ SqT K H' m (mdV md) ∧ gapOk md os ∧ os.length ≤ i ∧ badS x = bad md os (x.cps.toList.drop i) i) ⟨m, .wnt, [], none, none, rfl, e1.trans e2, h2, e2.sqt hm, trivial, Nat.le_refl _, by rw [List.drop_zero]; rfl⟩ (fun i c σ' H' T hc hT hp => ?_) (fun σ' H' hp => ?_)
    rotate_left
    · obtain ⟨m, md, os, x3, x4, rfl, e, ho, hm, hg, hl, hB⟩ := hp
      exact hC _ _ ⟨m, md, os, x3, x4, rfl, e, ho, hm, by rw [hB, lx, List.drop_length]; rfl⟩
    obtain ⟨m, md, os, x3, x4, rfl, e, ho, hm, hg, hl, hB⟩ := hp
    have hi : i < x.cps.toList.length := (List.getElem?_eq_some_iff.mp hc).1
    have hdr : x.cps.toList.drop i = c :: x.cps.toList.drop (i + 1) := by
      rw [List.drop_eq_getElem_cons hi, (List.getElem?_eq_some_iff.mp hc).2]
    rw [hdr] at hB
    have sT := same_new hT (HO.tup [V.int (i : Nat), V.str ⟨#[c]⟩])
    walk_at "rdx_1"
    refine ⟨_, .inl (.inl upd_same), rfl, _, _, rfl, _, _, rfl, rfl, m, o, md, os, c, rfl, sT.sqt hm, sT _ _ ho, hasc c (List.mem_of_getElem? hc), gapOk_gap hg, by omega, fun hn H8 e8 => ?_, fun md' os' hn r H8 e8 ho8 hr8 => ?_⟩
    · show (if V.non = V.non then _ else _)
      rw [if_pos rfl]
      have := q H8 (e8.same (e.trans sT) f0)
      rw [hB, bad_no hn] at this
      exact this
    · show (if V.ref r = V.non then _ else _)
      rw [if_neg (fun z => nomatch z)]
      obtain ⟨g1, g2⟩ := gapOk_go hg hn
      exact ⟨r, rfl, e8.same (e.trans sT) f0, md', os', ho8, hr8, g1, by omega, by rw [hB, bad_go hn]⟩
  rintro σ3 H3 ⟨m, md, os, x3, x4, rfl, e3, ho, hm, hB⟩
  walk_at "rdx_1"
  refine ⟨by decide, fun p hp => ?_⟩
  have s1 := same_new hp (HO.lst [])
  have ho2 := s1 _ _ ho
  have hm2 := s1.sqt hm
  rw [opV_strs] at ho2
  refine ⟨_, strs_at (SqL.of ho2), _, strs_at (L := []) (SqL.of upd_same), strs_ly opS_ly, rfl, Nat.le_trans (Nat.min_le_left _ _) (Nat.le_trans (strs_dep _) (by decide)), ?_⟩
  generalize upd H3 p (HO.lst []) = H4 at s1 ho2 hm2 ⊢
  rw [if_neg Bool.false_ne_true, strs_eqv]
  have bad1 : fin md os = false → ∀ H', Same H H' → Q (.int (x.length : Nat)) H' := fun hf H' e => by
    have := q H' e
    rw [hB, if_neg (by rw [hf]; exact Bool.false_ne_true)] at this
    exact this
  cases os with
  | cons b r =>
    rw [decide_eq_false (by simp), if_neg Bool.false_ne_true, if_neg Bool.false_ne_true]
    exact ⟨sm, bad1 (by cases md <;> rfl) _ (e3.trans s1)⟩
  | nil =>
    rw [if_pos (by rfl)]
    refine ⟨_, hm2, _, rfl, by decide, fun p1 hp1 => ⟨_, .inr (.inl (.inl upd_same)), rfl, rfl, ?_⟩⟩
    have s2 := (e3.trans s1).trans (same_new hp1 (HO.tup [V.str "word", V.str "have"]))
    rw [if_neg Bool.false_ne_true, in_wh]
    by_cases hw : mdS md = "word" ∨ mdS md = "have"
    · rw [if_pos (by rcases hw with h | h <;> simp [h])]
      have := q _ s2
      have hf : fin md [] = true := by
        rcases hw with h | h
        · obtain ⟨n, rfl⟩ := md_word.mp h; rfl
        · have := md_have.mp h; subst this; rfl
      rw [hB, if_pos hf] at this
      exact this
    · rw [if_neg (by simp only [not_or] at hw; simp [hw.1, hw.2])]
      refine ⟨sm, bad1 ?_ _ s2⟩
      cases md with
      | wrd n => exact absurd (.inl rfl) hw
      | hav => exact absurd (.inr rfl) hw
      | _ => rfl
end
set_option Elab.async false
set_option linter.all false
set_option maxRecDepth 100000
set_option maxHeartbeats 4000000
noncomputable abbrev s__law_asked : Stmt := top 40
theorem sc__law_asked : FnScope ["_law_text", "_law_found", "_law_told", "error", "_law_one", "_law_other", "_law_due"] ["_law_text"] (defScope s__law_asked) := ⟨rfl, rfl, rfl, by decide +kernel, rfl, by decide +kernel, by decide +kernel⟩
section
variable {P : Program} {w : World} {K : PySem.W.Frag} {mg : Str → Option Value} {base : Heap}
theorem ok__law_asked {k : Nat} {f__law_asked : Addr} {fd__law_asked : FuncData} (F__law_asked : Fun K "_law_asked" "_law_asked" s__law_asked f__law_asked fd__law_asked) {f__law_first_bad : Addr} {fd__law_first_bad : FuncData} (G__law_first_bad : FnOk P w K mg base CX0 k f__law_first_bad fd__law_first_bad ["_law_text"] (sp_fbad)) (m__law_first_bad : mg "_law_first_bad" = some (.ref f__law_first_bad)) (k__law_first_bad : PySem.W.keepIn K (.ref f__law_first_bad) = true) (b__law_first_bad : Binds K fd__law_first_bad ["_law_text"] []) {aNoText : Addr} {f_read : Addr} {fd_read : FuncData} (G_read : FnOk P w K mg base (CXe P w) k f_read fd_read ["text"] (sp_readX K aNoText)) (m_read : mg "read" = some (.ref f_read)) (k_read : PySem.W.keepIn K (.ref f_read) = true) (b_read : Binds K fd_read ["text"] []) {aKenError aLarge aNoKind aNoLine aNoRow aNoWorlds aNoTurning aNoWish aNoRule aNotShown aTwice : Addr} (m_NoText : mg "NoText" = some (.ref aNoText)) (xc_NoText : XC K aNoText) (z_NoText : XIsi K aNoText) (w_NoText : PySem.W.findIn K (.ref aNoText) "at" = some none) (d_NoText : PySem.W.hasDictIn K aNoText = true) (m_KenError : mg "KenError" = some (.ref aKenError)) (m_Large : mg "Large" = some (.ref aLarge)) (m_NoKind : mg "NoKind" = some (.ref aNoKind)) (m_NoLine : mg "NoLine" = some (.ref aNoLine)) (m_NoRow : mg "NoRow" = some (.ref aNoRow)) (m_NoWorlds : mg "NoWorlds" = some (.ref aNoWorlds)) (m_NoTurning : mg "NoTurning" = some (.ref aNoTurning)) (m_NoWish : mg "NoWish" = some (.ref aNoWish)) (m_NoRule : mg "NoRule" = some (.ref aNoRule)) (m_NotShown : mg "NotShown" = some (.ref aNotShown)) (m_Twice : mg "Twice" = some (.ref aTwice)) (i_1 : PySem.W.kitOne K (.ref aNoText) (.ref aKenError) = some true) (i_2 : PySem.W.kitOne K (.ref aNoText) (.type "ValueError") = some true) (i_3 : PySem.W.kitAny K (.ref aNoText) [.ref aLarge, .ref aNoKind, .ref aNoLine, .ref aNoRow, .ref aNoRule, .ref aNotShown] = some false) (i_4 : PySem.W.kitAny K (.ref aNoText) [.ref aNoTurning, .ref aNoWish, .ref aNoWorlds, .ref aTwice] = some false) (m_isinstance : mg "isinstance" = none) (m_bool : mg "bool" = none) (m_tuple : mg "tuple" = none) (m_ValueError : mg "ValueError" = none) : FnOk P w K mg base CX0 (k + 1) f__law_asked fd__law_asked ["_law_text"] sp_askN := by
  refine F__law_asked.ok sc__law_asked (fun vs H Q E h => ?_) (fun cdv A outer s H vs Q E hr h => ?_)
  · obtain ⟨x, rfl, _⟩ := h
    rfl
  obtain ⟨x, rfl, hx, hasc, q⟩ := h
  refine ⟨_, (pss_cons (ps_set (i := 1) sc__law_asked.nd rfl (Or.inl rfl) pe_non)
  (pss_cons (ps_set (i := 2) sc__law_asked.nd rfl (Or.inl rfl) pe_non)
  (pss_cons (ps_trySA (j := 1) (i := 3) rfl rfl rfl (by exact rfl) m_NoText xc_NoText sc__law_asked.nd rfl (Or.inl rfl) rfl rfl (px_call G_read hr (by exact rfl) m_read k_read b_read .nil (pa_cons (pv 0) pa_nil))
    (fun ea => (pss_cons (ps_set (i := 4) sc__law_asked.nd rfl (Or.inl rfl) (pe_callB (call_isiTK (K := K) rfl) (by exact rfl) m_isinstance Ken.boot_isinstance (pa_cons (pv 3) (pa_cons (pe_tup (pa_cons (pe_glob (v := .ref aLarge) (by exact rfl) m_Large (by exact rfl)) (pa_cons (pe_glob (v := .ref aNoKind) (by exact rfl) m_NoKind (by exact rfl)) (pa_cons (pe_glob (v := .ref aNoLine) (by exact rfl) m_NoLine (by exact rfl)) (pa_cons (pe_glob (v := .ref aNoRow) (by exact rfl) m_NoRow (by exact rfl)) (pa_cons (pe_glob (v := .ref aNoRule) (by exact rfl) m_NoRule (by exact rfl)) (pa_cons (pe_glob (v := .ref aNotShown) (by exact rfl) m_NotShown (by exact rfl)) pa_nil))))))) pa_nil))))
  (pss_cons (ps_set (i := 5) sc__law_asked.nd rfl (Or.inl rfl) (pe_callB (call_isiTK (K := K) rfl) (by exact rfl) m_isinstance Ken.boot_isinstance (pa_cons (pv 3) (pa_cons (pe_tup (pa_cons (pe_glob (v := .ref aNoTurning) (by exact rfl) m_NoTurning (by exact rfl)) (pa_cons (pe_glob (v := .ref aNoWish) (by exact rfl) m_NoWish (by exact rfl)) (pa_cons (pe_glob (v := .ref aNoWorlds) (by exact rfl) m_NoWorlds (by exact rfl)) (pa_cons (pe_glob (v := .ref aTwice) (by exact rfl) m_Twice (by exact rfl)) pa_nil))))) pa_nil))))
  (pss_one (ps_set (i := 2) sc__law_asked.nd rfl (Or.inl rfl) (pe_lst (pa_cons (pe_xfldK (K := K) rfl (pv 3)) (pa_cons (pe_callB (call_isiCK (K := K) rfl) (by exact rfl) m_isinstance Ken.boot_isinstance (pa_cons (pv 3) (pa_cons (pe_glob (v := .ref aKenError) (by exact rfl) m_KenError (by exact rfl)) pa_nil))) (pa_cons (pe_callB (call_isiBK (K := K) rfl) (by exact rfl) m_isinstance Ken.boot_isinstance (pa_cons (pv 3) (pa_cons (pe_bltn (v := .ty "ValueError") (by exact rfl) m_ValueError Ken.boot_ValueError (by exact rfl)) pa_nil))) (pa_cons (pv 4) (pa_cons (pv 5) pa_nil))))))))))))
  (pss_cons (ps_set (i := 6) sc__law_asked.nd rfl (Or.inl rfl) (pe_call G__law_first_bad hr (by exact rfl) m__law_first_bad k__law_first_bad b__law_first_bad .nil pass0 (pa_cons (pv 0) pa_nil)))
  (pss_cons (ps_if (pt_cmpR (op_isN) (pv 6) pe_non (nomark _))
    (pss_one (ps_ret (pe_and (pe_cmpR (op_isN) (pv 2) pe_non (nomark _)) (pe_one (pe_callB call_isi (by exact rfl) m_isinstance Ken.boot_isinstance (pa_cons (pv 1) (pa_cons (pe_bltn (v := .ty "tuple") (by exact rfl) m_tuple Ken.boot_tuple (by exact rfl)) pa_nil)))))))
    pss_nil)
  (pss_cons (ps_if ((pw_or (pt_cmpR (op_isN) (pv 2) pe_non (nomark _)) (pw_or1 (pt_val (pe_callB call_isi (by exact rfl) m_isinstance Ken.boot_isinstance (pa_cons (pe_ix ix_list (pv 2) pe_int (fun _ _ => rfl)) (pa_cons (pe_bltn (v := .ty "bool") (by exact rfl) m_bool Ken.boot_bool (by exact rfl)) pa_nil))))))).pt
    (pss_one (ps_ret pe_bl))
    pss_nil)
  (pss_one (ps_ret (pe_cmpR (op_eqD (hu_150 hr)) (pv 2) (pe_lst (pa_cons (pv 6) (pa_cons pe_bl (pa_cons pe_bl (pa_cons pe_bl (pa_cons pe_bl pa_nil)))))) (nomark _)))))))))), ?_⟩
  refine seq_then (fun σ' H' => σ' = [some (.str x), some .non, none, none, none, none, none] ∧ H' = H) ?_ ?_
  rotate_left
  · intro C hC
    walk_at "rdx_1"
    exact hC _ _ ⟨rfl, rfl⟩
  rintro σ2 H2 ⟨rfl, rfl⟩
  refine seq_then (fun σ' H' => σ' = [some (.str x), some .non, some .non, none, none, none, none] ∧ H' = H2) ?_ ?_
  rotate_left
  · intro C hC
    walk_at "rdx_1"
    exact hC _ _ ⟨rfl, rfl⟩
  rintro σ3 H3 ⟨rfl, rfl⟩
  refine seq_then (fun σ' H' => Same H3 H' ∧ ((badS x = none ∧ ∃ v t, IsT K H' v t ∧ σ' = [some (.str x), some v, some .non, none, none, none, none]) ∨ ∃ n t x4 x5, badS x = some n ∧ σ' = [some (.str x), some .non, some (.ref t), none, x4, x5, none] ∧ H' t = some (.lst (dueV n)))) ?_ ?_
  rotate_left
  · intro C hC
    walk_at "rdx_1"
    refine ⟨x, rfl, hx, fun hb v t H' e hv => hC _ _ ⟨e, .inl ⟨hb, v, t, hv, rfl⟩⟩, fun n hn e d H' hx hd => ?_⟩
    obtain ⟨T, hF⟩ := hx.2.2
    refine ⟨e, T, rfl, hF, ?_⟩
    have D : ∀ H2 : Hp, Same H' H2 → XDict H2 (some d) := fun H2 s d' z => by cases z; exact ⟨_, s _ _ hd⟩
    walk_at "rdx_1"
    refine ⟨by decide, fun p hp => ?_⟩
    have s1 := same_new hp (HO.tup [V.ref aLarge, V.ref aNoKind, V.ref aNoLine, V.ref aNoRow, V.ref aNoRule, V.ref aNotShown])
    refine ⟨aNoText, some d, T, s1 _ _ hF.1, D _ s1, z_NoText, [aLarge, aNoKind, aNoLine, aNoRow, aNoRule, aNotShown], upd_same, false, i_3, by decide, fun p2 hp2 => ?_⟩
    have s2 := s1.trans (same_new hp2 (HO.tup [V.ref aNoTurning, V.ref aNoWish, V.ref aNoWorlds, V.ref aTwice]))
    refine ⟨aNoText, some d, T, s2 _ _ hF.1, D _ s2, z_NoText, [aNoTurning, aNoWish, aNoWorlds, aTwice], upd_same, false, i_4, ?_⟩
    have he2 := s2 _ _ hF.1
    have hd2 := s2 _ _ hd
    have D2 := D _ s2
    generalize upd (upd H' p _) p2 _ = H6 at s2 he2 hd2 D2 ⊢
    refine ⟨aNoText, d, T, he2, _, hd2, z_NoText.toXGet, w_NoText, d_NoText, .int (n : Nat), rfl, aNoText, some d, T, he2, D2, z_NoText, true, i_1, aNoText, some d, T, he2, D2, z_NoText, true, i_2, by decide, fun t ht => ?_⟩
    exact hC _ _ ⟨(hx.2.1.trans s2).trans (same_new ht _), .inr ⟨n, t, _, _, hn, rfl, upd_same⟩⟩
  rintro σ4 H4 ⟨e4, hcase⟩
  rcases hcase with ⟨hb, v, t, hv, rfl⟩ | ⟨n, t, x4, x5, hb, rfl, ht⟩
  · refine seq_then (fun σ' H' => Same H4 H' ∧ σ' = [some (.str x), some v, some .non, none, none, none, some .non]) ?_ ?_
    rotate_left
    · intro C hC
      walk_at "rdx_1"
      refine ⟨x, rfl, hx, hasc, fun H' e => ?_⟩
      rw [hb]
      exact hC _ _ ⟨e, rfl⟩
    rintro σ5 H5 ⟨e5, rfl⟩
    walk_at "rdx_1"
    rw [if_pos trivial, if_pos trivial]
    obtain ⟨a, xs, rfl, hs⟩ := isT_tup (hv.keep e5.keepT)
    exact ⟨_, .tupK hs, true, kit_same K "tuple", q _ (e4.trans e5)⟩
  · refine seq_then (fun σ' H' => Same H4 H' ∧ σ' = [some (.str x), some .non, some (.ref t), none, x4, x5, some (.int (n : Nat))]) ?_ ?_
    rotate_left
    · intro C hC
      walk_at "rdx_1"
      refine ⟨x, rfl, hx, hasc, fun H' e => ?_⟩
      rw [hb]
      exact hC _ _ ⟨e, rfl⟩
    rintro σ5 H5 ⟨e5, rfl⟩
    walk_at "rdx_1"
    rw [if_neg (fun z => nomatch z), if_neg (fun z => nomatch z)]
    have ht5 := e5 _ _ ht
    refine ⟨_, SqL.of ht5, .int (n : Nat), rfl, _, .of (.int _), _, show PySem.W.kitOne K (.type "int") (.type "bool") = some false from rfl, ?_⟩
    rw [if_neg Bool.false_ne_true]
    refine ⟨by decide, fun p hp => ?_⟩
    have sp := same_new hp (HO.lst (dueV n))
    refine ⟨_, due_dn (sp _ _ ht5), _, due_dn (n := n) upd_same, due_lay n, due_lay n, Nat.le_trans (Nat.min_le_left _ _) (Nat.le_trans (due_dep n) (by decide)), ?_⟩
    rw [if_neg Bool.false_ne_true, due_self]
    exact q _ ((e4.trans e5).trans sp)
end
set_option Elab.async false
set_option linter.all false
set_option maxRecDepth 100000
set_option maxHeartbeats 4000000
noncomputable abbrev s_law : Stmt := top 41
theorem sc_law : FnScope ["_law_script", "_law_words_here", "_law_good", "_law_text", "_law_way", "_law_k", "_law_at", "_law_here"] ["_law_script"] (defScope s_law) := ⟨rfl, rfl, rfl, by decide +kernel, rfl, by decide +kernel, by decide +kernel⟩
section
variable {P : Program} {w : World} {K : PySem.W.Frag} {mg : Str → Option Value} {base : Heap}
theorem ok_law {k : Nat} {f_law : Addr} {fd_law : FuncData} (F_law : Fun K "law" "law" s_law f_law fd_law) {f__law_words : Addr} {fd__law_words : FuncData} (G__law_words : FnOk P w K mg base CX0 k f__law_words fd__law_words ["_law_cell_here", "_law_many"] (sp_words)) (m__law_words : mg "_law_words" = some (.ref f__law_words)) (k__law_words : PySem.W.keepIn K (.ref f__law_words) = true) (b__law_words : Binds K fd__law_words ["_law_cell_here", "_law_many"] []) {f__law_cell : Addr} {fd__law_cell : FuncData} (G__law_cell : FnOk P w K mg base CX0 k f__law_cell fd__law_cell ["_law_script", "_law_k"] (sp_cell K)) (m__law_cell : mg "_law_cell" = some (.ref f__law_cell)) (k__law_cell : PySem.W.keepIn K (.ref f__law_cell) = true) (b__law_cell : Binds K fd__law_cell ["_law_script", "_law_k"] []) {f__law_drawn : Addr} {fd__law_drawn : FuncData} (G__law_drawn : FnOk P w K mg base CX0 k f__law_drawn fd__law_drawn ["_law_cell_here", "_law_most", "_law_words_here"] (sp_drawn K)) (m__law_drawn : mg "_law_drawn" = some (.ref f__law_drawn)) (k__law_drawn : PySem.W.keepIn K (.ref f__law_drawn) = true) (b__law_drawn : Binds K fd__law_drawn ["_law_cell_here", "_law_most", "_law_words_here"] []) {f__law_written : Addr} {fd__law_written : FuncData} (G__law_written : FnOk P w K mg base CX0 k f__law_written fd__law_written ["_law_statement_here", "_law_cell_here"] (sp_written K)) (m__law_written : mg "_law_written" = some (.ref f__law_written)) (k__law_written : PySem.W.keepIn K (.ref f__law_written) = true) (b__law_written : Binds K fd__law_written ["_law_statement_here", "_law_cell_here"] []) {f__law_mix : Addr} {fd__law_mix : FuncData} (G__law_mix : FnOk P w K mg base CX0 k f__law_mix fd__law_mix ["_law_cell_here", "_law_k"] (sp_mix)) (m__law_mix : mg "_law_mix" = some (.ref f__law_mix)) (k__law_mix : PySem.W.keepIn K (.ref f__law_mix) = true) (b__law_mix : Binds K fd__law_mix ["_law_cell_here", "_law_k"] []) {f__law_spoiled : Addr} {fd__law_spoiled : FuncData} (G__law_spoiled : FnOk P w K mg base CX0 k f__law_spoiled fd__law_spoiled ["_law_text", "_law_cell_here"] (sp_spoilN)) (m__law_spoiled : mg "_law_spoiled" = some (.ref f__law_spoiled)) (k__law_spoiled : PySem.W.keepIn K (.ref f__law_spoiled) = true) (b__law_spoiled : Binds K fd__law_spoiled ["_law_text", "_law_cell_here"] []) {f__law_few : Addr} {fd__law_few : FuncData} (G__law_few : FnOk P w K mg base CX0 k f__law_few fd__law_few ["_law_script"] (sp_few K)) (m__law_few : mg "_law_few" = some (.ref f__law_few)) (k__law_few : PySem.W.keepIn K (.ref f__law_few) = true) (b__law_few : Binds K fd__law_few ["_law_script"] []) {f__law_asked : Addr} {fd__law_asked : FuncData} (G__law_asked : FnOk P w K mg base CX0 k f__law_asked fd__law_asked ["_law_text"] (sp_askN)) (m__law_asked : mg "_law_asked" = some (.ref f__law_asked)) (k__law_asked : PySem.W.keepIn K (.ref f__law_asked) = true) (b__law_asked : Binds K fd__law_asked ["_law_text"] []) (m_range : mg "range" = none) (m_len : mg "len" = none) : FnOk P w K mg base CX0 (k + 1) f_law fd_law ["_law_script"] (sp_law K) := by
  refine F_law.ok sc_law (fun vs H Q E h => ?_) (fun cdv A outer s H vs Q E hr h => ?_)
  · obtain ⟨a, ns, rfl, _⟩ := h
    rfl
  obtain ⟨a, ns, rfl, hS, hl, q⟩ := h
  refine ⟨_, (pss_cons (ps_set (i := 1) sc_law.nd rfl (Or.inl rfl) (pe_call G__law_words hr (by exact rfl) m__law_words k__law_words b__law_words .nil pass0 (pa_cons (pe_call G__law_cell hr (by exact rfl) m__law_cell k__law_cell b__law_cell .nil pass0 (pa_cons (pv 0) (pa_cons pe_int pa_nil))) (pa_cons (pe_op op_add pe_int (pe_op op_mod (pe_call G__law_cell hr (by exact rfl) m__law_cell k__law_cell b__law_cell .nil pass0 (pa_cons (pv 0) (pa_cons pe_int pa_nil))) pe_int)) pa_nil))))
  (pss_cons (ps_set (i := 2) sc_law.nd rfl (Or.inl rfl) (pe_call G__law_written hr (by exact rfl) m__law_written k__law_written b__law_written .nil pass0 (pa_cons (pe_call G__law_drawn hr (by exact rfl) m__law_drawn k__law_drawn b__law_drawn .nil pass0 (pa_cons (pe_call G__law_cell hr (by exact rfl) m__law_cell k__law_cell b__law_cell .nil pass0 (pa_cons (pv 0) (pa_cons pe_int pa_nil))) (pa_cons pe_int (pa_cons (pv 1) pa_nil)))) (pa_cons (pe_call G__law_cell hr (by exact rfl) m__law_cell k__law_cell b__law_cell .nil pass0 (pa_cons (pv 0) (pa_cons pe_int pa_nil))) pa_nil))))
  (pss_cons (ps_set (i := 3) sc_law.nd rfl (Or.inl rfl) (pv 2))
  (pss_cons (ps_set (i := 4) sc_law.nd rfl (Or.inl rfl) (pe_op op_mod (pe_call G__law_cell hr (by exact rfl) m__law_cell k__law_cell b__law_cell .nil pass0 (pa_cons (pv 0) (pa_cons pe_int pa_nil))) pe_int))
  (pss_cons (ps_if (pt_cmpR (op_lt) (pv 4) pe_int (nomark _))
    (pss_one (ps_for PassesOwn.never rfl (pi_range1 rfl m_range (pa_cons (pe_op op_add pe_int (pe_op op_mod (pe_op op_fdiv (pe_call G__law_cell hr (by exact rfl) m__law_cell k__law_cell b__law_cell .nil pass0 (pa_cons (pv 0) (pa_cons pe_int pa_nil))) pe_int) pe_int)) pa_nil)) (pg_name (i := 5) sc_law.nd rfl (Or.inl rfl))
    (pss_one (ps_set (i := 3) sc_law.nd rfl (Or.inl rfl) (pe_call G__law_spoiled hr (by exact rfl) m__law_spoiled k__law_spoiled b__law_spoiled .nil pass0 (pa_cons (pv 3) (pa_cons (pe_call G__law_mix hr (by exact rfl) m__law_mix k__law_mix b__law_mix .nil pass0 (pa_cons (pe_call G__law_cell hr (by exact rfl) m__law_cell k__law_cell b__law_cell .nil pass0 (pa_cons (pv 0) (pa_cons pe_int pa_nil))) (pa_cons (pv 5) pa_nil))) pa_nil)))))))
    (pss_one (ps_if (pt_cmpR (op_lt) (pv 4) pe_int (nomark _))
    (pss_one (ps_set (i := 3) sc_law.nd rfl (Or.inl rfl) (pe_call G__law_few hr (by exact rfl) m__law_few k__law_few b__law_few .nil pass0 (pa_cons (pv 0) pa_nil))))
    (pss_cons (ps_set (i := 6) sc_law.nd rfl (Or.inl rfl) (pe_op op_mod (pe_call G__law_cell hr (by exact rfl) m__law_cell k__law_cell b__law_cell .nil pass0 (pa_cons (pv 0) (pa_cons pe_int pa_nil))) (pe_op op_add (pe_callB call_len_str (by exact rfl) m_len Ken.boot_len (pa_cons (pv 3) pa_nil)) pe_int)))
  (pss_one (ps_set (i := 3) sc_law.nd rfl (Or.inl rfl) (pe_op op_add_str (pe_op op_add_str (pe_slice sl_str (pv 3) po_none (po_some (pv 6))) (pe_op op_mulS pe_str (pe_op op_add pe_int (pe_op op_mod (pe_op op_fdiv (pe_call G__law_cell hr (by exact rfl) m__law_cell k__law_cell b__law_cell .nil pass0 (pa_cons (pv 0) (pa_cons pe_int pa_nil))) pe_int) pe_int)))) (pe_slice sl_str (pv 3) (po_some (pv 6)) po_none))))))))
  (pss_cons (ps_for PassesOwn.never rfl (pi_list (pe_lst (pa_cons (pv 2) (pa_cons (pv 3) (pa_cons (pv 2) (pa_cons (pv 3) pa_nil)))))) (pg_name (i := 7) sc_law.nd rfl (Or.inl rfl))
    (pss_one (ps_if (pt_not (pt_val (pe_call G__law_asked hr (by exact rfl) m__law_asked k__law_asked b__law_asked .nil pass0 (pa_cons (pv 7) pa_nil))))
    (pss_one (ps_ret pe_bl))
    pss_nil)))
  (pss_one (ps_ret pe_bl)))))))), ?_⟩
  refine seq_then (fun σ' H' => ∃ wa ws, σ' = [some (.ref a), some (.ref wa), none, none, none, none, none, none] ∧ Same H H' ∧ H' wa = some (.lst (ws.map V.str)) ∧ Words ws) ?_ ?_
  rotate_left
  · intro C hC
    walk_at "rdx_1"
    refine ⟨a, ns, _, rfl, hS, hl, by decide, by decide, a, ns, _, rfl, hS, hl, by decide, by decide, _, rfl, by decide, _, _, rfl, cell_nn _ _, ?_, ?_, fun r H' ws e hr h hw => hC _ _ ⟨r, ws, rfl, e, h, hw⟩⟩
    · have := Int.emod_nonneg (cellOf ns 1) (show (5 : Int) ≠ 0 by decide)
      omega
    · have := Int.emod_lt_of_pos (cellOf ns 1) (show (0 : Int) < 5 by decide)
      omega
  rintro σ1 H1 ⟨wa, ws, rfl, e1, h1, hw⟩
  refine seq_then (fun σ' H' => ∃ g : Str, σ' = [some (.ref a), some (.ref wa), some (.str g), none, none, none, none, none] ∧ Same H H' ∧ AscN g ∧ g.length ≤ 3000) ?_ ?_
  rotate_left
  · intro C hC
    walk_at "rdx_1"
    refine ⟨a, ns, _, rfl, e1.seq hS, hl, by decide, by decide, _, _, wa, ws, rfl, cell_nn _ _, by decide, by decide, SqL.of h1, hw, fun r H' t e mt => ⟨a, ns, _, rfl, (e1.trans e).seq hS, hl, by decide, by decide, r, t, _, rfl, mt.1, mt.2.1.ok hw.2.2, mt.2.2.1, fun x H'' e' hW => hC _ _ ⟨x, rfl, (e1.trans e).trans e', hW.ascii (mt.2.1.ok hw.2.2), ?_⟩⟩⟩
    have h1 := hW.len (mt.2.1.ok hw.2.2)
    have h2 := mt.2.2.1
    rw [len_cps]; omega
  rintro σ2 H2 ⟨g, rfl, e2, hg, lg⟩
  refine seq_then (fun σ' H' => σ' = [some (.ref a), some (.ref wa), some (.str g), some (.str g), none, none, none, none] ∧ H' = H2) ?_ ?_
  rotate_left
  · intro C hC
    walk_at "rdx_1"
    exact hC _ _ ⟨rfl, rfl⟩
  rintro σ3 H3 ⟨rfl, rfl⟩
  refine seq_then (fun σ' H' => σ' = [some (.ref a), some (.ref wa), some (.str g), some (.str g), some (.int (cellOf ns 3 % 8)), none, none, none] ∧ H' = H3) ?_ ?_
  rotate_left
  · intro C hC
    walk_at "rdx_1"
    exact ⟨a, ns, _, rfl, e2.seq hS, hl, by decide, by decide, _, rfl, by decide, hC _ _ ⟨rfl, rfl⟩⟩
  rintro σ4 H4 ⟨rfl, rfl⟩
  refine seq_then (fun σ' H' => ∃ (x : Str) (x5 x6 : Option V), σ' = [some (.ref a), some (.ref wa), some (.str g), some (.str x), some (.int (cellOf ns 3 % 8)), x5, x6, none] ∧ Same H H' ∧ AscN x ∧ x.length ≤ 5000) ?_ ?_
  rotate_left
  · intro C hC
    walk_at "rdx_1"
    refine ite2 (fun _ => ?_) (fun _ => ite2 (fun _ => ?_) (fun _ => ?_))
    · walk_at "rdx_2"
      have m0 := Int.emod_nonneg (cellOf ns 3 / 8) (show (3 : Int) ≠ 0 by decide)
      have m1 := Int.emod_lt_of_pos (cellOf ns 3 / 8) (show (0 : Int) < 3 by decide)
      refine ⟨a, ns, 3, rfl, e2.seq hS, hl, by decide, by decide, _, rfl, ⟨by decide, by decide⟩, by decide, by omega, by omega, ?_⟩
      refine for_range (D := { nx := C, rt := Q }) (n := (1 + cellOf ns 3 / 8 % 3).toNat) (lo := 0) (fun i σ' H' => ∃ (x : Str) (x5 : Option V), σ' = [some (.ref a), some (.ref wa), some (.str g), some (.str x), some (.int (cellOf ns 3 % 8)), x5, none, none] ∧ Same H H' ∧ AscN x ∧ x.length ≤ 3000 + 2 * i) ⟨g, none, rfl, e2, hg, by omega⟩ (fun i σ' H' hlt hp => ?_) (fun σ' H' ⟨x, x5, h1, h2, h3, h4⟩ => hC _ _ ⟨x, x5, none, h1, h2, h3, by omega⟩)
      obtain ⟨x, x5, rfl, e, hx, lx⟩ := hp
      walk_at "rdx_1"
      exact ⟨a, ns, 4, rfl, e.seq hS, hl, by decide, by decide, _, _, rfl, by omega, by omega, x, _, rfl, mix_nn _ _, by omega, hx, fun y H'' e' hy ly => ⟨y, rfl, e.trans e', hy, by omega⟩⟩
    · exact ⟨a, ns, rfl, e2.seq hS, hl, fun y H' e hy ly => hC _ _ ⟨y, none, none, rfl, e2.trans e, hy, by omega⟩⟩
    · have sm : g.length ≤ sizeLine := Nat.le_of_lt (small1M (by omega))
      have m0 := Int.emod_nonneg (cellOf ns 4) (show ((g.length : Nat) : Int) + 1 ≠ 0 by omega)
      have m1 := Int.emod_lt_of_pos (cellOf ns 4) (show 0 < ((g.length : Nat) : Int) + 1 by omega)
      have k0 := Int.emod_nonneg (cellOf ns 4 / 4096) (show (9 : Int) ≠ 0 by decide)
      have k1 := Int.emod_lt_of_pos (cellOf ns 4 / 4096) (show (0 : Int) < 9 by decide)
      refine ⟨a, ns, 4, rfl, e2.seq hS, hl, by decide, by decide, sm, _, rfl, by omega, sm, a, ns, 4, rfl, e2.seq hS, hl, by decide, by decide, _, rfl, ⟨by decide, by decide⟩, by decide, by decide +kernel, by omega, by omega, ?_⟩
      generalize cellOf ns 4 % (((g.length : Nat) : Int) + 1) = m at m0 m1 ⊢
      obtain ⟨j, rfl⟩ := Int.eq_ofNat_of_zero_le m0
      have b1 := len_to g j
      have b2 := len_from g j
      have b3 : (Txt.mul (Str.ofString "k") (1 + cellOf ns 4 / 4096 % 9)).length = (1 + cellOf ns 4 / 4096 % 9).toNat := mul_len (c := 107)
      have t3 : AscN (Txt.mul (Str.ofString "k") (1 + cellOf ns 4 / 4096 % 9)) := fun c hc => by
        have e : (Txt.mul (Str.ofString "k") (1 + cellOf ns 4 / 4096 % 9)).cps.toList = _ := PyProof.Rows.mul_one_list (c := 107) ..
        rw [e, List.mem_replicate] at hc
        omega
      have sz : ∀ n : Nat, n ≤ 4000 → n ≤ sizeLine := fun n h => Nat.le_of_lt (small1M (by omega))
      exact ⟨sz _ (by omega), sm, sz _ (by rw [Str.length_append]; omega), hC _ _ ⟨_, none, _, rfl, e2, asc_app (asc_app (asc_to hg j) t3) (asc_from hg j), by rw [Str.length_append, Str.length_append]; omega⟩⟩
  rintro σ5 H5 ⟨x, x5, x6, rfl, e5, hx, lx⟩
  refine seq_then (fun σ' H' => ∃ (x7 : Option V), σ' = [some (.ref a), some (.ref wa), some (.str g), some (.str x), some (.int (cellOf ns 3 % 8)), x5, x6, x7]) ?_ ?_
  rotate_left
  · intro C hC
    walk_at "rdx_2"
    refine ⟨by decide, fun p hp => ⟨⟨_, SqL.of upd_same⟩, ?_⟩⟩
    have sp := same_new hp (HO.lst [V.str g, V.str x, V.str g, V.str x])
    refine for_list (D := { nx := C, rt := Q }) (xs := [V.str g, V.str x, V.str g, V.str x]) (fun i σ' H' => ∃ x7 : Option V, σ' = [some (.ref a), some (.ref wa), some (.str g), some (.str x), some (.int (cellOf ns 3 % 8)), x5, x6, x7] ∧ H' p = some (.lst [V.str g, V.str x, V.str g, V.str x])) ⟨none, rfl, upd_same⟩ (fun i σ' H' _ ⟨_, _, h⟩ => SqL.of h) (fun i v σ' H' hv hP => ?_) (fun σ' H' ⟨x7, h, _⟩ => hC _ _ ⟨x7, h⟩)
    obtain ⟨x7, rfl, hp'⟩ := hP
    have hv' : ∃ y : Str, v = .str y ∧ y.length ≤ 5000 ∧ AscN y := by
      have hm := List.mem_of_getElem? hv
      simp only [List.mem_cons, List.not_mem_nil, or_false] at hm
      rcases hm with rfl | rfl | rfl | rfl
      · exact ⟨g, rfl, by omega, hg⟩
      · exact ⟨x, rfl, lx, hx⟩
      · exact ⟨g, rfl, by omega, hg⟩
      · exact ⟨x, rfl, lx, hx⟩
    obtain ⟨y, rfl, ly, hy⟩ := hv'
    walk_at "rdx_1"
    refine ⟨y, rfl, ly, hy, fun H'' e => ⟨_, rfl, ?_⟩⟩
    rw [if_neg (by decide)]
    exact e _ _ hp'
  rintro σ6 H6 ⟨x7, rfl⟩
  walk_at "rdx_1"
  exact q _
end
set_option Elab.async false
set_option linter.all false
set_option maxRecDepth 100000
set_option maxHeartbeats 4000000
theorem all_mk {l : PySem.W.OpenLaw} {w : World} {K : PySem.W.Frag} {h : Heap} {mg : Str → Option Value} {fa : Addr} (X : K.In h) (G : h.Ns mainGlobals mg) (hfa : mg "law" = some (.ref fa))
    {f__law_mix : Addr} {fd__law_mix : FuncData}
    {f__law_cell : Addr} {fd__law_cell : FuncData}
    {f__law_words : Addr} {fd__law_words : FuncData}
    {f__law_leaf : Addr} {fd__law_leaf : FuncData}
    {f__law_statement : Addr} {fd__law_statement : FuncData}
    {f__law_comb : Addr} {fd__law_comb : FuncData}
    {f__law_drawn : Addr} {fd__law_drawn : FuncData}
    {f__law_written : Addr} {fd__law_written : FuncData}
    {f_negated : Addr} {fd_negated : FuncData}
    {f_word_end : Addr} {fd_word_end : FuncData}
    {f_openings_end : Addr} {fd_openings_end : FuncData}
    {f_NoText___init__ : Addr} {fd_NoText___init__ : FuncData}
    {f_past : Addr} {fd_past : FuncData}
    {f_at_end : Addr} {fd_at_end : FuncData}
    {f_read_simple : Addr} {fd_read_simple : FuncData}
    {f_read_kind : Addr} {fd_read_kind : FuncData}
    {f_read : Addr} {fd_read : FuncData}
    {f__law_sign : Addr} {fd__law_sign : FuncData}
    {f__law_spoiled : Addr} {fd__law_spoiled : FuncData}
    {f__law_few : Addr} {fd__law_few : FuncData}
    {f__law_goes : Addr} {fd__law_goes : FuncData}
    {f__law_first_bad : Addr} {fd__law_first_bad : FuncData}
    {f__law_asked : Addr} {fd__law_asked : FuncData}
    {f_law : Addr} {od_law an_law : Option Addr} {sl_law : Array (Option Value)} {oc_law kV_law dc_law pm_law cd_law ct_law : Value}
    {aLOW : Addr}
    {aKINDS : Addr}
    {tk_LONGEST_WORD : Tok}
    {aKenError : Addr}
    {aNoText : Addr}
    {aNoWorlds : Addr}
    {aNoRule : Addr}
    {aNoLine : Addr}
    {aNoKind : Addr}
    {aNoTurning : Addr}
    {aLarge : Addr}
    {aNotShown : Addr}
    {aTwice : Addr}
    {aNoWish : Addr}
    {aNoRow : Addr}
    (a__law_mix : PySem.W.nsIn K mainGlobals "_law_mix" = some (some (.ref f__law_mix))) (F__law_mix : Fun K "_law_mix" "_law_mix" s__law_mix f__law_mix fd__law_mix)
    (a__law_cell : PySem.W.nsIn K mainGlobals "_law_cell" = some (some (.ref f__law_cell))) (F__law_cell : Fun K "_law_cell" "_law_cell" s__law_cell f__law_cell fd__law_cell)
    (a__law_words : PySem.W.nsIn K mainGlobals "_law_words" = some (some (.ref f__law_words))) (F__law_words : Fun K "_law_words" "_law_words" s__law_words f__law_words fd__law_words)
    (a__law_leaf : PySem.W.nsIn K mainGlobals "_law_leaf" = some (some (.ref f__law_leaf))) (F__law_leaf : Fun K "_law_leaf" "_law_leaf" s__law_leaf f__law_leaf fd__law_leaf)
    (a__law_statement : PySem.W.nsIn K mainGlobals "_law_statement" = some (some (.ref f__law_statement))) (F__law_statement : Fun K "_law_statement" "_law_statement" s__law_statement f__law_statement fd__law_statement)
    (a__law_comb : PySem.W.nsIn K mainGlobals "_law_comb" = some (some (.ref f__law_comb))) (F__law_comb : Fun K "_law_comb" "_law_comb" s__law_comb f__law_comb fd__law_comb)
    (a__law_drawn : PySem.W.nsIn K mainGlobals "_law_drawn" = some (some (.ref f__law_drawn))) (F__law_drawn : Fun K "_law_drawn" "_law_drawn" s__law_drawn f__law_drawn fd__law_drawn)
    (a__law_written : PySem.W.nsIn K mainGlobals "_law_written" = some (some (.ref f__law_written))) (F__law_written : Fun K "_law_written" "_law_written" s__law_written f__law_written fd__law_written)
    (a_negated : PySem.W.nsIn K mainGlobals "negated" = some (some (.ref f_negated))) (F_negated : Fun K "negated" "negated" s_negated f_negated fd_negated)
    (a_word_end : PySem.W.nsIn K mainGlobals "word_end" = some (some (.ref f_word_end))) (F_word_end : Fun K "word_end" "word_end" s_word_end f_word_end fd_word_end)
    (a_openings_end : PySem.W.nsIn K mainGlobals "openings_end" = some (some (.ref f_openings_end))) (F_openings_end : Fun K "openings_end" "openings_end" s_openings_end f_openings_end fd_openings_end)
    (a_past : PySem.W.nsIn K mainGlobals "past" = some (some (.ref f_past))) (F_past : Fun K "past" "past" s_past f_past fd_past)
    (a_at_end : PySem.W.nsIn K mainGlobals "at_end" = some (some (.ref f_at_end))) (F_at_end : Fun K "at_end" "at_end" s_at_end f_at_end fd_at_end)
    (a_read_simple : PySem.W.nsIn K mainGlobals "read_simple" = some (some (.ref f_read_simple))) (F_read_simple : Fun K "read_simple" "read_simple" s_read_simple f_read_simple fd_read_simple)
    (a_read_kind : PySem.W.nsIn K mainGlobals "read_kind" = some (some (.ref f_read_kind))) (F_read_kind : Fun K "read_kind" "read_kind" s_read_kind f_read_kind fd_read_kind)
    (a_read : PySem.W.nsIn K mainGlobals "read" = some (some (.ref f_read))) (F_read : Fun K "read" "read" s_read f_read fd_read)
    (a__law_sign : PySem.W.nsIn K mainGlobals "_law_sign" = some (some (.ref f__law_sign))) (F__law_sign : Fun K "_law_sign" "_law_sign" s__law_sign f__law_sign fd__law_sign)
    (a__law_spoiled : PySem.W.nsIn K mainGlobals "_law_spoiled" = some (some (.ref f__law_spoiled))) (F__law_spoiled : Fun K "_law_spoiled" "_law_spoiled" s__law_spoiled f__law_spoiled fd__law_spoiled)
    (a__law_few : PySem.W.nsIn K mainGlobals "_law_few" = some (some (.ref f__law_few))) (F__law_few : Fun K "_law_few" "_law_few" s__law_few f__law_few fd__law_few)
    (a__law_goes : PySem.W.nsIn K mainGlobals "_law_goes" = some (some (.ref f__law_goes))) (F__law_goes : Fun K "_law_goes" "_law_goes" s__law_goes f__law_goes fd__law_goes)
    (a__law_first_bad : PySem.W.nsIn K mainGlobals "_law_first_bad" = some (some (.ref f__law_first_bad))) (F__law_first_bad : Fun K "_law_first_bad" "_law_first_bad" s__law_first_bad f__law_first_bad fd__law_first_bad)
    (a__law_asked : PySem.W.nsIn K mainGlobals "_law_asked" = some (some (.ref f__law_asked))) (F__law_asked : Fun K "_law_asked" "_law_asked" s__law_asked f__law_asked fd__law_asked)
    (a_law : PySem.W.nsIn K mainGlobals "law" = some (some (.ref f_law))) (l_law : K.lookup f_law = some ⟨oc_law, od_law, .func (PySem.W.fnOf "law" "law" (defArgs s_law) (defBody s_law) (defScope s_law) .none kV_law dc_law pm_law an_law cd_law ct_law), sl_law⟩) (c_law : PySem.W.codeIn K cd_law "law" = true) (k_law : PySem.W.keepIn K (.ref f_law) = true)
    (g_LOW : PySem.W.nsIn K mainGlobals "LOW" = some (some (.ref aLOW)))
    (t_LOW : ∀ H, SqT K H aLOW [.str "low"])
    (g_KINDS : PySem.W.nsIn K mainGlobals "KINDS" = some (some (.ref aKINDS)))
    (D_KINDS : KDict K w aKINDS [("&", .str "both"), ("|", .str "one"), (">", .str "then")])
    (g_LONGEST_WORD : PySem.W.nsIn K mainGlobals "LONGEST_WORD" = some (some (.int 8 tk_LONGEST_WORD)))
    (z_len : PySem.W.nsIn K mainGlobals "len" = some none)
    (z_range : PySem.W.nsIn K mainGlobals "range" = some none)
    (z_isinstance : PySem.W.nsIn K mainGlobals "isinstance" = some none)
    (z_str : PySem.W.nsIn K mainGlobals "str" = some none)
    (z_max : PySem.W.nsIn K mainGlobals "max" = some none)
    (z_int : PySem.W.nsIn K mainGlobals "int" = some none)
    (z_enumerate : PySem.W.nsIn K mainGlobals "enumerate" = some none)
    (z_bool : PySem.W.nsIn K mainGlobals "bool" = some none)
    (z_tuple : PySem.W.nsIn K mainGlobals "tuple" = some none)
    (z_ValueError : PySem.W.nsIn K mainGlobals "ValueError" = some none)
    (g_KenError : PySem.W.nsIn K mainGlobals "KenError" = some (some (.ref aKenError)))
    (g_NoText : PySem.W.nsIn K mainGlobals "NoText" = some (some (.ref aNoText)))
    (g_NoWorlds : PySem.W.nsIn K mainGlobals "NoWorlds" = some (some (.ref aNoWorlds)))
    (g_NoRule : PySem.W.nsIn K mainGlobals "NoRule" = some (some (.ref aNoRule)))
    (g_NoLine : PySem.W.nsIn K mainGlobals "NoLine" = some (some (.ref aNoLine)))
    (g_NoKind : PySem.W.nsIn K mainGlobals "NoKind" = some (some (.ref aNoKind)))
    (g_NoTurning : PySem.W.nsIn K mainGlobals "NoTurning" = some (some (.ref aNoTurning)))
    (g_Large : PySem.W.nsIn K mainGlobals "Large" = some (some (.ref aLarge)))
    (g_NotShown : PySem.W.nsIn K mainGlobals "NotShown" = some (some (.ref aNotShown)))
    (g_Twice : PySem.W.nsIn K mainGlobals "Twice" = some (some (.ref aTwice)))
    (g_NoWish : PySem.W.nsIn K mainGlobals "NoWish" = some (some (.ref aNoWish)))
    (g_NoRow : PySem.W.nsIn K mainGlobals "NoRow" = some (some (.ref aNoRow)))
    (I_NoText___init__ : Hd.IniF K aNoText aKenError "NoText.__init__" "at" s_NoText___init__ f_NoText___init__ fd_NoText___init__)
    (i_3 : PySem.W.kitAny K (.ref aNoText) [.ref aLarge, .ref aNoKind, .ref aNoLine, .ref aNoRow, .ref aNoRule, .ref aNotShown] = some false)
    (i_4 : PySem.W.kitAny K (.ref aNoText) [.ref aNoTurning, .ref aNoWish, .ref aNoWorlds, .ref aTwice] = some false) :
    ∃ fd : FuncData, (∀ (s : Shared) (v : Value), BindsTo s fd ⟨[v], []⟩ [("_law_script", v)]) ∧ ∀ base : Heap, K.In base → base.Ns mainGlobals mg → FnOk l.prog w K mg base CX0 50 fa fd ["_law_script"] (sp_law K) := by
  have e := hfa.symm.trans (PySem.W.mg_of X G a_law)
  cases e
  have m__law_mix := PySem.W.mg_of X G a__law_mix
  have k__law_mix := F__law_mix.kp
  have b__law_mix := F__law_mix.binds (ps := ["_law_cell_here", "_law_k"]) fun _ _ _ _ _ _ us hl => match us, hl with | [_, _], _ => rfl
  have m__law_cell := PySem.W.mg_of X G a__law_cell
  have k__law_cell := F__law_cell.kp
  have b__law_cell := F__law_cell.binds (ps := ["_law_script", "_law_k"]) fun _ _ _ _ _ _ us hl => match us, hl with | [_, _], _ => rfl
  have m__law_words := PySem.W.mg_of X G a__law_words
  have k__law_words := F__law_words.kp
  have b__law_words := F__law_words.binds (ps := ["_law_cell_here", "_law_many"]) fun _ _ _ _ _ _ us hl => match us, hl with | [_, _], _ => rfl
  have m__law_leaf := PySem.W.mg_of X G a__law_leaf
  have k__law_leaf := F__law_leaf.kp
  have b__law_leaf := F__law_leaf.binds (ps := ["_law_cell_here", "_law_words_here"]) fun _ _ _ _ _ _ us hl => match us, hl with | [_, _], _ => rfl
  have m__law_statement := PySem.W.mg_of X G a__law_statement
  have k__law_statement := F__law_statement.kp
  have b__law_statement := F__law_statement.binds (ps := ["_law_cell_here", "_law_size", "_law_words_here"]) fun _ _ _ _ _ _ us hl => match us, hl with | [_, _, _], _ => rfl
  have m__law_comb := PySem.W.mg_of X G a__law_comb
  have k__law_comb := F__law_comb.kp
  have b__law_comb := F__law_comb.binds (ps := ["_law_cell_here", "_law_many", "_law_words_here"]) fun _ _ _ _ _ _ us hl => match us, hl with | [_, _, _], _ => rfl
  have m__law_drawn := PySem.W.mg_of X G a__law_drawn
  have k__law_drawn := F__law_drawn.kp
  have b__law_drawn := F__law_drawn.binds (ps := ["_law_cell_here", "_law_most", "_law_words_here"]) fun _ _ _ _ _ _ us hl => match us, hl with | [_, _, _], _ => rfl
  have m__law_written := PySem.W.mg_of X G a__law_written
  have k__law_written := F__law_written.kp
  have b__law_written := F__law_written.binds (ps := ["_law_statement_here", "_law_cell_here"]) fun _ _ _ _ _ _ us hl => match us, hl with | [_, _], _ => rfl
  have m_negated := PySem.W.mg_of X G a_negated
  have k_negated := F_negated.kp
  have b_negated := F_negated.binds (ps := ["statement"]) fun _ _ _ _ _ _ us hl => match us, hl with | [_], _ => rfl
  have m_word_end := PySem.W.mg_of X G a_word_end
  have k_word_end := F_word_end.kp
  have b_word_end := F_word_end.binds (ps := ["text", "at"]) fun _ _ _ _ _ _ us hl => match us, hl with | [_, _], _ => rfl
  have m_openings_end := PySem.W.mg_of X G a_openings_end
  have k_openings_end := F_openings_end.kp
  have b_openings_end := F_openings_end.binds (ps := ["text", "at"]) fun _ _ _ _ _ _ us hl => match us, hl with | [_, _], _ => rfl
  have m_past := PySem.W.mg_of X G a_past
  have k_past := F_past.kp
  have b_past := F_past.binds (ps := ["text", "at", "sign"]) fun _ _ _ _ _ _ us hl => match us, hl with | [_, _, _], _ => rfl
  have m_at_end := PySem.W.mg_of X G a_at_end
  have k_at_end := F_at_end.kp
  have b_at_end := F_at_end.binds (ps := ["text", "at", "statement"]) fun _ _ _ _ _ _ us hl => match us, hl with | [_, _, _], _ => rfl
  have m_read_simple := PySem.W.mg_of X G a_read_simple
  have k_read_simple := F_read_simple.kp
  have b_read_simple := F_read_simple.binds (ps := ["text", "at"]) fun _ _ _ _ _ _ us hl => match us, hl with | [_, _], _ => rfl
  have m_read_kind := PySem.W.mg_of X G a_read_kind
  have k_read_kind := F_read_kind.kp
  have b_read_kind := F_read_kind.binds (ps := ["text", "at"]) fun _ _ _ _ _ _ us hl => match us, hl with | [_, _], _ => rfl
  have m_read := PySem.W.mg_of X G a_read
  have k_read := F_read.kp
  have b_read := F_read.binds (ps := ["text"]) fun _ _ _ _ _ _ us hl => match us, hl with | [_], _ => rfl
  have m__law_sign := PySem.W.mg_of X G a__law_sign
  have k__law_sign := F__law_sign.kp
  have b__law_sign := F__law_sign.binds (ps := ["_law_cell_here"]) fun _ _ _ _ _ _ us hl => match us, hl with | [_], _ => rfl
  have m__law_spoiled := PySem.W.mg_of X G a__law_spoiled
  have k__law_spoiled := F__law_spoiled.kp
  have b__law_spoiled := F__law_spoiled.binds (ps := ["_law_text", "_law_cell_here"]) fun _ _ _ _ _ _ us hl => match us, hl with | [_, _], _ => rfl
  have m__law_few := PySem.W.mg_of X G a__law_few
  have k__law_few := F__law_few.kp
  have b__law_few := F__law_few.binds (ps := ["_law_script"]) fun _ _ _ _ _ _ us hl => match us, hl with | [_], _ => rfl
  have m__law_goes := PySem.W.mg_of X G a__law_goes
  have k__law_goes := F__law_goes.kp
  have b__law_goes := F__law_goes.binds (ps := ["_law_mode", "_law_opened", "_law_sign_here"]) fun _ _ _ _ _ _ us hl => match us, hl with | [_, _, _], _ => rfl
  have m__law_first_bad := PySem.W.mg_of X G a__law_first_bad
  have k__law_first_bad := F__law_first_bad.kp
  have b__law_first_bad := F__law_first_bad.binds (ps := ["_law_text"]) fun _ _ _ _ _ _ us hl => match us, hl with | [_], _ => rfl
  have m__law_asked := PySem.W.mg_of X G a__law_asked
  have k__law_asked := F__law_asked.kp
  have b__law_asked := F__law_asked.binds (ps := ["_law_text"]) fun _ _ _ _ _ _ us hl => match us, hl with | [_], _ => rfl
  have F_law := fun_mk (st := s_law) l_law c_law k_law
  have m_LOW := PySem.W.mg_of X G g_LOW
  have m_KINDS := PySem.W.mg_of X G g_KINDS
  have m_LONGEST_WORD := PySem.W.mg_of X G g_LONGEST_WORD
  have m_len := PySem.W.mg_none_of X G z_len
  have m_range := PySem.W.mg_none_of X G z_range
  have m_isinstance := PySem.W.mg_none_of X G z_isinstance
  have m_str := PySem.W.mg_none_of X G z_str
  have m_max := PySem.W.mg_none_of X G z_max
  have m_int := PySem.W.mg_none_of X G z_int
  have m_enumerate := PySem.W.mg_none_of X G z_enumerate
  have m_bool := PySem.W.mg_none_of X G z_bool
  have m_tuple := PySem.W.mg_none_of X G z_tuple
  have m_ValueError := PySem.W.mg_none_of X G z_ValueError
  have m_KenError := PySem.W.mg_of X G g_KenError
  have m_NoText := PySem.W.mg_of X G g_NoText
  have m_NoWorlds := PySem.W.mg_of X G g_NoWorlds
  have m_NoRule := PySem.W.mg_of X G g_NoRule
  have m_NoLine := PySem.W.mg_of X G g_NoLine
  have m_NoKind := PySem.W.mg_of X G g_NoKind
  have m_NoTurning := PySem.W.mg_of X G g_NoTurning
  have m_Large := PySem.W.mg_of X G g_Large
  have m_NotShown := PySem.W.mg_of X G g_NotShown
  have m_Twice := PySem.W.mg_of X G g_Twice
  have m_NoWish := PySem.W.mg_of X G g_NoWish
  have m_NoRow := PySem.W.mg_of X G g_NoRow
  have F_NoText___init__ := I_NoText___init__.fn
  have b_NoText___init__ := F_NoText___init__.binds (ps := ["self", "at"]) fun _ _ _ _ _ _ us hl => match us, hl with | [_, _], _ => rfl
  have x_NoText := I_NoText___init__.xc
  have xc_NoText := x_NoText.xc
  have z_NoText := I_NoText___init__.isi
  have xs_NoText := I_NoText___init__.set
  have xi_KenError := I_NoText___init__.ini
  have w_NoText := xs_NoText.na
  have d_NoText := xs_NoText.hd
  have i_1 := I_NoText___init__.one
  have i_2 := I_NoText___init__.val
  refine ⟨PySem.W.fnOf "law" "law" (defArgs s_law) (defBody s_law) (defScope s_law) .none kV_law dc_law pm_law an_law cd_law ct_law, fun s v => .of_eq rfl, fun base _ _ => ?_⟩
  have G__law_mix := ok__law_mix (P := l.prog) (w := w) (K := K) (mg := mg) (base := base) (k := 0) F__law_mix
  have G__law_cell := ok__law_cell (P := l.prog) (w := w) (K := K) (mg := mg) (base := base) (k := 1) F__law_cell (G__law_mix.mono (by decide)) m__law_mix k__law_mix b__law_mix m_len
  have G__law_words := ok__law_words (P := l.prog) (w := w) (K := K) (mg := mg) (base := base) (k := 0) F__law_words m_range
  have G__law_leaf := ok__law_leaf (P := l.prog) (w := w) (K := K) (mg := mg) (base := base) (k := 0) F__law_leaf m_len
  have G__law_statement := all__law_statement (P := l.prog) (w := w) (K := K) (mg := mg) (base := base) F__law_statement m__law_statement b__law_statement (fun k => ok__law_mix F__law_mix) m__law_mix k__law_mix b__law_mix (fun k => ok__law_leaf F__law_leaf m_len) m__law_leaf k__law_leaf b__law_leaf 47
  have G__law_comb := ok__law_comb (P := l.prog) (w := w) (K := K) (mg := mg) (base := base) (k := 1) F__law_comb (G__law_mix.mono (by decide)) m__law_mix k__law_mix b__law_mix (G__law_leaf.mono (by decide)) m__law_leaf k__law_leaf b__law_leaf m_range
  have G__law_drawn := ok__law_drawn (P := l.prog) (w := w) (K := K) (mg := mg) (base := base) (k := 48) F__law_drawn (G__law_statement.mono (by decide)) m__law_statement k__law_statement b__law_statement (G__law_mix.mono (by decide)) m__law_mix k__law_mix b__law_mix (G__law_comb.mono (by decide)) m__law_comb k__law_comb b__law_comb
  have G__law_written := ok__law_written (P := l.prog) (w := w) (K := K) (mg := mg) (base := base) (k := 1) F__law_written (G__law_mix.mono (by decide)) m__law_mix k__law_mix b__law_mix m_isinstance m_str m_len
  have G_negated := ok_negated (P := l.prog) (w := w) (K := K) (mg := mg) (base := base) (k := 0) F_negated m_LOW t_LOW
  have G_word_end := ok_word_end (P := l.prog) (w := w) (K := K) (mg := mg) (base := base) (k := 0) F_word_end m_LONGEST_WORD
  have G_openings_end := ok_openings_end (P := l.prog) (w := w) (K := K) (mg := mg) (base := base) (k := 0) F_openings_end
  have G_NoText___init__ := ok_NoText___init__ (P := l.prog) (w := w) (K := K) (mg := mg) (base := base) (k := 0) F_NoText___init__ m_KenError xi_KenError xc_NoText xs_NoText
  have G_past := ok_past (P := l.prog) (w := w) (K := K) (mg := mg) (base := base) (k := 1) F_past m_NoText G_NoText___init__ b_NoText___init__ x_NoText
  have G_at_end := ok_at_end (P := l.prog) (w := w) (K := K) (mg := mg) (base := base) (k := 1) F_at_end m_NoText G_NoText___init__ b_NoText___init__ x_NoText m_len
  have G_read_simple := ok_read_simple (P := l.prog) (w := w) (K := K) (mg := mg) (base := base) (k := 1) F_read_simple (G_word_end.mono (by decide)) m_word_end k_word_end b_word_end m_LOW t_LOW m_NoText G_NoText___init__ b_NoText___init__ x_NoText
  have G_read_kind := ok_read_kind (P := l.prog) (w := w) (K := K) (mg := mg) (base := base) (k := 2) F_read_kind G_past m_past k_past b_past m_KINDS D_KINDS m_NoText (G_NoText___init__.mono (by decide)) b_NoText___init__ x_NoText
  have G_read := ok_read (P := l.prog) (w := w) (K := K) (mg := mg) (base := base) (k := 4) F_read (G_openings_end.mono (by decide)) m_openings_end k_openings_end b_openings_end (G_read_simple.mono (by decide)) m_read_simple k_read_simple b_read_simple (G_read_kind.mono (by decide)) m_read_kind k_read_kind b_read_kind (G_at_end.mono (by decide)) m_at_end k_at_end b_at_end (G_negated.mono (by decide)) m_negated k_negated b_negated (G_past.mono (by decide)) m_past k_past b_past
  have G__law_sign := ok__law_sign (P := l.prog) (w := w) (K := K) (mg := mg) (base := base) (k := 0) F__law_sign m_len
  have G__law_spoiled := ok__law_spoiled (P := l.prog) (w := w) (K := K) (mg := mg) (base := base) (k := 1) F__law_spoiled (G__law_sign.mono (by decide)) m__law_sign k__law_sign b__law_sign (G__law_mix.mono (by decide)) m__law_mix k__law_mix b__law_mix m_len
  have G__law_few := ok__law_few (P := l.prog) (w := w) (K := K) (mg := mg) (base := base) (k := 2) F__law_few (G__law_cell.mono (by decide)) m__law_cell k__law_cell b__law_cell (G__law_mix.mono (by decide)) m__law_mix k__law_mix b__law_mix m_range m_len m_max
  have G__law_goes := ok__law_goes (P := l.prog) (w := w) (K := K) (mg := mg) (base := base) (k := 0) F__law_goes m_int
  have G__law_first_bad := ok__law_first_bad (P := l.prog) (w := w) (K := K) (mg := mg) (base := base) (k := 1) F__law_first_bad (G__law_goes.mono (by decide)) m__law_goes k__law_goes b__law_goes m_enumerate m_len
  have G__law_asked := ok__law_asked (P := l.prog) (w := w) (K := K) (mg := mg) (base := base) (k := 5) F__law_asked (G__law_first_bad.mono (by decide)) m__law_first_bad k__law_first_bad b__law_first_bad (G_read.mono (by decide)) m_read k_read b_read m_NoText xc_NoText z_NoText w_NoText d_NoText m_KenError m_Large m_NoKind m_NoLine m_NoRow m_NoWorlds m_NoTurning m_NoWish m_NoRule m_NotShown m_Twice i_1 i_2 i_3 i_4 m_isinstance m_bool m_tuple m_ValueError
  have G_law := ok_law (P := l.prog) (w := w) (K := K) (mg := mg) (base := base) (k := 49) F_law (G__law_words.mono (by decide)) m__law_words k__law_words b__law_words (G__law_cell.mono (by decide)) m__law_cell k__law_cell b__law_cell (G__law_drawn.mono (by decide)) m__law_drawn k__law_drawn b__law_drawn (G__law_written.mono (by decide)) m__law_written k__law_written b__law_written (G__law_mix.mono (by decide)) m__law_mix k__law_mix b__law_mix (G__law_spoiled.mono (by decide)) m__law_spoiled k__law_spoiled b__law_spoiled (G__law_few.mono (by decide)) m__law_few k__law_few b__law_few (G__law_asked.mono (by decide)) m__law_asked k__law_asked b__law_asked m_range m_len
  exact G_law
noncomputable def ask : Hd.Ask := ⟨[27, 28, 29, 30, 31, 32, 33, 34, 15, 20, 23, 19, 24, 21, 22, 25, 35, 36, 37, 38, 39, 40, 41], [14], [], [17], [Str.ofString "len", Str.ofString "range", Str.ofString "isinstance", Str.ofString "str", Str.ofString "max", Str.ofString "int", Str.ofString "enumerate", Str.ofString "bool", Str.ofString "tuple", Str.ofString "ValueError"]⟩
noncomputable def cask : Hd.ClsAsk := ⟨[1, 2, 3, 4, 5, 6, 7, 8, 9, 10, 11, 12], [], [(2, [8, 6, 5, 12, 4, 9]), (2, [7, 11, 3, 10])]⟩
noncomputable def mask : Hd.MoreAsk := ⟨[⟨2, 1, 0, Str.ofString "NoText.__init__", Str.ofString "at"⟩], [(Str.ofString "LONGEST_WORD", 8)]⟩
noncomputable def q : Program := PySem.W.view PySem.Challenge.pw_ken_k04_no_text [1, 2, 3, 4, 5, 6, 7, 8, 9, 10, 11, 12, 14, 15, 17, 18, 19, 20, 21, 22, 23, 24, 25, 27, 28, 29, 30, 31, 32, 33, 34, 35, 36, 37, 38, 39, 40, 41]
noncomputable def loose : List Str := [Str.ofString "KINDS"]
open PySem.W.Fast
theorem h1 (w : World) : (fun os => Hd.pre PySem.Challenge.pw_ken_k04_no_text w os) = fun os => Hd.preTo PySem.Challenge.pw_ken_k04_no_text w os := by
  rw [hdPre_eq, hdPreTo_eq]
  kernel_rfl
theorem h2 (w : World) : (fun os => Hd.blk PySem.Challenge.pw_ken_k04_no_text w os) = fun os => Hd.blkTo PySem.Challenge.pw_ken_k04_no_text w os := by
  rw [hdBlk_eq, hdBlkTo_eq]
  kernel_rfl
theorem h3f (w : World) : (fun os => Hd.ev PySem.Challenge.pw_ken_k04_no_text q loose [] (Hd.obs3 PySem.Challenge.pw_ken_k04_no_text ask cask mask) 3465 ⟨235, 0, 251, 15⟩ (World.withFollow w "special-get-raises" false) os) = fun _ => Hd.evTo PySem.Challenge.pw_ken_k04_no_text q loose (Hd.val3 PySem.Challenge.pw_ken_k04_no_text ask mask) ⟨235, 0, 251, 15⟩ (World.withFollow w "special-get-raises" false) := by
  rw [hdEv_eq, hdEvTo_eq, hdObs3_eq, hdVal3_eq]
  kernel_rfl
theorem h3t (w : World) : (fun os => Hd.ev PySem.Challenge.pw_ken_k04_no_text q loose [] (Hd.obs3 PySem.Challenge.pw_ken_k04_no_text ask cask mask) 3465 ⟨235, 0, 251, 15⟩ (World.withFollow w "special-get-raises" true) os) = fun _ => Hd.evTo PySem.Challenge.pw_ken_k04_no_text q loose (Hd.val3 PySem.Challenge.pw_ken_k04_no_text ask mask) ⟨235, 0, 251, 15⟩ (World.withFollow w "special-get-raises" true) := by
  rw [hdEv_eq, hdEvTo_eq, hdObs3_eq, hdVal3_eq]
  kernel_rfl
theorem h3 (w : World) : (fun os => Hd.ev PySem.Challenge.pw_ken_k04_no_text q loose [] (Hd.obs3 PySem.Challenge.pw_ken_k04_no_text ask cask mask) 3465 ⟨235, 0, 251, 15⟩ w os) = fun _ => Hd.evTo PySem.Challenge.pw_ken_k04_no_text q loose (Hd.val3 PySem.Challenge.pw_ken_k04_no_text ask mask) ⟨235, 0, 251, 15⟩ w :=
  PySem.W.byRow2 "special-get-raises" (P := fun w => (fun os => Hd.ev PySem.Challenge.pw_ken_k04_no_text q loose [] (Hd.obs3 PySem.Challenge.pw_ken_k04_no_text ask cask mask) 3465 ⟨235, 0, 251, 15⟩ w os) = fun _ => Hd.evTo PySem.Challenge.pw_ken_k04_no_text q loose (Hd.val3 PySem.Challenge.pw_ken_k04_no_text ask mask) ⟨235, 0, 251, 15⟩ w) h3f h3t w
theorem lft : PySem.W.LeftO PySem.Challenge.pw_ken_k04_no_text q loose (fun s => PySem.W.xlAt q [] s && PySem.W.recOk [] s) (Hd.hook3 PySem.Challenge.pw_ken_k04_no_text ask cask mask).obs (Hd.hook3 PySem.Challenge.pw_ken_k04_no_text ask cask mask).val 7054 :=
  Hd.left (by kernel_rfl) rfl (fun s => by kernel_rfl) h1 h2 h3 rfl
theorem all_mk2 {l : PySem.W.OpenLaw} {w : World} {K : PySem.W.Frag} {h : Heap} {mg : Str → Option Value} {fa : Addr} (X : K.In h) (G : h.Ns mainGlobals mg) (hfa : mg "law" = some (.ref fa)) (E : Hd.obsK PySem.Challenge.pw_ken_k04_no_text ask K = Hd.valK PySem.Challenge.pw_ken_k04_no_text ask w.params) (D : Hd.chk PySem.Challenge.pw_ken_k04_no_text cask K = true) (E2 : Hd.iniK PySem.Challenge.pw_ken_k04_no_text mask K = Hd.iniV PySem.Challenge.pw_ken_k04_no_text mask) (D2 : Hd.chkM PySem.Challenge.pw_ken_k04_no_text mask K = true) :
    ∃ fd : FuncData, (∀ (s : Shared) (v : Value), BindsTo s fd ⟨[v], []⟩ [("_law_script", v)]) ∧ ∀ base : Heap, K.In base → base.Ns mainGlobals mg → FnOk l.prog w K mg base CX0 50 fa fd ["_law_script"] (sp_law K) := by
  obtain ⟨f__law_mix, fd__law_mix, a__law_mix, F__law_mix⟩ : Hd.FunF K "_law_mix" s__law_mix := Hd.fun_ofx (by kernel_rfl) (Hd.e_fn E (i := 27) (by decide))
  obtain ⟨f__law_cell, fd__law_cell, a__law_cell, F__law_cell⟩ : Hd.FunF K "_law_cell" s__law_cell := Hd.fun_ofx (by kernel_rfl) (Hd.e_fn E (i := 28) (by decide))
  obtain ⟨f__law_words, fd__law_words, a__law_words, F__law_words⟩ : Hd.FunF K "_law_words" s__law_words := Hd.fun_ofx (by kernel_rfl) (Hd.e_fn E (i := 29) (by decide))
  obtain ⟨f__law_leaf, fd__law_leaf, a__law_leaf, F__law_leaf⟩ : Hd.FunF K "_law_leaf" s__law_leaf := Hd.fun_ofx (by kernel_rfl) (Hd.e_fn E (i := 30) (by decide))
  obtain ⟨f__law_statement, fd__law_statement, a__law_statement, F__law_statement⟩ : Hd.FunF K "_law_statement" s__law_statement := Hd.fun_ofx (by kernel_rfl) (Hd.e_fn E (i := 31) (by decide))
  obtain ⟨f__law_comb, fd__law_comb, a__law_comb, F__law_comb⟩ : Hd.FunF K "_law_comb" s__law_comb := Hd.fun_ofx (by kernel_rfl) (Hd.e_fn E (i := 32) (by decide))
  obtain ⟨f__law_drawn, fd__law_drawn, a__law_drawn, F__law_drawn⟩ : Hd.FunF K "_law_drawn" s__law_drawn := Hd.fun_ofx (by kernel_rfl) (Hd.e_fn E (i := 33) (by decide))
  obtain ⟨f__law_written, fd__law_written, a__law_written, F__law_written⟩ : Hd.FunF K "_law_written" s__law_written := Hd.fun_ofx (by kernel_rfl) (Hd.e_fn E (i := 34) (by decide))
  obtain ⟨f_negated, fd_negated, a_negated, F_negated⟩ : Hd.FunF K "negated" s_negated := Hd.fun_ofx (by kernel_rfl) (Hd.e_fn E (i := 15) (by decide))
  obtain ⟨f_word_end, fd_word_end, a_word_end, F_word_end⟩ : Hd.FunF K "word_end" s_word_end := Hd.fun_ofx (by kernel_rfl) (Hd.e_fn E (i := 20) (by decide))
  obtain ⟨f_openings_end, fd_openings_end, a_openings_end, F_openings_end⟩ : Hd.FunF K "openings_end" s_openings_end := Hd.fun_ofx (by kernel_rfl) (Hd.e_fn E (i := 23) (by decide))
  obtain ⟨f_past, fd_past, a_past, F_past⟩ : Hd.FunF K "past" s_past := Hd.fun_ofx (by kernel_rfl) (Hd.e_fn E (i := 19) (by decide))
  obtain ⟨f_at_end, fd_at_end, a_at_end, F_at_end⟩ : Hd.FunF K "at_end" s_at_end := Hd.fun_ofx (by kernel_rfl) (Hd.e_fn E (i := 24) (by decide))
  obtain ⟨f_read_simple, fd_read_simple, a_read_simple, F_read_simple⟩ : Hd.FunF K "read_simple" s_read_simple := Hd.fun_ofx (by kernel_rfl) (Hd.e_fn E (i := 21) (by decide))
  obtain ⟨f_read_kind, fd_read_kind, a_read_kind, F_read_kind⟩ : Hd.FunF K "read_kind" s_read_kind := Hd.fun_ofx (by kernel_rfl) (Hd.e_fn E (i := 22) (by decide))
  obtain ⟨f_read, fd_read, a_read, F_read⟩ : Hd.FunF K "read" s_read := Hd.fun_ofx (by kernel_rfl) (Hd.e_fn E (i := 25) (by decide))
  obtain ⟨f__law_sign, fd__law_sign, a__law_sign, F__law_sign⟩ : Hd.FunF K "_law_sign" s__law_sign := Hd.fun_ofx (by kernel_rfl) (Hd.e_fn E (i := 35) (by decide))
  obtain ⟨f__law_spoiled, fd__law_spoiled, a__law_spoiled, F__law_spoiled⟩ : Hd.FunF K "_law_spoiled" s__law_spoiled := Hd.fun_ofx (by kernel_rfl) (Hd.e_fn E (i := 36) (by decide))
  obtain ⟨f__law_few, fd__law_few, a__law_few, F__law_few⟩ : Hd.FunF K "_law_few" s__law_few := Hd.fun_ofx (by kernel_rfl) (Hd.e_fn E (i := 37) (by decide))
  obtain ⟨f__law_goes, fd__law_goes, a__law_goes, F__law_goes⟩ : Hd.FunF K "_law_goes" s__law_goes := Hd.fun_ofx (by kernel_rfl) (Hd.e_fn E (i := 38) (by decide))
  obtain ⟨f__law_first_bad, fd__law_first_bad, a__law_first_bad, F__law_first_bad⟩ : Hd.FunF K "_law_first_bad" s__law_first_bad := Hd.fun_ofx (by kernel_rfl) (Hd.e_fn E (i := 39) (by decide))
  obtain ⟨f__law_asked, fd__law_asked, a__law_asked, F__law_asked⟩ : Hd.FunF K "_law_asked" s__law_asked := Hd.fun_ofx (by kernel_rfl) (Hd.e_fn E (i := 40) (by decide))
  obtain ⟨f_law, oc_law, od_law, sl_law, kV_law, dc_law, pm_law, an_law, cd_law, ct_law, a_law, l_law, c_law, k_law⟩ : Hd.FnF K "law" s_law := Hd.fn_ofx (by kernel_rfl) (Hd.e_fn E (i := 41) (by decide))
  obtain ⟨aLOW, g_LOW, t_LOW⟩ : Hd.TupF K "LOW" ["low"] := Hd.tup_ofx (by kernel_rfl) (by kernel_rfl) (by decide) (Hd.e_tup E (i := 14) (by decide))
  obtain ⟨aKINDS, g_KINDS, D_KINDS⟩ : Hd.KfF K w "KINDS" _ := Hd.kd_ofx (l := [("&", "both"), ("|", "one"), (">", "then")]) (by kernel_rfl) (by kernel_rfl) (show (["&", "|", ">"] : List Str).Nodup by decide) (Hd.e_kd E (i := 17) (by decide))
  have g_KenError := Hd.c_refx (x := "KenError") D (i := 1) (by kernel_rfl) (by decide)
  have g_NoText := Hd.c_refx (x := "NoText") D (i := 2) (by kernel_rfl) (by decide)
  have g_NoWorlds := Hd.c_refx (x := "NoWorlds") D (i := 3) (by kernel_rfl) (by decide)
  have g_NoRule := Hd.c_refx (x := "NoRule") D (i := 4) (by kernel_rfl) (by decide)
  have g_NoLine := Hd.c_refx (x := "NoLine") D (i := 5) (by kernel_rfl) (by decide)
  have g_NoKind := Hd.c_refx (x := "NoKind") D (i := 6) (by kernel_rfl) (by decide)
  have g_NoTurning := Hd.c_refx (x := "NoTurning") D (i := 7) (by kernel_rfl) (by decide)
  have g_Large := Hd.c_refx (x := "Large") D (i := 8) (by kernel_rfl) (by decide)
  have g_NotShown := Hd.c_refx (x := "NotShown") D (i := 9) (by kernel_rfl) (by decide)
  have g_Twice := Hd.c_refx (x := "Twice") D (i := 10) (by kernel_rfl) (by decide)
  have g_NoWish := Hd.c_refx (x := "NoWish") D (i := 11) (by kernel_rfl) (by decide)
  have g_NoRow := Hd.c_refx (x := "NoRow") D (i := 12) (by kernel_rfl) (by decide)
  obtain ⟨f_NoText___init__, fd_NoText___init__, I_NoText___init__⟩ := Hd.m_ini D2 E2 (r := ⟨2, 1, 0, Str.ofString "NoText.__init__", Str.ofString "at"⟩) (.head _)
  obtain ⟨tk_LONGEST_WORD, g_LONGEST_WORD⟩ := Hd.m_int D2 (x := "LONGEST_WORD") (i := 8) (.head _)
  have i_3 := Hd.c_kit D (ij := (2, [8, 6, 5, 12, 4, 9])) (by decide)
  have i_4 := Hd.c_kit D (ij := (2, [7, 11, 3, 10])) (by decide)
  have z_len : PySem.W.nsIn K mainGlobals "len" = some none := Hd.e_bl E (x := "len") (.head _)
  have z_range : PySem.W.nsIn K mainGlobals "range" = some none := Hd.e_bl E (x := "range") (.tail _ (.head _))
  have z_isinstance : PySem.W.nsIn K mainGlobals "isinstance" = some none := Hd.e_bl E (x := "isinstance") (.tail _ (.tail _ (.head _)))
  have z_str : PySem.W.nsIn K mainGlobals "str" = some none := Hd.e_bl E (x := "str") (.tail _ (.tail _ (.tail _ (.head _))))
  have z_max : PySem.W.nsIn K mainGlobals "max" = some none := Hd.e_bl E (x := "max") (.tail _ (.tail _ (.tail _ (.tail _ (.head _)))))
  have z_int : PySem.W.nsIn K mainGlobals "int" = some none := Hd.e_bl E (x := "int") (.tail _ (.tail _ (.tail _ (.tail _ (.tail _ (.head _))))))
  have z_enumerate : PySem.W.nsIn K mainGlobals "enumerate" = some none := Hd.e_bl E (x := "enumerate") (.tail _ (.tail _ (.tail _ (.tail _ (.tail _ (.tail _ (.head _)))))))
  have z_bool : PySem.W.nsIn K mainGlobals "bool" = some none := Hd.e_bl E (x := "bool") (.tail _ (.tail _ (.tail _ (.tail _ (.tail _ (.tail _ (.tail _ (.head _))))))))
  have z_tuple : PySem.W.nsIn K mainGlobals "tuple" = some none := Hd.e_bl E (x := "tuple") (.tail _ (.tail _ (.tail _ (.tail _ (.tail _ (.tail _ (.tail _ (.tail _ (.head _)))))))))
  have z_ValueError : PySem.W.nsIn K mainGlobals "ValueError" = some none := Hd.e_bl E (x := "ValueError") (.tail _ (.tail _ (.tail _ (.tail _ (.tail _ (.tail _ (.tail _ (.tail _ (.tail _ (.head _))))))))))
  exact all_mk X G hfa a__law_mix F__law_mix a__law_cell F__law_cell a__law_words F__law_words a__law_leaf F__law_leaf a__law_statement F__law_statement a__law_comb F__law_comb a__law_drawn F__law_drawn a__law_written F__law_written a_negated F_negated a_word_end F_word_end a_openings_end F_openings_end a_past F_past a_at_end F_at_end a_read_simple F_read_simple a_read_kind F_read_kind a_read F_read a__law_sign F__law_sign a__law_spoiled F__law_spoiled a__law_few F__law_few a__law_goes F__law_goes a__law_first_bad F__law_first_bad a__law_asked F__law_asked a_law l_law c_law k_law g_LOW t_LOW g_KINDS D_KINDS g_LONGEST_WORD z_len z_range z_isinstance z_str z_max z_int z_enumerate z_bool z_tuple z_ValueError g_KenError g_NoText g_NoWorlds g_NoRule g_NoLine g_NoKind g_NoTurning g_Large g_NotShown g_Twice g_NoWish g_NoRow I_NoText___init__ i_3 i_4
noncomputable def dLaw : PySem.DefRec := ⟨"law", defArgs s_law, defBody s_law, defScope s_law, Hd.posOf s_law⟩
theorem wlk : PySem.W.WalkO q loose (PySem.W.XL q []) (Hd.hook3 PySem.Challenge.pw_ken_k04_no_text ask cask mask).says (PySem.Challenge.rw_ken_k04_no_text).row.toRowW dLaw [] (fun f vs => PySem.call f vs) :=
  Hd.walkH3 (l := PySem.Challenge.rw_ken_k04_no_text) (n := 63) (k := 50) (x := "_law_script") (CX := CX0) (sp := fun K => sp_law K) rfl (by decide) rfl ⟨rfl, by decide, by decide⟩ (fun w mg fa h K KX G hmg E D E2 D2 => all_mk2 KX G hmg E D E2 D2)
    (fun _ _ a ns hl _ hS => ⟨a, ns, rfl, hS, hl, fun _ => rfl⟩) fun _ _ _ _ z => z
end KLaw
open PySem PySem.W PyProof.Rows
set_option maxRecDepth 100000 in
set_option maxHeartbeats 0 in
theorem PySem.Challenge.cw_ken_k04_no_text_holds : PySem.Challenge.rw_ken_k04_no_text.Holds := by
  refine PySem.W.holds_law (by decide +kernel) fun said => PySem.W.holds_open (q := KLaw.q) (loose := KLaw.loose) (XP := XL KLaw.q []) (d := KLaw.dLaw) (kwd := []) (YP := (Hd.hook3 PySem.Challenge.pw_ken_k04_no_text KLaw.ask KLaw.cask KLaw.mask).says)
    KLaw.lft (Hd.hook3 PySem.Challenge.pw_ken_k04_no_text KLaw.ask KLaw.cask KLaw.mask).of (Hd.hook3 PySem.Challenge.pw_ken_k04_no_text KLaw.ask KLaw.cask KLaw.mask).keeps
    (fun s e => xl_of s (Bool.and_eq_true_iff.mp e).1) XL.keeps (by kernel_rfl) (by kernel_rfl) rfl (fun s e => recFacts_of (Bool.and_eq_true_iff.mp e).2)
    rfl said (by decide +kernel) ⟨rfl, rfl, rfl, rfl, rfl, by decide +kernel⟩ ?hw ?hc
  (case hw => w_witness2)
  exact KLaw.wlk
