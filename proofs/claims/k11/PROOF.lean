import PyProof.Rows.All
import Wide.All
import OpenK.AllK
import Wide.FinOn
import Lean
import PyProof.EqAt
import PyProof.EqKinds
import PyProof.TupleCall
import PyProof.NeData
import PyProof.P3In
import PyProof.ZipIter
import PyProof.Rows.ZipGen
import KE.KRevIter
import PyProof.CollectIter
import PyProof.ListRange
import PyProof.EnumMake
import PyProof.EnumFor
import PyProof.EnumStmt
import PyProof.Rows.SortStr
import KE.KDictList
import KE.KSortTup
import KE.KSortAsk
import PySem.Challenge.RW_ken_k11_good_worlds
import PyProof.SumAny
import PyProof.WalksMore
import KE.KTupSum
import PyProof.FactsAll.set
import PyProof.Rows.SetFrom
import PyProof.FactsAll.tuple_2
import PyProof.Rows.Range3
import PyProof.Rows.SeqMore2
import PyProof.InstStoreFacts
set_option Elab.async false
set_option linter.all false
set_option maxRecDepth 100000
namespace L2
open PySem PySem.Spec PyProof.Rows
noncomputable abbrev Key := Sum Int Str
noncomputable def keyIs : Key → Value → Bool
  | .inl k, v => Value.isInt k v
  | .inr x, v => Value.isStrOf x v
noncomputable def keyH (w : World) : Key → Int
  | .inl k => hashInt k
  | .inr x => hashStr w x
theorem keyIs_shape : ∀ {k : Key} {v : Value}, keyIs k v = true → (∃ i t, k = Sum.inl i ∧ v = Value.int i t) ∨ (∃ x t, k = Sum.inr x ∧ v = Value.str x t)
  | .inl i, v, h => by
    obtain ⟨t, e⟩ := Value.isInt_shape (k := i) (v := v) h
    exact .inl ⟨i, t, rfl, e⟩
  | .inr x, v, h => by
    obtain ⟨t, e⟩ := Value.isStrOf_shape (x := x) (v := v) h
    exact .inr ⟨x, t, rfl, e⟩
theorem key_ll (a b : Int) : decide ((Sum.inl a : Key) = Sum.inl b) = (a == b) := by
  by_cases e : a = b
  · subst e; simp
  · have h : ¬ (Sum.inl a : Key) = Sum.inl b := fun q => e (Sum.inl.inj q)
    rw [decide_eq_false h]
    exact (beq_eq_false_iff_ne.mpr e).symm
theorem key_rr (a b : Str) : decide ((Sum.inr a : Key) = Sum.inr b) = decide (a = b) := by
  by_cases e : a = b
  · subst e; simp
  · have h : ¬ (Sum.inr a : Key) = Sum.inr b := fun q => e (Sum.inr.inj q)
    rw [decide_eq_false h, decide_eq_false e]
theorem key_lr (a : Int) (b : Str) : decide ((Sum.inl a : Key) = Sum.inr b) = false := decide_eq_false (fun q => nomatch q)
theorem key_rl (a : Str) (b : Int) : decide ((Sum.inr a : Key) = Sum.inl b) = false := decide_eq_false (fun q => nomatch q)
noncomputable def mixKind (prog : Program) (w : World) : PySem.KeyKind prog w Key where
  is := keyIs
  hash := keyH w
  inj := fun v a b ha hb => by
    rcases keyIs_shape ha with ⟨i, t, rfl, rfl⟩ | ⟨x, t, rfl, rfl⟩
    · rcases keyIs_shape hb with ⟨j, u, rfl, e⟩ | ⟨y, u, rfl, e⟩
      · injection e with e1 _; rw [e1]
      · exact nomatch e
    · rcases keyIs_shape hb with ⟨j, u, rfl, e⟩ | ⟨y, u, rfl, e⟩
      · exact nomatch e
      · injection e with e1 _; rw [e1]
  byValue := fun k v h => by
    rcases keyIs_shape h with ⟨i, t, rfl, rfl⟩ | ⟨x, t, rfl, rfl⟩ <;> rfl
  pyHash := fun hv h => by
    rcases keyIs_shape hv with ⟨i, t, rfl, rfl⟩ | ⟨x, t, rfl, rfl⟩
    · exact wpAny_pyHash_int h
    · exact wpAny_pyHash_str h
  eqBool := fun hu hv h => by
    rcases keyIs_shape hu with ⟨i, t, rfl, rfl⟩ | ⟨x, t, rfl, rfl⟩
    · rcases keyIs_shape hv with ⟨j, u, rfl, rfl⟩ | ⟨y, u, rfl, rfl⟩
      · rw [key_ll] at h; exact wpAny_eqBool_int h
      · rw [key_lr] at h; exact SeqAt.EqAt.int_str i t y u _ _ _ _ h
    · rcases keyIs_shape hv with ⟨j, u, rfl, rfl⟩ | ⟨y, u, rfl, rfl⟩
      · rw [key_rl] at h; exact SeqAt.EqAt.str_int x t j u _ _ _ _ h
      · rw [key_rr] at h; exact wpAny_eqBool_str h
  «strs» := fun k x t v h => by
    rcases keyIs_shape h with ⟨i, u, rfl, e⟩ | ⟨y, u, rfl, e⟩
    · exact nomatch e
    · injection e with e1 _
      subst e1
      cases v <;> rfl
end L2
namespace L2
open PySem PySem.Spec PyProof.Rows
inductive V where
  | non | bl (b : Bool) | int (i : Int) | str (x : Str) | byt (b : Array UInt8) | flt (b : UInt64) | ref (a : Addr) | ty (n : String)
  deriving DecidableEq
noncomputable def RelV : V → Value → Prop
  | .non, u => u = Value.none
  | .bl b, u => u = Value.bool b
  | .int i, u => ∃ t, u = Value.int i t
  | .str x, u => ∃ t, u = Value.str x t
  | .byt b, u => ∃ t, u = Value.bytes b t
  | .flt b, u => ∃ t, u = Value.float b t
  | .ref a, u => u = Value.ref a
  | .ty n, u => u = Value.type n
noncomputable abbrev Vals : List V → List Value → Prop := Paired RelV
theorem Vals.length {xs : List V} {us : List Value} (r : Vals xs us) : xs.length = us.length := Paired.length r
theorem Vals.get : ∀ {xs : List V} {us : List Value} {i : Nat} {x : V}, Vals xs us → xs[i]? = some x → ∃ u, us[i]? = some u ∧ RelV x u
  | _, _, _, _, .nil, e => by simp at e
  | _, _, 0, _, .cons r _, e => by simp at e; subst e; exact ⟨_, rfl, r⟩
  | _, _, i + 1, x, .cons _ t, e => by
    obtain ⟨u, h1, h2⟩ := Vals.get (i := i) (x := x) t (by simpa using e)
    exact ⟨u, by simpa using h1, h2⟩
theorem Vals.append : ∀ {xs ys : List V} {us ws : List Value}, Vals xs us → Vals ys ws → Vals (xs ++ ys) (us ++ ws)
  | _, _, _, _, .nil, s => s
  | _, _, _, _, .cons r t, s => .cons r (Vals.append t s)
theorem Vals.take : ∀ {xs : List V} {us : List Value} (n : Nat), Vals xs us → Vals (xs.take n) (us.take n)
  | _, _, 0, _ => .nil
  | _, _, _ + 1, .nil => .nil
  | _, _, n + 1, .cons r t => .cons r (Vals.take n t)
theorem Vals.drop : ∀ {xs : List V} {us : List Value} (n : Nat), Vals xs us → Vals (xs.drop n) (us.drop n)
  | _, _, 0, r => r
  | _, _, _ + 1, .nil => .nil
  | _, _, n + 1, .cons _ t => Vals.drop n t
noncomputable def RelO : Option V → Option Value → Prop
  | some v, some u => RelV v u
  | none, none => True
  | _, _ => False
noncomputable def KV {κ : Type} : List (κ × V) → List (κ × Value) → Prop := Paired fun (p : κ × V) (q : κ × Value) => p.1 = q.1 ∧ RelV p.2 q.2
noncomputable def kV : Key → V
  | .inl i => .int i
  | .inr x => .str x
inductive HO where
  /-- a list -/
  | lst (xs : List V)
  /-- a tuple (never changes) -/
  | tup (xs : List V)
  /-- a dict whose keys are ints and texts; one whose keys are tuples of ints and texts (the empty one is both) -/
  | dK (kvs : List (Key × V)) | dT (kvs : List (List Key × V))
  /-- a set of ints: its members, its size -/
  | set (S : Int → Bool) (n : Nat)
  /-- an instance of the class at C, its dict at dx, its attributes -/
  | ins (C dx : Addr) (fs : List (Str × V))
  /-- the dict of the instance at x -/
  | own (x : Addr)
  /-- the dict of an exception -/
  | xd (fs : List (Str × V))
  /-- a bound method, f of x -/
  | met (f x : Addr)
  /-- a range object lo, lo + 1, .. below hi -/
  | rng (lo hi : Int)
  /-- a thing that is known to the object (the script; a dict while a loop walks it): read, never written while it is so -/
  | frz (o : Obj) (u : HO)
  /-- a code object's table -/
  | tbl (ps : Array Value)
  /-- any other thing, by what is true of its one object (a def of one's own: SetO a S n := HO.ext fun h => ..) -/
  | ext (φ : Heap → Prop)
noncomputable abbrev Hp := Addr → Option HO
noncomputable def upd (H : Hp) (a : Addr) (o : HO) : Hp := fun b => if b = a then some o else H b
theorem upd_same {H : Hp} {a : Addr} {o : HO} : upd H a o a = some o := by unfold upd; rw [if_pos rfl]
theorem upd_ne {H : Hp} {a b : Addr} {o : HO} (h : b ≠ a) : upd H a o b = H b := by unfold upd; rw [if_neg h]
theorem upd_upd {H : Hp} {a : Addr} {o u : HO} : upd (upd H a o) a u = upd H a u := by
  funext b; unfold upd; split <;> rfl
theorem ne_of {H : Hp} {a b : Addr} {o u : HO} (h : H a = some o) (h' : H b = some u) (d : o ≠ u) : a ≠ b := by
  intro e; subst e; rw [h] at h'; exact d (Option.some.inj h')
theorem ne_of_none {H : Hp} {a b : Addr} {o : HO} (h : H a = some o) (h' : H b = none) : a ≠ b := by
  intro e; subst e; rw [h] at h'; cases h'
section
variable (P : Program) (w : World)
noncomputable def ObjOk (H : Hp) (h : Heap) (a : Addr) : HO → Prop
  | .lst xs => xs.length ≤ sizeLine ∧ ∃ (its : List Value) (n : Nat), Vals xs its ∧ h.get? a = some { cls := .type "list", data := .seq its.toArray n }
  | .tup xs => xs.length ≤ sizeLine ∧ ∃ its : List Value, Vals xs its ∧ IsTup h a its.toArray
  | .dK kvs => kvs.length ≤ sizeLine ∧ (a == sysModules) = false ∧ ∃ vs, KV kvs vs ∧ h.DictOf (mixKind P w) a vs
  | .dT kvs => kvs.length ≤ sizeLine ∧ (a == sysModules) = false ∧ ∃ xs : List (List Key × Addr × Value),
      Paired (fun (p : List Key × V) (q : List Key × Addr × Value) => p.1 = q.1 ∧ H q.2.1 = some (.tup (p.1.map kV)) ∧ RelV p.2 q.2.2) kvs xs ∧
      ∃ o es ep, h.get? a = some o ∧ o.ExactDict ∧ o.data = .dict es ep ∧ es.toList = xs.map (entryOfKey (tupleKind (mixKind P w))) ∧ (xs.map (·.1)).Nodup
  | .set S n => h.SetOf (intKind P w) a S n
  | .ins C dx fs => H dx = some (.own a) ∧ fs.length ≤ 1000 ∧ dx ≠ a ∧ h.get? a = some (PySem.W.instObj C dx) ∧
      ∃ mA, h.Ns1 dx mA ∧ (∀ f, RelO (fs.lookup f) (mA f)) ∧ PySem.Within mA (fs.map (·.1))
  | .own _ => ∃ o, h.get? a = some o
  | .xd fs => ∃ mA, h.Ns1 a mA ∧ ∀ f, RelO (fs.lookup f) (mA f)
  | .rng lo hi => ∃ t u v, h.get? a = some { cls := .type "range", data := .fields #[.int lo t, .int hi u, .int 1 v] }
  | .frz o u => h.get? a = some o ∧ ObjOk H h a u
  | .tbl ps => h.get? a = some { cls := .none, data := .fields ps }
  | .met f x => h.get? a = some (PySem.W.methodObj (.ref f) (.ref x))
  | .ext φ => φ h ∧ (∃ o, h.get? a = some o) ∧ ∀ h1 h2 : Heap, φ h1 → (∀ o, h1.get? a = some o → h2.get? a = some o) → φ h2
noncomputable def HOk (H : Hp) (h : Heap) : Prop := ∀ a o, H a = some o → ObjOk P w H h a o
end
section
variable {P : Program} {w : World} {H H' : Hp} {h h' : Heap} {a : Addr} {o : HO}
theorem ObjOk.lt (x : ObjOk P w H h a o) : a < h.objs.size := by
  cases o with
  | lst xs => obtain ⟨_, _, _, _, e⟩ := x; exact Heap.lt_size e
  | tup xs => obtain ⟨_, _, _, p⟩ := x; exact p.lt
  | dK kvs => obtain ⟨_, _, _, _, o, _, _, e, _⟩ := x; exact Heap.lt_size e
  | dT kvs => obtain ⟨_, _, _, _, o, _, _, e, _⟩ := x; exact Heap.lt_size e
  | set S n => obtain ⟨o, _, _, _, e, _⟩ := x; exact Heap.lt_size e
  | ins C dx fs => obtain ⟨_, _, _, e, _⟩ := x; exact Heap.lt_size e
  | own y => obtain ⟨_, e⟩ := x; exact Heap.lt_size e
  | xd fs => obtain ⟨_, ⟨_, _, _, e, _⟩, _⟩ := x; exact Heap.lt_size e
  | rng lo hi => obtain ⟨_, _, _, e⟩ := x; exact Heap.lt_size e
  | frz ob u => obtain ⟨e, _⟩ := x; exact Heap.lt_size e
  | tbl ps => exact Heap.lt_size (show h.get? a = some _ from x)
  | met f y => exact Heap.lt_size (show h.get? a = some _ from x)
  | ext φ => obtain ⟨_, ⟨_, e⟩, _⟩ := x; exact Heap.lt_size e
theorem Paired.mapP {α β : Type} {F G : α → β → Prop} : ∀ {l₁ : List α} {l₂ : List β}, Paired F l₁ l₂ → (∀ a b, F a b → G a b) → Paired G l₁ l₂
  | _, _, .nil, _ => .nil
  | _, _, .cons r t, f => .cons (f _ _ r) (Paired.mapP t f)
theorem ObjOk.stay (x : ObjOk P w H h a o) (k : ∀ b u, (b = a ∨ H b = some (.own a)) → h.get? b = some u → h'.get? b = some u)
    (ho : ∀ b, H b = some (.own a) → H' b = some (.own a)) (ht : ∀ b xs, H b = some (.tup xs) → H' b = some (.tup xs)) : ObjOk P w H' h' a o := by
  induction o with
  | lst xs => obtain ⟨z, its, n, r, e⟩ := x; exact ⟨z, its, n, r, k _ _ (.inl rfl) e⟩
  | tup xs => obtain ⟨z, its, r, ob, e, c⟩ := x; exact ⟨z, its, r, ob, k _ _ (.inl rfl) e, c⟩
  | dK kvs => obtain ⟨z, y, vs, r, ob, es, ep, e, c⟩ := x; exact ⟨z, y, vs, r, ob, es, ep, k _ _ (.inl rfl) e, c⟩
  | dT kvs =>
    obtain ⟨z, y, xs, r, ob, es, ep, e, c⟩ := x
    exact ⟨z, y, xs, Paired.mapP r fun p q z => ⟨z.1, ht _ _ z.2.1, z.2.2⟩, ob, es, ep, k _ _ (.inl rfl) e, c⟩
  | set S n => obtain ⟨ob, es, ep, t, e, c⟩ := x; exact ⟨ob, es, ep, t, k _ _ (.inl rfl) e, c⟩
  | ins C dx fs =>
    obtain ⟨d, z, ne, e, mA, ⟨od, es, ep, e2, c⟩, r⟩ := x
    exact ⟨ho _ d, z, ne, k _ _ (.inl rfl) e, mA, ⟨od, es, ep, k _ _ (.inr d) e2, c⟩, r⟩
  | own y => obtain ⟨ob, e⟩ := x; exact ⟨ob, k _ _ (.inl rfl) e⟩
  | xd fs => obtain ⟨mA, ⟨od, es, ep, e, c⟩, r⟩ := x; exact ⟨mA, ⟨od, es, ep, k _ _ (.inl rfl) e, c⟩, r⟩
  | rng lo hi => obtain ⟨t, u, v, e⟩ := x; exact ⟨t, u, v, k _ _ (.inl rfl) e⟩
  | frz ob u ih => obtain ⟨e, q⟩ := x; exact ⟨k _ _ (.inl rfl) e, ih q⟩
  | tbl ps =>
    have e : h.get? a = some { cls := .none, data := .fields ps } := x
    show h'.get? a = some { cls := .none, data := .fields ps }
    exact k a _ (.inl rfl) e
  | met f y =>
    have e : h.get? a = some (PySem.W.methodObj (.ref f) (.ref y)) := x
    show h'.get? a = some (PySem.W.methodObj (.ref f) (.ref y))
    exact k a _ (.inl rfl) e
  | ext φ => obtain ⟨p, ⟨o, e⟩, st⟩ := x; exact ⟨st _ _ p fun o q => k _ _ (.inl rfl) q, ⟨o, k _ _ (.inl rfl) e⟩, st⟩
theorem HOk.lt (x : HOk P w H h) (e : H a = some o) : a < h.objs.size := (x a o e).lt
theorem HOk.fresh (x : HOk P w H h) (e : h.objs.size ≤ a) : H a = none := by
  cases q : H a with
  | none => rfl
  | some u => exact absurd (Nat.lt_of_lt_of_le (x.lt q) e) (Nat.lt_irrefl _)
theorem HOk.kept (x : HOk P w H h) (k : ∀ b u, h.get? b = some u → h'.get? b = some u) : HOk P w H h' := fun a o e =>
  (x a o e).stay (fun b u _ q => k b u q) (fun _ q => q) fun _ _ q => q
theorem HOk.laid (x : HOk P w H h) (k : ∀ b u, h.get? b = some u → h'.get? b = some u) (hp : h.objs.size ≤ a) (new : ObjOk P w (upd H a o) h' a o) : HOk P w (upd H a o) h' := fun b u e => by
  have hn := x.fresh hp
  by_cases hb : b = a
  · subst hb; rw [upd_same] at e; cases e; exact new
  · rw [upd_ne hb] at e
    exact (x b u e).stay (fun c v _ q => k c v q) (fun c q => by rw [upd_ne (ne_of_none q hn)]; exact q) fun c xs q => by rw [upd_ne (ne_of_none q hn)]; exact q
end
noncomputable def Rd (H : Hp) (a : Addr) (u : HO) : Prop := H a = some u ∨ ∃ o, H a = some (.frz o u)
theorem Rd.ok {P : Program} {w : World} {H : Hp} {h : Heap} {a : Addr} {u : HO} (r : Rd H a u) (x : HOk P w H h) : ObjOk P w H h a u := by
  rcases r with r | ⟨o, r⟩
  · exact x a u r
  · obtain ⟨_, q⟩ := x a _ r
    exact q
noncomputable def Mut : Option HO → Prop
  | some (.lst _) => True
  | some (.dK _) => True
  | some (.dT _) => True
  | some (.set _ _) => True
  | some (.ins _ _ _) => True
  | some (.ext _) => True
  | _ => False
section
variable {P : Program} {w : World} {H : Hp} {h h' : Heap} {x e : Addr} {o' : HO}
theorem HOk.write (ok : HOk P w H h) (mu : Mut (H x)) (he : e = x ∨ H e = some (.own x)) (k : ∀ b u, b ≠ e → h.get? b = some u → h'.get? b = some u) (heo : ∃ u, h'.get? e = some u)
    (new : ObjOk P w (upd H x o') h' x o') : HOk P w (upd H x o') h' := fun b u q => by
  have nown : ∀ c y, H c = some (.own y) → c ≠ x := fun c y r z => by subst z; rw [r] at mu; exact mu
  have ntup : ∀ c xs, H c = some (.tup xs) → c ≠ x := fun c xs r z => by subst z; rw [r] at mu; exact mu
  by_cases hb : b = x
  · subst hb; rw [upd_same] at q; cases q; exact new
  · rw [upd_ne hb] at q
    by_cases hbe : b = e
    · have q' : H b = some (.own x) := by
        rcases he with z | z
        · exact absurd (hbe.trans z) hb
        · rw [hbe]; exact z
      rw [q] at q'; cases q'
      obtain ⟨v, hv⟩ := heo
      exact ⟨v, by rw [hbe]; exact hv⟩
    · refine (ok b u q).stay (fun c v hc r => k c v ?_ r) (fun c r => by rw [upd_ne (nown c b r)]; exact r) fun c xs r => by rw [upd_ne (ntup c xs r)]; exact r
      rcases hc with rfl | hc
      · exact hbe
      · rintro rfl
        rcases he with z | z
        · exact nown c b hc z
        · rw [hc] at z; cases z; exact hb rfl
end
structure Un (fs ex : List Addr) (H H' : Hp) (h h' : Heap) : Prop where
  keep : ∀ b o, h.get? b = some o → H b = none → b ∉ fs → b ∉ ex → h'.get? b = some o
  slot : ∀ b o, h.get? b = some o → H b = none → b ∈ fs → b ∉ ex → ∃ sl, h'.get? b = some { o with slots := sl }
  free : ∀ b o, h.get? b = some o → H b = none → b ∉ ex → H' b = none
  there : ∀ b o, h.get? b = some o → b ∉ ex → ∃ o', h'.get? b = some o'
  tups : ∀ b xs, H b = some (.tup xs) → H' b = some (.tup xs)
  frzs : ∀ b o u, H b = some (.frz o u) → H' b = some (.frz o u)
  tbls : ∀ b ps, H b = some (.tbl ps) → ∃ more, H' b = some (.tbl (ps ++ more))
section
variable {fs fs' ex ex' : List Addr} {H H1 H2 : Hp} {h h1 h2 h' : Heap} {a x e : Addr} {o : HO}
theorem Un.any (u : Un fs ex H H1 h h1) {b : Addr} {ob : Obj} (q : h.get? b = some ob) (n : H b = none) (hx : b ∉ ex) : ∃ sl, h1.get? b = some { ob with slots := sl } := by
  by_cases hb : b ∈ fs
  · exact u.slot b ob q n hb hx
  · exact ⟨ob.slots, u.keep b ob q n hb hx⟩
theorem Un.kept (k : ∀ b u, h.get? b = some u → h'.get? b = some u) : Un fs ex H H h h' :=
  ⟨fun b ob q _ _ _ => k b ob q, fun b ob q _ _ _ => ⟨ob.slots, k b ob q⟩, fun _ _ _ n _ => n, fun b ob q _ => ⟨ob, k b ob q⟩, fun _ _ q => q, fun _ _ _ q => q, fun _ ps q => ⟨#[], by rw [q]; simp⟩⟩
theorem Un.refl : Un fs ex H H h h := Un.kept fun _ _ q => q
theorem Un.laid (k : ∀ b u, h.get? b = some u → h'.get? b = some u) (hp : h.objs.size ≤ a) (hn : H a = none) : Un fs ex H (upd H a o) h h' where
  keep := fun b u q _ _ _ => k b u q
  slot := fun b u q _ _ _ => ⟨u.slots, k b u q⟩
  free := fun b u q n _ => by rw [upd_ne (Nat.ne_of_lt (Nat.lt_of_lt_of_le (Heap.lt_size q) hp))]; exact n
  there := fun b u q _ => ⟨u, k b u q⟩
  tups := fun b xs q => by rw [upd_ne (ne_of_none q hn)]; exact q
  frzs := fun b u xs q => by rw [upd_ne (ne_of_none q hn)]; exact q
  tbls := fun b ps q => ⟨#[], by rw [upd_ne (ne_of_none q hn), q]; simp⟩
theorem Un.write (mu : Mut (H x)) (he : e = x ∨ H e = some (.own x)) (k : ∀ b u, b ≠ e → h.get? b = some u → h'.get? b = some u) (heo : ∃ u, h'.get? e = some u) : Un fs ex H (upd H x o) h h' := by
  have hx : ∀ b, H b = none → b ≠ x := fun b n z => by subst z; rw [n] at mu; exact mu
  have hb : ∀ b, H b = none → b ≠ e := fun b n z => by
    subst z
    rcases he with r | r
    · exact hx b n r
    · rw [n] at r; cases r
  have hm : ∀ b u, H b = some u → ¬ Mut (some u) → b ≠ x := fun b u q nm z => by subst z; rw [q] at mu; exact nm mu
  refine ⟨fun b u q n _ _ => k b u (hb b n) q, fun b u q n _ _ => ⟨u.slots, k b u (hb b n) q⟩, fun b u q n _ => by rw [upd_ne (hx b n)]; exact n, fun b u q _ => ?_,
    fun b xs q => by rw [upd_ne (hm b _ q fun z => z)]; exact q, fun b u xs q => by rw [upd_ne (hm b _ q fun z => z)]; exact q, fun b ps q => ⟨#[], by rw [upd_ne (hm b _ q fun z => z), q]; simp⟩⟩
  by_cases hbe : b = e
  · subst hbe; exact heo
  · exact ⟨u, k b u hbe q⟩
end
noncomputable def trk (h : Heap) (H : Hp) : List Addr := (List.range h.objs.size).filter fun a => (H a).isSome
noncomputable def hidT (h : Heap) (H : Hp) : Heap := PySem.W.hideAll h (trk h H)
theorem hidT_size (h : Heap) (H : Hp) : (hidT h H).objs.size = h.objs.size := PySem.W.hideAll_size _ _
theorem hidT_get {h : Heap} {H : Hp} {b : Addr} {o : Obj} (e : h.get? b = some o) (n : H b = none) : (hidT h H).get? b = some o :=
  PySem.W.hideAll_get _ e fun hm => by
    have q : (H b).isSome = true := (List.mem_filter.mp hm).2
    rw [n] at q; simp at q
theorem of_hidT {h : Heap} {H : Hp} {b : Addr} {o : Obj} (e : (hidT h H).get? b = some o) : h.get? b = some o ∧ H b = none := by
  have e' : h.get? b = some o := PySem.W.of_hideAll (trk h H) e
  refine ⟨e', ?_⟩
  cases q : H b with
  | none => rfl
  | some x =>
    have hm : b ∈ trk h H := List.mem_filter.mpr ⟨List.mem_range.mpr (Heap.lt_size e'), by simp [q]⟩
    have z : (hidT h H).get? b = none := PySem.W.hideAll_none (trk h H) hm
    rw [z] at e; cases e
end L2
namespace L2
open PySem PySem.Spec PyProof.Rows
structure Mod (K : PySem.W.Frag) (mg : Str → Option Value) (base : Heap) : Prop where
  kin : K.In base
  glob : base.Ns mainGlobals mg
  blt : ∃ mb, base.Ns builtinsNs mb ∧ ∀ x : Str, x ≠ "__name__" → mb x = bootBuiltins x
  nolimit : base.NoLimit
structure Cx where
  prog : Program
  w : World
  K : PySem.W.Frag
  mg : Str → Option Value
  base : Heap
  A : Around
  N : List Str
  s₀ : Shared
  H₀ : Hp
  env : Env
  outer : List Env
  stack : List Env
  ex : List Addr
  fn : Str → Bool
  calm : Bool
  pn : List (Addr × Obj)
  xe : Value → Shared → Prop
noncomputable def frs (l : List Env) : List Addr := l.filterMap (·.frame)
noncomputable abbrev Cx.fs (X : Cx) : List Addr := frs X.outer
noncomputable def Vis (sc : Scope) (x : Str) : Prop := sc.names.lookup x = some .local ∨ sc.names.lookup x = some .cell ∨ sc.names.lookup x = some .free
noncomputable def Loc (sc : Scope) (x : Str) : Prop := sc.names.lookup x = some .local ∨ sc.names.lookup x = some .cell
noncomputable def Look (env : Env) (h : Heap) (m : Str → Option Value) (x : Str) (u : Value) : Prop :=
  (env.kindOf x = some .local ∧ m x = some u) ∨ ((env.kindOf x = some .cell ∨ env.kindOf x = some .free) ∧ ∃ c, env.cells.lookup x = some c ∧ h.IsCell c (some u))
structure Cx.Ok (X : Cx) : Prop where
  mod : Mod X.K X.mg X.base
  kind : X.env.scope.kind = .function
  glob : X.env.globals = mainGlobals
  blt : X.env.builtins = builtinsNs
  above : X.s₀.heap.objs.size ≤ X.env.locals
  inj : ∀ x y c, X.env.cells.lookup x = some c → X.env.cells.lookup y = some c → x = y
  has : ∀ x, (X.env.kindOf x = some .cell ∨ X.env.kindOf x = some .free) → ∃ c, X.env.cells.lookup x = some c
  cab : ∀ x c, X.fn x = true → X.env.cells.lookup x = some c → X.s₀.heap.objs.size ≤ c
  hd : X.calm = true → X.A.handled = none
  frames : X.A.frames = some X.stack
  stk : X.stack = X.outer ∨ (X.stack = X.env :: X.outer ∧ X.env.frame = some X.env.locals)
  exf : ∀ b ∈ X.ex, b ≠ X.env.locals ∧ ∀ x c, X.env.cells.lookup x = some c → c ≠ b
  bs : ∀ b o, X.base.get? b = some o → X.s₀.heap.get? b = some o ∧ X.H₀ b = none
  bsz : X.base.objs.size ≤ X.s₀.heap.objs.size
  noex : ∀ b o, X.base.get? b = some o → b ∉ X.ex
  exfs : ∀ b ∈ X.ex, b ∉ X.fs
  funs : X.s₀.heap.FunFrames X.base X.outer
  frf : ∀ b ∈ X.fs, X.H₀ b = none
structure Inv (X : Cx) (pins : List (Addr × Obj)) (σ : List (Option V)) (H : Hp) (s : Shared) : Prop where
  ok : X.Ok
  os : s.os = X.s₀.os
  bare : AllBare s.gens
  base : Un X.fs X.ex X.H₀ H X.s₀.heap s.heap
  loc : ∃ m, s.heap.Ns X.env.locals m ∧ ∀ (i : Nat) (x : Str) (v : V), X.N[i]? = some x → σ[i]? = some (some v) → Vis X.env.scope x → ∃ u, RelV v u ∧ Look X.env s.heap m x u
  cell : ∀ x c, X.env.cells.lookup x = some c → ∃ v, s.heap.IsCell c v
  free : H X.env.locals = none
  freeC : ∀ x c, X.env.cells.lookup x = some c → H c = none
  pin : ∀ p ∈ X.pn ++ pins, s.heap.get? p.1 = some p.2 ∧ H p.1 = none ∧ p.1 ≠ X.env.locals ∧ p.1 ∉ X.fs ∧ ∀ v, p.2.data ≠ .cell v
  hok : HOk X.prog X.w H s.heap
  len : σ.length = X.N.length
section
variable {X : Cx} {pins : List (Addr × Obj)} {σ : List (Option V)} {H H' : Hp} {s : Shared} {h' : Heap}
theorem Cx.Ok.nofr (ok : X.Ok) {b : Addr} {o : Obj} (e : X.base.get? b = some o) : b ∉ X.fs := fun hb => by
  have := (ok.funs.mem hb).1
  rw [e] at this; cases this
theorem Inv.bs (I : Inv X pins σ H s) : ∀ b o, X.base.get? b = some o → s.heap.get? b = some o ∧ H b = none := fun b o e =>
  ⟨I.base.keep b o (I.ok.bs b o e).1 (I.ok.bs b o e).2 (I.ok.nofr e) (I.ok.noex b o e), I.base.free b o (I.ok.bs b o e).1 (I.ok.bs b o e).2 (I.ok.noex b o e)⟩
theorem Inv.bk (I : Inv X pins σ H s) : ∀ b o, X.base.get? b = some o → s.heap.get? b = some o := fun b o e => (I.bs b o e).1
theorem Inv.mod (I : Inv X pins σ H s) : Mod X.K X.mg X.base := I.ok.mod
theorem Inv.kIn (I : Inv X pins σ H s) : X.K.In s.heap := I.ok.mod.kin.keeps I.bk
theorem Inv.lt (I : Inv X pins σ H s) : X.env.locals < s.heap.objs.size := let ⟨_, hn, _⟩ := I.loc; hn.lt
theorem Inv.sz (I : Inv X pins σ H s) : X.s₀.heap.objs.size ≤ s.heap.objs.size := Nat.le_trans I.ok.above (Nat.le_of_lt I.lt)
theorem Inv.nofs (I : Inv X pins σ H s) {a : Addr} (h : s.heap.objs.size ≤ a) : a ∉ X.fs := fun hb => by
  obtain ⟨_, o, ho, _⟩ := I.ok.funs.mem hb
  exact absurd (Nat.lt_of_lt_of_le (Heap.lt_size ho) (Nat.le_trans I.sz h)) (Nat.lt_irrefl _)
theorem Inv.cne (I : Inv X pins σ H s) : ∀ x c, X.env.cells.lookup x = some c → c ≠ X.env.locals := fun x c e z => by
  obtain ⟨v, o, ho, hd⟩ := I.cell x c e
  obtain ⟨m, ⟨o', es, ep, ho', hd', _⟩, _⟩ := I.loc
  rw [z, ho'] at ho; cases ho; rw [hd'] at hd; cases hd
theorem Inv.funs (I : Inv X pins σ H s) : s.heap.FunFrames X.base X.outer := by
  have all : ∀ (l : List Env), (∀ b ∈ frs l, b ∈ X.fs) → X.s₀.heap.FunFrames X.base l → s.heap.FunFrames X.base l := by
    intro l
    induction l with
    | nil => intro _ _; trivial
    | cons env r ih =>
      intro hs hl
      obtain ⟨hk, ⟨L, o, hf, hn, ho, hd⟩, hr⟩ := hl
      have hL : L ∈ X.fs := hs L (by unfold frs; rw [List.filterMap_cons, hf]; exact List.mem_cons_self)
      obtain ⟨sl, e⟩ := I.base.slot L o ho (I.ok.frf L hL) hL fun z => I.ok.exfs L z hL
      exact ⟨hk, ⟨L, _, hf, hn, e, hd⟩, ih (fun b hb => hs b (by unfold frs; rw [List.filterMap_cons, hf]; exact List.mem_cons_of_mem _ hb)) hr⟩
  exact all X.outer (fun _ hb => hb) I.ok.funs
theorem Inv.stack (I : Inv X pins σ H s) : s.heap.FunFrames X.base X.stack := by
  rcases I.ok.stk with e | ⟨e, hf⟩
  · rw [e]; exact I.funs
  · rw [e]
    obtain ⟨m, hn, _⟩ := I.loc
    refine .cons (by rw [I.ok.kind]; decide) hf hn ?_ I.funs
    exact Heap.get?_none_of_le (Nat.le_trans I.ok.bsz I.ok.above)
theorem Inv.stkSub (I : Inv X pins σ H s) : ∀ b ∈ frs X.stack, b ∈ X.env.locals :: X.fs := fun b hb => by
  rcases I.ok.stk with e | ⟨e, hf⟩
  · rw [e] at hb; exact List.mem_cons_of_mem _ hb
  · rw [e] at hb
    unfold frs at hb
    rw [List.filterMap_cons, hf] at hb
    exact hb
theorem Inv.stkFree (I : Inv X pins σ H s) : ∀ b ∈ frs X.stack, H b = none := fun b hb => by
  rcases List.mem_cons.mp (I.stkSub b hb) with e | hb
  · rw [e]; exact I.free
  · obtain ⟨_, o, ho, _⟩ := I.ok.funs.mem hb
    exact I.base.free b o ho (I.ok.frf b hb) fun z => I.ok.exfs b z hb
theorem Inv.step {g' : Array GenState} {t' : Nat} {d' : Drawn} {ch : List Addr} (I : Inv X pins σ H s)
    (hch : ∀ b ∈ ch, (b ∈ X.ex ∨ X.s₀.heap.objs.size ≤ b) ∧ b ≠ X.env.locals ∧ (∀ x c, X.env.cells.lookup x = some c → c ≠ b) ∧ ∀ p ∈ X.pn ++ pins, p.1 ≠ b)
    (keep : ∀ b o, b ≠ X.env.locals → b ∉ X.fs → b ∉ ch → s.heap.get? b = some o → H b = none → h'.get? b = some o)
    (slot : ∀ b o, b ≠ X.env.locals → b ∈ X.fs → b ∉ ch → s.heap.get? b = some o → H b = none → ∃ sl, h'.get? b = some { o with slots := sl }) (free : ∀ b o, b ∉ ch → s.heap.get? b = some o → H b = none → H' b = none)
    (there : ∀ b o, b ∉ ch → s.heap.get? b = some o → ∃ o', h'.get? b = some o')
    (tups : ∀ b xs, H b = some (.tup xs) → H' b = some (.tup xs)) (frzs : ∀ b o u, H b = some (.frz o u) → H' b = some (.frz o u)) (tbls : ∀ b ps, H b = some (.tbl ps) → ∃ more, H' b = some (.tbl (ps ++ more)))
    (ns : ∀ m, s.heap.Ns X.env.locals m → h'.Ns X.env.locals m) (hok : HOk X.prog X.w H' h') (hg : AllBare g') :
    Inv X pins σ H' { s with heap := h', gens := g', drawn := d', toks := t' } := by
  have neL : ∀ b o, X.s₀.heap.get? b = some o → b ≠ X.env.locals := fun b o e => Nat.ne_of_lt (Nat.lt_of_lt_of_le (Heap.lt_size e) I.ok.above)
  have neC : ∀ b o, X.s₀.heap.get? b = some o → b ∉ X.ex → b ∉ ch := fun b o e hx hb => by
    rcases (hch b hb).1 with z | z
    · exact hx z
    · exact absurd (Nat.lt_of_lt_of_le (Heap.lt_size e) z) (Nat.lt_irrefl _)
  have cellK : ∀ x c, X.env.cells.lookup x = some c → ∀ v, s.heap.IsCell c v → h'.IsCell c v := fun x c e v ⟨o, ho, hd⟩ => by
    have nch : c ∉ ch := fun z => (hch c z).2.2.1 x c e rfl
    by_cases hc : c ∈ X.fs
    · obtain ⟨sl, q⟩ := slot c o (I.cne x c e) hc nch ho (I.freeC x c e)
      exact ⟨_, q, hd⟩
    · exact ⟨o, keep c o (I.cne x c e) hc nch ho (I.freeC x c e), hd⟩
  refine ⟨I.ok, I.os, hg, ⟨fun b o e n hb hx => ?_, fun b o e n hb hx => ?_, fun b o e n hx => ?_, fun b o e hx => ?_, fun b xs e => tups b xs (I.base.tups b xs e), fun b o xs e => frzs b o xs (I.base.frzs b o xs e), fun b ps e => ?_⟩, ?_, fun x c e => ?_, ?_, fun x c e => ?_, fun p hp => ?_, hok, I.len⟩
  · exact keep b o (neL b o e) hb (neC b o e hx) (I.base.keep b o e n hb hx) (I.base.free b o e n hx)
  · obtain ⟨sl, e1⟩ := I.base.slot b o e n hb hx
    obtain ⟨sl', e2⟩ := slot b _ (neL b o e) hb (neC b o e hx) e1 (I.base.free b o e n hx)
    exact ⟨sl', e2⟩
  · obtain ⟨o', e1⟩ := I.base.there b o e hx
    exact free b o' (neC b o e hx) e1 (I.base.free b o e n hx)
  · obtain ⟨o', e1⟩ := I.base.there b o e hx
    exact there b o' (neC b o e hx) e1
  · obtain ⟨m1, e1⟩ := I.base.tbls b ps e
    obtain ⟨m2, e2⟩ := tbls b _ e1
    exact ⟨m1 ++ m2, by rw [e2, Array.append_assoc]⟩
  · obtain ⟨m, hn, hl⟩ := I.loc
    refine ⟨m, ns m hn, fun i x v e1 e2 e3 => ?_⟩
    obtain ⟨u, r, l⟩ := hl i x v e1 e2 e3
    refine ⟨u, r, ?_⟩
    rcases l with l | ⟨k, c, e, z⟩
    · exact .inl l
    · exact .inr ⟨k, c, e, cellK x c e _ z⟩
  · obtain ⟨v, z⟩ := I.cell x c e
    exact ⟨v, cellK x c e v z⟩
  · obtain ⟨m, ⟨o, _, _, ho, _⟩, _⟩ := I.loc
    exact free _ o (fun z => (hch _ z).2.1 rfl) ho I.free
  · obtain ⟨v, o, ho, hd⟩ := I.cell x c e
    exact free c o (fun z => (hch c z).2.2.1 x c e rfl) ho (I.freeC x c e)
  · obtain ⟨e, n, ne, nf, d⟩ := I.pin p hp
    have nch : p.1 ∉ ch := fun z => (hch p.1 z).2.2.2 p hp rfl
    exact ⟨keep p.1 p.2 ne nf nch e n, free p.1 p.2 nch e n, ne, nf, d⟩
theorem Inv.un {t' : Nat} (I : Inv X pins σ H s) (u : Un X.fs [] H H' s.heap h') (hok : HOk X.prog X.w H' h') : Inv X pins σ H' { s with heap := h', toks := t' } := by
  obtain ⟨m, ⟨o, es, ep, ho, r⟩, _⟩ := id I.loc
  obtain ⟨sl, hL⟩ := u.any ho I.free (by simp)
  exact I.step (g' := s.gens) (d' := s.drawn) (ch := []) (fun _ z => nomatch z) (fun b o _ hb _ e n => u.keep b o e n hb (by simp)) (fun b o _ hb _ e n => u.slot b o e n hb (by simp)) (fun b o _ e n => u.free b o e n (by simp)) (fun b o _ e => u.there b o e (by simp)) u.tups u.frzs u.tbls (fun m' hm => by
    obtain ⟨o', es', ep', ho', r'⟩ := hm
    rw [ho] at ho'; cases ho'
    exact ⟨_, es', ep', hL, r'⟩) hok I.bare
theorem Inv.call {g' : Array GenState} {t' : Nat} {d' : Drawn} {ch : List Addr} (I : Inv X pins σ H s) (u : Un (frs X.stack) ch H H' s.heap h') (hok : HOk X.prog X.w H' h') (hg : AllBare g')
    (hch : ∀ b ∈ ch, (b ∈ X.ex ∨ X.s₀.heap.objs.size ≤ b) ∧ b ≠ X.env.locals ∧ (∀ x c, X.env.cells.lookup x = some c → c ≠ b) ∧ ∀ p ∈ X.pn ++ pins, p.1 ≠ b) :
    Inv X pins σ H' { s with heap := h', gens := g', drawn := d', toks := t' } := by
  obtain ⟨m, ⟨o, es, ep, ho, r⟩, _⟩ := id I.loc
  obtain ⟨sl, hL⟩ := u.any ho I.free fun z => (hch _ z).2.1 rfl
  exact I.step (ch := ch) hch (fun b o hL hb hc e n => u.keep b o e n (fun z => (List.mem_cons.mp (I.stkSub b z)).elim hL hb) hc) (fun b o _ _ hc e n => u.any e n hc) (fun b o hc e n => u.free b o e n hc) (fun b o hc e => u.there b o e hc) u.tups u.frzs u.tbls (fun m' hm => by
    obtain ⟨o', es', ep', ho', r'⟩ := hm
    rw [ho] at ho'; cases ho'
    exact ⟨_, es', ep', hL, r'⟩) hok hg
theorem Inv.turned {t' : Nat} {it : Addr} (I : Inv X pins σ H s) (k : ∀ b o, b ≠ it → s.heap.get? b = some o → h'.get? b = some o) (hn : H it = none) (hL : it ≠ X.env.locals)
    (h1 : it ∈ X.ex ∨ X.s₀.heap.objs.size ≤ it) (h2 : ∀ x c, X.env.cells.lookup x = some c → c ≠ it) (h3 : ∀ p ∈ X.pn ++ pins, p.1 ≠ it) : Inv X pins σ H { s with heap := h', toks := t' } := by
  have nit : ∀ b u, H b = some u → b ≠ it := fun b u e z => by rw [z, hn] at e; cases e
  refine I.step (g' := s.gens) (d' := s.drawn) (ch := [it]) (fun b hb => ?_) (fun b o _ _ hc e _ => k b o (fun z => hc (by simp [z])) e) (fun b o _ _ hc e _ => ⟨o.slots, k b o (fun z => hc (by simp [z])) e⟩) (fun _ _ _ _ n => n)
    (fun b o hc e => ⟨o, k b o (fun z => hc (by simp [z])) e⟩) (fun _ _ e => e) (fun _ _ _ e => e) (fun b ps e => ⟨#[], by rw [e]; simp⟩) (fun m hm => ?_) (fun b u e => ?_) I.bare
  · have e : b = it := by simpa using hb
    subst e
    exact ⟨h1, hL, h2, h3⟩
  · obtain ⟨o, es, ep, ho, r⟩ := hm
    exact ⟨o, es, ep, k _ o (Ne.symm hL) ho, r⟩
  · refine (I.hok b u e).stay (fun c v hc q => k c v ?_ q) (fun _ q => q) fun _ _ q => q
    rcases hc with z | z
    · rw [z]; exact nit b u e
    · exact nit c _ z
theorem Inv.tok (I : Inv X pins σ H s) (t : Nat) : Inv X pins σ H { s with toks := t } := I.un (h' := s.heap) (t' := t) Un.refl I.hok
theorem Inv.kept {t' : Nat} (I : Inv X pins σ H s) (k : ∀ b u, s.heap.get? b = some u → h'.get? b = some u) : Inv X pins σ H { s with heap := h', toks := t' } := I.un (Un.kept k) (I.hok.kept k)
theorem Inv.laid {a : Addr} {o : HO} {t' : Nat} (I : Inv X pins σ H s) (k : ∀ b u, s.heap.get? b = some u → h'.get? b = some u) (hp : s.heap.objs.size ≤ a) (new : ObjOk X.prog X.w (upd H a o) h' a o) :
    Inv X pins σ (upd H a o) { s with heap := h', toks := t' } := I.un (Un.laid k hp (I.hok.fresh hp)) (I.hok.laid k hp new)
theorem Inv.write {x e : Addr} {o : HO} {t' : Nat} (I : Inv X pins σ H s) (mu : Mut (H x)) (he : e = x ∨ H e = some (.own x)) (k : ∀ b u, b ≠ e → s.heap.get? b = some u → h'.get? b = some u) (heo : ∃ u, h'.get? e = some u)
    (new : ObjOk X.prog X.w (upd H x o) h' x o) : Inv X pins σ (upd H x o) { s with heap := h', toks := t' } := I.un (Un.write mu he k heo) (I.hok.write mu he k heo new)
theorem Inv.weak {σ' : List (Option V)} (I : Inv X pins σ H s) (hl : σ'.length = σ.length) (w : ∀ (i : Nat) v, σ'[i]? = some (some v) → σ[i]? = some (some v)) : Inv X pins σ' H s :=
  ⟨I.ok, I.os, I.bare, I.base, let ⟨m, hn, hl'⟩ := I.loc; ⟨m, hn, fun i x v e1 e2 e3 => hl' i x v e1 (w i v e2) e3⟩, I.cell, I.free, I.freeC, I.pin, I.hok, hl.trans I.len⟩
theorem Inv.pins_of {pins' : List (Addr × Obj)} (I : Inv X pins σ H s) (h : ∀ p ∈ pins', s.heap.get? p.1 = some p.2 ∧ H p.1 = none ∧ p.1 ≠ X.env.locals ∧ p.1 ∉ X.fs ∧ ∀ v, p.2.data ≠ .cell v) : Inv X pins' σ H s :=
  ⟨I.ok, I.os, I.bare, I.base, I.loc, I.cell, I.free, I.freeC, fun p hp => (List.mem_append.mp hp).elim (fun z => I.pin p (List.mem_append_left _ z)) (h p), I.hok, I.len⟩
theorem nodup_ix {N : List Str} (hN : N.Nodup) {i j : Nat} {x : Str} (a : N[i]? = some x) (b : N[j]? = some x) : i = j := by
  obtain ⟨h1, e1⟩ := List.getElem?_eq_some_iff.mp a
  obtain ⟨h2, e2⟩ := List.getElem?_eq_some_iff.mp b
  exact (List.getElem_inj hN).mp (e1.trans e2.symm)
theorem store_ok2 {M : Model} {A : Around} {E : Value → Shared → Prop} {i : Nat} {x : Str} {v : V} {u : Value} {Q : Unit → Shared → Prop} (I : Inv X pins σ H s) (hN : X.N.Nodup) (hi : X.N[i]? = some x) (hx : Loc X.env.scope x) (r : RelV v u)
    (h : ∀ s', Inv X pins (σ.set i (some v)) H s' → (∃ a, Heap.SameBut a s.heap s'.heap ∧ (a = X.env.locals ∨ X.env.cells.lookup x = some a)) → Q () s') (hf : X.fn x = true ∨ X.env.scope.names.lookup x = some .local := by first | exact .inl rfl | exact .inr rfl | assumption) : wpAny M A (storeName X.env x u) Q E s := by
  obtain ⟨m, hn, hl⟩ := id I.loc
  have hcls : (X.env.scope.kind == .class || (X.env.scope.kind == .module && X.env.locals != X.env.globals)) = false := by rw [I.ok.kind]; rfl
  have hiσ : i < σ.length := by rw [I.len]; exact (List.getElem?_eq_some_iff.mp hi).1
  have cne := I.cne
  have tracked : ∀ {a : Addr} {h' : Heap}, (∃ o, s.heap.get? a = some o ∧ H a = none) → Heap.SameBut a s.heap h' → HOk X.prog X.w H h' := fun {a h'} ha hs b ob e => by
    obtain ⟨_, _, hfree⟩ := ha
    refine (I.hok b ob e).stay (fun c w' hc q => (hs.2 c ?_).trans q) (fun _ q => q) fun _ _ q => q
    rintro rfl
    rcases hc with rfl | hc
    · rw [hfree] at e; cases e
    · rw [hfree] at hc; cases hc
  rcases hx with hk | hk
  · refine wpAny_storeName_local hk hn (fun h' hn' hs => ?_) hcls
    obtain ⟨oL, _, _, hoL, _⟩ := id hn
    refine h _ ⟨I.ok, I.os, I.bare, ⟨fun b o e n hb hx => ?_, fun b o e n hb hx => ?_, I.base.free, fun b o e hx => ?_, I.base.tups, I.base.frzs, I.base.tbls⟩, ⟨_, hn', fun j y v' e1 e2 e3 => ?_⟩, fun y c e => ?_, I.free, I.freeC, fun p hp => ?_, tracked ⟨oL, hoL, I.free⟩ hs, by simpa using I.len⟩ ⟨_, hs, .inl rfl⟩
    · exact (hs.2 b (Nat.ne_of_lt (Nat.lt_of_lt_of_le (Heap.lt_size e) I.ok.above))).trans (I.base.keep b o e n hb hx)
    · obtain ⟨sl, e1⟩ := I.base.slot b o e n hb hx
      exact ⟨sl, (hs.2 b (Nat.ne_of_lt (Nat.lt_of_lt_of_le (Heap.lt_size e) I.ok.above))).trans e1⟩
    · obtain ⟨o', e1⟩ := I.base.there b o e hx
      exact ⟨o', (hs.2 b (Nat.ne_of_lt (Nat.lt_of_lt_of_le (Heap.lt_size e) I.ok.above))).trans e1⟩
    · by_cases hj : j = i
      · subst hj
        rw [hi] at e1; cases e1
        rw [List.getElem?_set_self hiσ] at e2
        cases e2
        exact ⟨u, r, .inl ⟨hk, by simp⟩⟩
      · rw [List.getElem?_set_ne (Ne.symm hj)] at e2
        obtain ⟨u', r', q⟩ := hl j y v' e1 e2 e3
        refine ⟨u', r', ?_⟩
        rcases q with ⟨k, e⟩ | ⟨k, c, e, z⟩
        · refine .inl ⟨k, ?_⟩
          have : y ≠ x := fun e => hj (nodup_ix hN e1 (e ▸ hi))
          simp [this, e]
        · exact .inr ⟨k, c, e, z.sameBut hs (cne y c e)⟩
    · obtain ⟨w', z⟩ := I.cell y c e
      exact ⟨w', z.sameBut hs (cne y c e)⟩
    · obtain ⟨e, n, ne, nf, d⟩ := I.pin p hp
      exact ⟨(hs.2 p.1 ne).trans e, n, ne, nf, d⟩
  · have hfn : X.fn x = true := by
      rcases hf with z | z
      · exact z
      · rw [z] at hk; cases hk
    obtain ⟨c, hc⟩ := I.ok.has x (.inl hk)
    obtain ⟨w', z⟩ := I.cell x c hc
    refine wpAny_storeName_cell I.ok.kind hk hc z (fun h' hc' hs => ?_)
    obtain ⟨oc, hoc, hocd⟩ := id z
    refine h { s with heap := h' } ⟨I.ok, I.os, I.bare, ⟨fun b o e n hb hx => ?_, fun b o e n hb hx => ?_, I.base.free, fun b o e hx => ?_, I.base.tups, I.base.frzs, I.base.tbls⟩, ⟨m, hn.sameBut hs (Ne.symm (cne x c hc)), fun j y v' e1 e2 e3 => ?_⟩, fun y c' e => ?_, I.free, I.freeC, fun p hp => ?_, tracked ⟨oc, hoc, I.freeC x c hc⟩ hs, by simpa using I.len⟩ ⟨c, hs, .inr hc⟩
    · exact (hs.2 b (Nat.ne_of_lt (Nat.lt_of_lt_of_le (Heap.lt_size e) (I.ok.cab x c hfn hc)))).trans (I.base.keep b o e n hb hx)
    · obtain ⟨sl, e1⟩ := I.base.slot b o e n hb hx
      exact ⟨sl, (hs.2 b (Nat.ne_of_lt (Nat.lt_of_lt_of_le (Heap.lt_size e) (I.ok.cab x c hfn hc)))).trans e1⟩
    · obtain ⟨o', e1⟩ := I.base.there b o e hx
      exact ⟨o', (hs.2 b (Nat.ne_of_lt (Nat.lt_of_lt_of_le (Heap.lt_size e) (I.ok.cab x c hfn hc)))).trans e1⟩
    · by_cases hj : j = i
      · subst hj
        rw [hi] at e1; cases e1
        rw [List.getElem?_set_self hiσ] at e2
        cases e2
        exact ⟨u, r, .inr ⟨.inl hk, c, hc, hc'⟩⟩
      · rw [List.getElem?_set_ne (Ne.symm hj)] at e2
        obtain ⟨u', r', q⟩ := hl j y v' e1 e2 e3
        refine ⟨u', r', ?_⟩
        rcases q with q | ⟨k, c', e, z'⟩
        · exact .inl q
        · refine .inr ⟨k, c', e, z'.sameBut hs ?_⟩
          rintro rfl
          exact hj (nodup_ix hN e1 (I.ok.inj _ _ _ e hc ▸ hi))
    · by_cases hcc : c' = c
      · subst hcc; exact ⟨_, hc'⟩
      · obtain ⟨w2, z2⟩ := I.cell y c' e
        exact ⟨w2, z2.sameBut hs hcc⟩
    · obtain ⟨e, n, ne, nf, d⟩ := I.pin p hp
      refine ⟨(hs.2 p.1 ?_).trans e, n, ne, nf, d⟩
      intro q
      rw [q, hoc] at e
      have q' : oc = p.2 := Option.some.inj e
      exact d w' (by rw [← q']; exact hocd)
theorem store_ok {M : Model} {A : Around} {E : Value → Shared → Prop} {i : Nat} {x : Str} {v : V} {u : Value} {Q : Unit → Shared → Prop} (I : Inv X pins σ H s) (hN : X.N.Nodup) (hi : X.N[i]? = some x) (hx : Loc X.env.scope x) (r : RelV v u)
    (h : ∀ s', Inv X pins (σ.set i (some v)) H s' → Q () s') (hf : X.fn x = true ∨ X.env.scope.names.lookup x = some .local := by first | exact .inl rfl | exact .inr rfl | assumption) : wpAny M A (storeName X.env x u) Q E s :=
  store_ok2 I hN hi hx r (fun s' I' _ => h s' I') hf
theorem Inv.call' {s' : Shared} {ch : List Addr} (I : Inv X pins σ H s) (ho : s'.os = s.os) (u : Un (frs X.stack) ch H H' s.heap s'.heap) (hok : HOk X.prog X.w H' s'.heap) (hg : AllBare s'.gens)
    (hch : ∀ b ∈ ch, (b ∈ X.ex ∨ X.s₀.heap.objs.size ≤ b) ∧ b ≠ X.env.locals ∧ (∀ x c, X.env.cells.lookup x = some c → c ≠ b) ∧ ∀ p ∈ X.pn ++ pins, p.1 ≠ b) : Inv X pins σ H' s' := by
  obtain ⟨h', g', d', t', o'⟩ := s'
  have e : o' = s.os := ho
  subst e
  exact I.call (g' := g') (t' := t') (d' := d') u hok hg hch
end
noncomputable abbrev XK := Value → Option Addr → Hp → Prop
noncomputable abbrev St := List (Option V)
noncomputable abbrev VK := V → Hp → Prop
noncomputable abbrev TE := St → Hp → VK → Prop
noncomputable abbrev TT := St → Hp → (Bool → Hp → Prop) → Prop
noncomputable abbrev TA := St → Hp → (List V → Hp → Prop) → Prop
structure Ends where
  nx : St → Hp → Prop
  rt : VK
  bk : St → Hp → Prop := fun _ _ => False
  ct : St → Hp → Prop := fun _ _ => False
noncomputable abbrev TS := Ends → St → Hp → Prop
noncomputable def EP (X : Cx) (pins : List (Addr × Obj)) (σ : St) (Q : VK) (u : Value) (s' : Shared) : Prop := ∃ v H', Inv X pins σ H' s' ∧ RelV v u ∧ Q v H'
noncomputable def TP (X : Cx) (pins : List (Addr × Obj)) (σ : St) (Q : Bool → Hp → Prop) (b : Bool) (s' : Shared) : Prop := ∃ H', Inv X pins σ H' s' ∧ Q b H'
noncomputable def AP (X : Cx) (pins : List (Addr × Obj)) (σ : St) (Q : List V → Hp → Prop) (us : List Value) (s' : Shared) : Prop := ∃ vs H', Inv X pins σ H' s' ∧ Vals vs us ∧ Q vs H'
noncomputable def SP (X : Cx) (pins : List (Addr × Obj)) (D : Ends) (f : Flow) (s' : Shared) : Prop :=
  match f with
  | .next => ∃ σ' H', Inv X pins σ' H' s' ∧ D.nx σ' H'
  | .brk => ∃ σ' H', Inv X pins σ' H' s' ∧ D.bk σ' H'
  | .cont => ∃ σ' H', Inv X pins σ' H' s' ∧ D.ct σ' H'
  | .ret u => ∃ v σ' H', Inv X pins σ' H' s' ∧ RelV v u ∧ D.rt v H'
noncomputable def PE (X : Cx) (e : Expr) (t : TE) : Prop :=
  ∀ (pins : List (Addr × Obj)) (s : Shared) (σ : St) (H : Hp) (Q : VK), Inv X pins σ H s → t σ H Q → wpAny (model X.prog X.w) X.A (eval e X.env) (EP X pins σ Q) X.xe s
noncomputable def PT (X : Cx) (e : Expr) (t : TT) : Prop :=
  ∀ (pins : List (Addr × Obj)) (s : Shared) (σ : St) (H : Hp) (Q : Bool → Hp → Prop), Inv X pins σ H s → t σ H Q → wpAny (model X.prog X.w) X.A (isTrue e X.env (eval e X.env)) (TP X pins σ Q) X.xe s
noncomputable def PW (X : Cx) (e : Expr) (t : TT) : Prop :=
  ∀ (whole : Sem Value) (pins : List (Addr × Obj)) (s : Shared) (σ : St) (H : Hp) (Q : Bool → Hp → Prop), Inv X pins σ H s → t σ H Q → wpAny (model X.prog X.w) X.A (isTrue e X.env whole) (TP X pins σ Q) X.xe s
theorem PW.pt {X : Cx} {e : Expr} {t : TT} (h : PW X e t) : PT X e t := h _
noncomputable def PA (X : Cx) (es : List Expr) (t : TA) : Prop :=
  ∀ (pos : Pos) (pins : List (Addr × Obj)) (s : Shared) (σ : St) (H : Hp) (Q : List V → Hp → Prop), Inv X pins σ H s → t σ H Q → wpAny (model X.prog X.w) X.A (spliced (backTo pos (starEach es X.env))) (AP X pins σ Q) X.xe s
noncomputable def PS (X : Cx) (st : Stmt) (t : TS) : Prop :=
  ∀ (pins : List (Addr × Obj)) (s : Shared) (σ : St) (H : Hp) (D : Ends), Inv X pins σ H s → t D σ H → wpAny (model X.prog X.w) X.A (exec st X.env) (SP X pins D) X.xe s
noncomputable def PSs (X : Cx) (st : List Stmt) (t : TS) : Prop :=
  ∀ (pins : List (Addr × Obj)) (s : Shared) (σ : St) (H : Hp) (D : Ends), Inv X pins σ H s → t D σ H → wpAny (model X.prog X.w) X.A (execs st X.env) (SP X pins D) X.xe s
theorem thn {α : Type} {t : Sem α} {Q Q' : α → Shared → Prop} {M : Model} {A : Around} {E : Value → Shared → Prop} {s : Shared} (h : wpAny M A t Q E s) (hQ : ∀ a s, Q a s → Q' a s) : wpAny M A t Q' E s := wpAny_mono h hQ fun _ _ x => x
end L2
namespace L2
open PySem PySem.Spec PyProof.Rows
section
variable {X : Cx}
noncomputable def tVar (i : Nat) : TE := fun σ H Q => ∃ v, σ[i]? = some (some v) ∧ Q v H
noncomputable def tC (v : V) : TE := fun _ H Q => Q v H
theorem pe_var {i : Nat} {x : Str} {pos : Pos} (hN : X.N[i]? = some x) (hv : Vis X.env.scope x) (hd : (x == ("__debug__" : Str)) = false := by decide) (hcd : (x == ("__classdict__" : Str)) = false := by decide) : PE X (.Name x pos) (tVar i) := by
  intro pins s σ H Q I h
  obtain ⟨v, e, h⟩ := h
  obtain ⟨m, hn, hl⟩ := I.loc
  obtain ⟨u, r, l⟩ := hl i x v hN e hv
  have fin : EP X pins σ Q u s := ⟨v, H, I, r, h⟩
  rcases l with ⟨hk, hm⟩ | ⟨hk, c, hc, hcell⟩
  · exact wpAny_Name (wpAny_loadName_local I.ok.kind hk hn hm fin) hd
  · rcases hk with hk | hk
    · exact wpAny_Name (wpAny_loadName_cell I.ok.kind hk hc hcell fin) hd
    · exact wpAny_Name (wpAny_loadName_free I.ok.kind hk hc hcell fin hcd) hd
theorem pe_int {i j pos} : PE X (.Constant (.int i) j pos) (tC (.int i)) := fun _ _ _ H _ I h => wpAny_Constant_int ⟨.int i, H, I.tok _, ⟨_, rfl⟩, h⟩
theorem pe_bl {b j pos} : PE X (.Constant (.bool b) j pos) (tC (.bl b)) := fun _ _ _ H _ I h => Constant_bool ⟨.bl b, H, I, rfl, h⟩
theorem pe_non {j pos} : PE X (.Constant .none j pos) (tC .non) := fun _ _ _ H _ I h => Constant_none ⟨.non, H, I, rfl, h⟩
theorem pe_str {x j pos} : PE X (.Constant (.str x) j pos) (tC (.str x)) := fun _ _ _ H _ I h => Calls.Constant_str ⟨.str x, H, I.tok _, ⟨_, rfl⟩, h⟩
noncomputable def Gl (X : Cx) (x : Str) : Prop := X.env.kindOf x = some .globalImplicit
theorem ld_glob {E : Value → Shared → Prop} {pins : List (Addr × Obj)} {s : Shared} {σ : St} {H : Hp} {x : Str} {u : Value} {pos : Pos} {Q : Value → Shared → Prop} (I : Inv X pins σ H s) (hg : Gl X x) (hm : X.mg x = some u) (h : Q u s)
    (hd : (x == ("__debug__" : Str)) = false := by decide) : wpAny (model X.prog X.w) X.A (eval (.Name x pos) X.env) Q E s :=
  Calls.Name_function_global I.ok.kind hg (Calls.loadGlobal_global (by rw [I.ok.glob]; exact I.mod.glob.keeps I.bk) hm h) hd
theorem ld_blt {E : Value → Shared → Prop} {pins : List (Addr × Obj)} {s : Shared} {σ : St} {H : Hp} {x : Str} {u : Value} {pos : Pos} {Q : Value → Shared → Prop} (I : Inv X pins σ H s) (hg : Gl X x) (hm : X.mg x = none) (hv : bootBuiltins x = some u) (h : Q u s)
    (hn : x ≠ "__name__" := by decide) (hd : (x == ("__debug__" : Str)) = false := by decide) : wpAny (model X.prog X.w) X.A (eval (.Name x pos) X.env) Q E s := by
  obtain ⟨mb, h1, h2⟩ := I.mod.blt
  exact Calls.Name_function_global I.ok.kind hg (Calls.loadGlobal_builtin (by rw [I.ok.glob]; exact I.mod.glob.keeps I.bk) hm (by rw [I.ok.blt]; exact h1.keeps I.bk) ((h2 x hn).trans hv) h) hd
theorem pe_glob {x : Str} {v : V} {u : Value} {pos : Pos} (hg : Gl X x) (hm : X.mg x = some u) (r : RelV v u) (hd : (x == ("__debug__" : Str)) = false := by decide) : PE X (.Name x pos) (tC v) :=
  fun _ _ _ H _ I h => ld_glob I hg hm ⟨v, H, I, r, h⟩ hd
theorem pe_bltn {x : Str} {v : V} {u : Value} {pos : Pos} (hg : Gl X x) (hm : X.mg x = none) (hv : bootBuiltins x = some u) (r : RelV v u) (hn : x ≠ "__name__" := by decide) (hd : (x == ("__debug__" : Str)) = false := by decide) : PE X (.Name x pos) (tC v) :=
  fun _ _ _ H _ I h => ld_blt I hg hm hv ⟨v, H, I, r, h⟩ hn hd
variable {a b : Expr} {ta tb : TE} {pos : Pos}
noncomputable def tB (t : TE) : TT := fun σ H Q => t σ H fun x H1 => ∃ c, x = .bl c ∧ Q c H1
theorem pt_val {e : Expr} {t : TE} (h : PE X e t) (he : ∀ whole, isTrue e X.env whole = (do let v ← whole; standAt e.pos; holding [v] (truthy v)) := by intro _; rfl) : PT X e (tB t) := by
  intro pins s σ H Q I hw
  refine isTrue_plain (thn (h pins s σ H _ I hw) fun v s1 ⟨x, H1, I1, r1, q1⟩ => ?_) (he _)
  obtain ⟨d, rfl, q⟩ := q1
  cases r1
  exact wpAny_truthy_bool ⟨H1, I1, q⟩
variable {tA tB' : TT} {rest : List Expr}
noncomputable def tAnd (t u : TT) : TT := fun σ H Q => t σ H fun c H1 => if c = true then u σ H1 Q else Q false H1
noncomputable def tOr (t u : TT) : TT := fun σ H Q => t σ H fun c H1 => if c = true then Q true H1 else u σ H1 Q
noncomputable def tNot (t : TT) : TT := fun σ H Q => t σ H fun c H1 => Q (!c) H1
theorem pw_and1 (ha : PT X a tA) : PW X (.BoolOp .And [a] pos) tA := by
  intro wh pins s σ H Q I h
  refine isTrue_and (thn (ha pins s σ H Q I h) fun c s1 e => ?_)
  cases c with
  | true => exact isTrue_and_nil e
  | false => exact e
theorem pw_or1 (ha : PT X a tA) : PW X (.BoolOp .Or [a] pos) tA := by
  intro wh pins s σ H Q I h
  refine isTrue_or (thn (ha pins s σ H Q I h) fun c s1 e => ?_)
  cases c with
  | false => exact isTrue_or_nil e
  | true => exact e
theorem pw_and (ha : PT X a tA) (hb : PW X (.BoolOp .And (b :: rest) pos) tB') : PW X (.BoolOp .And (a :: b :: rest) pos) (tAnd tA tB') := by
  intro wh pins s σ H Q I h
  refine isTrue_and (thn (ha pins s σ H _ I h) fun c s1 ⟨H1, I1, q1⟩ => ?_)
  cases c with
  | true => exact hb wh pins s1 σ H1 Q I1 q1
  | false => exact ⟨H1, I1, q1⟩
theorem pw_or (ha : PT X a tA) (hb : PW X (.BoolOp .Or (b :: rest) pos) tB') : PW X (.BoolOp .Or (a :: b :: rest) pos) (tOr tA tB') := by
  intro wh pins s σ H Q I h
  refine isTrue_or (thn (ha pins s σ H _ I h) fun c s1 ⟨H1, I1, q1⟩ => ?_)
  cases c with
  | true => exact ⟨H1, I1, q1⟩
  | false => exact hb wh pins s1 σ H1 Q I1 q1
theorem pt_not (ha : PT X a tA) : PT X (.UnaryOp .Not a pos) (tNot tA) := by
  intro pins s σ H Q I h
  exact isTrue_not (ha pins s σ H (fun c H1 => Q (!c) H1) I h)
noncomputable def tAndV (ta tb : TE) : TE := fun σ H Q => ta σ H fun x H1 => ∃ c, x = .bl c ∧ if c = true then tb σ H1 Q else Q (.bl false) H1
theorem pe_one {op} {t : TE} (h : PE X a t) : PE X (.BoolOp op [a] pos) t := fun pins s σ H Q I hw => BoolOp_one (h pins s σ H Q I hw)
theorem pe_and (ha : PE X a ta) (hb : PE X (.BoolOp .And (b :: rest) pos) tb) : PE X (.BoolOp .And (a :: b :: rest) pos) (tAndV ta tb) := by
  intro pins s σ H Q I h
  refine BoolOp_and (thn (ha pins s σ H _ I h) fun v s1 ⟨x, H1, I1, r1, q1⟩ => ?_)
  obtain ⟨c, rfl, q1⟩ := q1
  cases r1
  refine wpAny_truthy_bool ?_
  cases c with
  | true => exact hb pins s1 σ H1 Q I1 q1
  | false => exact ⟨.bl false, H1, I1, rfl, q1⟩
end
end L2
namespace L2
open PySem PySem.Spec PyProof.Rows
noncomputable def SqL (K : PySem.W.Frag) (H : Hp) (a : Addr) (xs : List V) : Prop :=
  Rd H a (.lst xs) ∨
    ∃ (o : Obj) (its : Array Value) (n : Nat), K.lookup a = some o ∧ o.cls = .type "list" ∧ o.dict = none ∧ o.data = .seq its n ∧ its.size ≤ sizeLine ∧ Vals xs its.toList
noncomputable def SqT (K : PySem.W.Frag) (H : Hp) (a : Addr) (xs : List V) : Prop :=
  Rd H a (.tup xs) ∨
    ∃ (o : Obj) (its : Array Value) (n : Nat), K.lookup a = some o ∧ o.cls = .type "tuple" ∧ o.data = .seq its n ∧ its.size ≤ sizeLine ∧ Vals xs its.toList
noncomputable def absV : Value → Option V
  | .none => some .non
  | .bool b => some (.bl b)
  | .int i _ => some (.int i)
  | .str x _ => some (.str x)
  | .bytes b _ => some (.byt b)
  | .float b _ => some (.flt b)
  | .ref a => some (.ref a)
  | .type n => some (.ty n)
  | _ => none
theorem RelV.abs {x : V} {u : Value} (r : RelV x u) : absV u = some x := by
  cases x with
  | non => cases r; rfl
  | bl _ => cases r; rfl
  | int _ => obtain ⟨t, rfl⟩ := r; rfl
  | str _ => obtain ⟨t, rfl⟩ := r; rfl
  | byt _ => obtain ⟨t, rfl⟩ := r; rfl
  | flt _ => obtain ⟨t, rfl⟩ := r; rfl
  | ref _ => cases r; rfl
  | ty _ => cases r; rfl
theorem RelV.inj {x y : V} {u : Value} (r : RelV x u) (q : RelV y u) : x = y := Option.some.inj (r.abs.symm.trans q.abs)
theorem Vals.inj : ∀ {xs ys : List V} {us : List Value}, Vals xs us → Vals ys us → xs = ys
  | _, _, _, .nil, .nil => rfl
  | _, _, _, .cons r t, .cons r' t' => by rw [r.inj r', Vals.inj t t']
section
variable {X : Cx} {pins : List (Addr × Obj)} {σ : St} {H : Hp} {s : Shared} {a : Addr} {xs ys : List V}
theorem SqL.of {K : PySem.W.Frag} (h : H a = some (.lst xs)) : SqL K H a xs := .inl (.inl h)
theorem Inv.list (I : Inv X pins σ H s) (h : SqL X.K H a xs) : ∃ its : List Value, Vals xs its ∧ PlainL s.heap a its.toArray ∧ xs.length ≤ sizeLine := by
  rcases h with h | ⟨o, its, n, hk, hc, hd, hs, hz, r⟩
  · obtain ⟨z, its, n, r, e⟩ := h.ok I.hok
    exact ⟨its, r, ⟨_, n, e, rfl, rfl, rfl⟩, z⟩
  · refine ⟨its.toList, r, ⟨o, n, I.kIn a o hk, hc, hd, by simpa using hs⟩, ?_⟩
    have e := r.length
    simp only [Array.length_toList] at e
    omega
theorem Inv.tuple (I : Inv X pins σ H s) (h : SqT X.K H a xs) : ∃ its : List Value, Vals xs its ∧ IsTup s.heap a its.toArray ∧ xs.length ≤ sizeLine := by
  rcases h with h | ⟨o, its, n, hk, hc, hs, hz, r⟩
  · obtain ⟨z, its, r, p⟩ := h.ok I.hok
    exact ⟨its, r, p, z⟩
  · refine ⟨its.toList, r, ⟨o, I.kIn a o hk, hc, n, by simpa using hs⟩, ?_⟩
    have e := r.length
    simp only [Array.length_toList] at e
    omega
theorem Inv.list_inj (I : Inv X pins σ H s) (h : SqL X.K H a xs) (h' : SqL X.K H a ys) : xs = ys := by
  obtain ⟨its, r, ⟨o, n, e, _, _, d⟩, _⟩ := I.list h
  obtain ⟨its', r', ⟨o', n', e', _, _, d'⟩, _⟩ := I.list h'
  rw [e] at e'; cases e'
  rw [d] at d'
  injection d' with d1 _
  have : its = its' := by simpa using congrArg Array.toList d1
  subst this
  exact r.inj r'
end
noncomputable abbrev Cx.wish (X : Cx) (E : Value → Shared → Prop) : Cx := { X with xe := E }
noncomputable abbrev Cx.nox (X : Cx) : Cx := X.wish fun _ _ => False
theorem Cx.Ok.wish {X : Cx} (ok : X.Ok) (E : Value → Shared → Prop) : (X.wish E).Ok :=
  ⟨ok.mod, ok.kind, ok.glob, ok.blt, ok.above, ok.inj, ok.has, ok.cab, ok.hd, ok.frames, ok.stk, ok.exf, ok.bs, ok.bsz, ok.noex, ok.exfs, ok.funs, ok.frf⟩
theorem Cx.Ok.unwish {X : Cx} {E : Value → Shared → Prop} (ok : (X.wish E).Ok) : X.Ok :=
  ⟨ok.mod, ok.kind, ok.glob, ok.blt, ok.above, ok.inj, ok.has, ok.cab, ok.hd, ok.frames, ok.stk, ok.exf, ok.bs, ok.bsz, ok.noex, ok.exfs, ok.funs, ok.frf⟩
section
variable {X : Cx} {pins : List (Addr × Obj)} {σ : St} {H : Hp} {s : Shared} {E : Value → Shared → Prop}
theorem Inv.wish (I : Inv X pins σ H s) (E : Value → Shared → Prop) : Inv (X.wish E) pins σ H s := ⟨I.ok.wish E, I.os, I.bare, I.base, I.loc, I.cell, I.free, I.freeC, I.pin, I.hok, I.len⟩
theorem Inv.unwish (I : Inv (X.wish E) pins σ H s) : Inv X pins σ H s := ⟨I.ok.unwish, I.os, I.bare, I.base, I.loc, I.cell, I.free, I.freeC, I.pin, I.hok, I.len⟩
theorem SP.unwish {D : Ends} {f : Flow} {s' : Shared} (h : SP (X.wish E) pins D f s') : SP X pins D f s' := by
  cases f with
  | next => obtain ⟨σ', H', I, q⟩ := h; exact ⟨σ', H', I.unwish, q⟩
  | brk => obtain ⟨σ', H', I, q⟩ := h; exact ⟨σ', H', I.unwish, q⟩
  | cont => obtain ⟨σ', H', I, q⟩ := h; exact ⟨σ', H', I.unwish, q⟩
  | ret u => obtain ⟨v, σ', H', I, r, q⟩ := h; exact ⟨v, σ', H', I.unwish, r, q⟩
theorem PSs.nox {st : List Stmt} {t : TS} (h : PSs X.nox st t) : PSs X st t := fun pins s σ H D I hw =>
  wpAny_mono (h pins s σ H D (I.wish _) hw) (fun _ _ q => q.unwish) fun _ _ z => False.elim z
end
section
variable {X : Cx} {st : Stmt} {rest : List Stmt} {t u : TS} {e : Expr} {te : TE} {pos : Pos}
noncomputable def tNext : TS := fun D σ H => D.nx σ H
noncomputable def tSeq (t u : TS) : TS := fun D σ H => t { D with nx := u D } σ H
theorem pss_nil : PSs X [] tNext := fun _ _ σ H _ I h => wpAny_execs_nil ⟨σ, H, I, h⟩
theorem pss_cons (h1 : PS X st t) (h2 : PSs X rest u) : PSs X (st :: rest) (tSeq t u) := by
  intro pins s σ H D I h
  refine wpAny_execs_cons (thn (h1 pins s σ H { D with nx := u D } I h) fun f s1 q => ?_)
  cases f with
  | next =>
    obtain ⟨σ', H', I', q⟩ := q
    exact h2 pins s1 σ' H' D I' q
  | ret v => exact q
  | brk => exact q
  | cont => exact q
theorem pss_one (h1 : PS X st t) : PSs X [st] t := by
  intro pins s σ H D I h
  refine wpAny_execs_cons (thn (h1 pins s σ H D I h) fun f s1 q => ?_)
  cases f with
  | next => exact wpAny_execs_nil q
  | ret v => exact q
  | brk => exact q
  | cont => exact q
theorem Inv.quiet {pins : List (Addr × Obj)} {σ : St} {H : Hp} {s : Shared} (I : Inv X pins σ H s) : interactive X.env = false := by simp [interactive, I.ok.kind]
noncomputable def tDrop (te : TE) : TS := fun D σ H => te σ H fun _ H1 => D.nx σ H1
theorem ps_expr (he : PE X e te) (hs : swapsWith e none pos.line X.env = pure false := by rfl) : PS X (.Expr e pos) (tDrop te) := by
  intro pins s σ H D I h
  exact wpAny_Expr_any (thn (he pins s σ H _ I h) fun v s1 ⟨x, H1, I1, r1, q1⟩ => ⟨σ, H1, I1, q1⟩) I.quiet hs
noncomputable def tRet (te : TE) : TS := fun D σ H => te σ H D.rt
theorem ps_ret (he : PE X e te) : PS X (.Return (some e) pos) (tRet te) := by
  intro pins s σ H D I h
  exact wpAny_Return_some (thn (he pins s σ H _ I h) fun v s1 ⟨x, H1, I1, r1, q1⟩ => ⟨x, σ, H1, I1, r1, q1⟩)
noncomputable def tIfS (c : TT) (t u : TS) : TS := fun D σ H => c σ H fun b H1 => if b = true then t D σ H1 else u D σ H1
theorem ps_if {c : Expr} {a b : List Stmt} {tc : TT} (hc : PT X c tc) (ha : PSs X a t) (hb : PSs X b u) : PS X (.If c a b pos) (tIfS tc t u) := by
  intro pins s σ H D I h
  refine wpAny_If (thn (hc pins s σ H _ I h) fun d s1 ⟨H1, I1, q1⟩ => ?_)
  cases d with
  | true => exact ha pins s1 σ H1 D I1 q1
  | false => exact hb pins s1 σ H1 D I1 q1
end
noncomputable abbrev TG := V → St → Hp → (St → Hp → Prop) → Prop
noncomputable abbrev TGs := List V → St → Hp → (St → Hp → Prop) → Prop
noncomputable def PG (X : Cx) (target : Expr) (t : TG) : Prop :=
  ∀ (pins : List (Addr × Obj)) (s : Shared) (σ : St) (H : Hp) (v : V) (u : Value) (Q : St → Hp → Prop), Inv X pins σ H s → RelV v u → t v σ H Q →
    wpAny (model X.prog X.w) X.A (assign target X.env u) (fun _ s' => ∃ σ' H', Inv X pins σ' H' s' ∧ Q σ' H') X.xe s
noncomputable def PGs (X : Cx) (ts : List Expr) (t : TGs) : Prop :=
  ∀ (pins : List (Addr × Obj)) (s : Shared) (σ : St) (H : Hp) (vs : List V) (us : List Value) (Q : St → Hp → Prop), Inv X pins σ H s → Vals vs us → t vs σ H Q →
    wpAny (model X.prog X.w) X.A (assignInOrder ((assignEach ts X.env).map (·.2)) us) (fun _ s' => ∃ σ' H', Inv X pins σ' H' s' ∧ Q σ' H') X.xe s
noncomputable abbrev TIp := V → V → Hp → VK → Prop
noncomputable def PIp (X : Cx) (op : Operator) (t : TIp) : Prop :=
  ∀ (pins : List (Addr × Obj)) (s : Shared) (σ : St) (H : Hp) (x y : V) (v u : Value) (Q : VK), Inv X pins σ H s → RelV x v → RelV y u → t x y H Q →
    wpAny (model X.prog X.w) X.A (inplaceOp op v u) (EP X pins σ Q) X.xe s
section
variable {X : Cx} {pos : Pos}
noncomputable def gName (i : Nat) : TG := fun v σ H Q => Q (σ.set i (some v)) H
theorem pg_name {i : Nat} {x : Str} (hN : X.N.Nodup) (hi : X.N[i]? = some x) (hx : Loc X.env.scope x) (hf : X.fn x = true ∨ X.env.scope.names.lookup x = some .local := by first | exact .inl rfl | exact .inr rfl | assumption) : PG X (.Name x pos) (gName i) := by
  intro pins s σ H v u Q I r h
  exact wpAny_assign_Name (store_ok I hN hi hx r (fun s' I' => ⟨_, H, I', h⟩) hf)
noncomputable def gNil : TGs := fun vs σ H Q => vs = [] ∧ Q σ H
noncomputable def gCons (t : TG) (u : TGs) : TGs := fun vs σ H Q => ∃ v r, vs = v :: r ∧ t v σ H fun σ' H' => u r σ' H' Q
theorem pgs_nil : PGs X [] gNil := by
  intro pins s σ H vs us Q I r h
  obtain ⟨e, h⟩ := h
  subst e
  cases r
  exact assignInOrder_nil ⟨σ, H, I, h⟩
theorem pgs_cons {e : Expr} {es : List Expr} {t : TG} {u : TGs} (h1 : PG X e t) (h2 : PGs X es u)
    (hs : (assignEach (e :: es) X.env).map (·.2) = assign e X.env :: (assignEach es X.env).map (·.2) := by rfl) : PGs X (e :: es) (gCons t u) := by
  intro pins s σ H vs us Q I r h
  obtain ⟨v, vr, e1, h⟩ := h
  subst e1
  cases r with
  | cons r rr =>
    rw [hs]
    refine assignInOrder_cons (thn (h1 pins s σ H _ _ _ I r h) fun _ s1 ⟨σ1, H1, I1, q1⟩ => ?_)
    exact h2 pins s1 σ1 H1 _ _ Q I1 rr q1
noncomputable def gTup (K : PySem.W.Frag) (n : Nat) (t : TGs) : TG := fun v σ H Q => ∃ a xs, v = .ref a ∧ SqT K H a xs ∧ xs.length = n ∧ t xs σ H Q
theorem pg_tup {es : List Expr} {k : Nat} {t : TGs} {n : Nat} (hc : X.calm = true) (h : PGs X es t)
    (hn : (assignEach es X.env).length = n := by rfl) (hst : (assignEach es X.env).findIdx? (·.1) = none := by rfl) : PG X (.Tuple es k pos) (gTup X.K n t) := by
  intro pins s σ H v u Q I r hw
  obtain ⟨a, xs, e1, hq, hl, hw⟩ := hw
  subst e1
  cases r
  obtain ⟨its, rv, ht, hz⟩ := I.tuple hq
  refine assign_Tuple_tuple (I.ok.hd hc) ht (by simp [hn, ← hl, rv.length]) hst fun h' hx => ?_
  have I1 : Inv X pins σ H { s with heap := h' } := I.kept (t' := s.toks) fun b o e => hx b o (Nat.ne_of_lt (Heap.lt_size e)) e
  exact h pins _ σ H xs _ Q I1 (by simpa using rv) hw
noncomputable def tAsg (te : TE) (g : TG) : TS := fun D σ H => te σ H fun x H1 => g x σ H1 D.nx
theorem ps_asg {tg e : Expr} {te : TE} {g : TG} (he : PE X e te) (hg : PG X tg g) (hs : swapsWithSole [tg] e pos.line X.env = pure false := by rfl) (hw : swappedStores [tg] e X.env = pure none := by rfl)
    (h1 : (assignEach [tg] X.env).map (·.2) = [assign tg X.env] := by rfl) : PS X (.Assign [tg] e pos) (tAsg te g) := by
  intro pins s σ H D I h
  refine wpAny_Assign_stores (thn (he pins s σ H _ I h) fun v s1 ⟨x, H1, I1, r1, q1⟩ => ?_) hs hw
  rw [h1]
  exact thn (hg pins s1 σ H1 x v _ I1 r1 q1) fun _ s2 q => q
theorem ps_set {i : Nat} {x : Str} {e : Expr} {te : TE} {pos' : Pos} (hN : X.N.Nodup) (hi : X.N[i]? = some x) (hx : Loc X.env.scope x) (he : PE X e te) (hs : swapsWith e (some (.Name x pos')) pos.line X.env = pure false := by rfl) (hf : X.fn x = true ∨ X.env.scope.names.lookup x = some .local := by first | exact .inl rfl | exact .inr rfl | assumption) :
    PS X (.Assign [.Name x pos'] e pos) (tAsg te (gName i)) := by
  intro pins s σ H D I h
  refine wpAny_Assign_Name (thn (he pins s σ H _ I h) fun v s1 ⟨y, H1, I1, r1, q1⟩ => ?_) hs
  exact store_ok I1 hN hi hx r1 (fun s2 I2 => ⟨_, H1, I2, q1⟩) hf
noncomputable def tAug (i : Nat) (te : TE) (ti : TIp) : TS := fun D σ H => ∃ x, σ[i]? = some (some x) ∧ te σ H fun y H1 => ti x y H1 fun z H2 => D.nx (σ.set i (some z)) H2
theorem ps_aug {i : Nat} {x : Str} {e : Expr} {te : TE} {op : Operator} {ti : TIp} {pos' : Pos} (hN : X.N.Nodup) (hi : X.N[i]? = some x) (hx : Loc X.env.scope x) (he : PE X e te) (ho : PIp X op ti) (hf : X.fn x = true ∨ X.env.scope.names.lookup x = some .local := by first | exact .inl rfl | exact .inr rfl | assumption) :
    PS X (.AugAssign (.Name x pos') op e pos) (tAug i te ti) := by
  intro pins s σ H D I h
  obtain ⟨v, e1, h⟩ := h
  obtain ⟨m, hn, hl⟩ := I.loc
  have vis : Vis X.env.scope x := by rcases hx with k | k; exact .inl k; exact .inr (.inl k)
  obtain ⟨u, r, l⟩ := hl i x v hi e1 vis
  refine wpAny_AugAssign_Name ?_
  have go : wpAny (model X.prog X.w) X.A (eval e X.env) (fun w s₂ => wpAny (model X.prog X.w) X.A (inplaceOp op u w) (fun r s₃ => wpAny (model X.prog X.w) X.A (storeName X.env x r) (fun _ => SP X pins D .next) X.xe s₃) X.xe s₂) X.xe s := by
    refine thn (he pins s σ H _ I h) fun w s1 ⟨y, H1, I1, r1, q1⟩ => ?_
    refine thn (ho pins s1 σ H1 v y u w _ I1 r r1 q1) fun z s2 ⟨zv, H2, I2, r2, q2⟩ => ?_
    exact store_ok I2 hN hi hx r2 (fun s3 I3 => ⟨_, H2, I3, q2⟩) hf
  rcases l with ⟨hk, hm⟩ | ⟨hk, c, hc, hcell⟩
  · exact wpAny_loadName_local I.ok.kind hk hn hm go
  · rcases hk with hk | hk
    · exact wpAny_loadName_cell I.ok.kind hk hc hcell go
    · rcases hx with k | k
      · have : X.env.scope.names.lookup x = some .free := hk
        rw [k] at this; cases this
      · have : X.env.scope.names.lookup x = some .free := hk
        rw [k] at this; cases this
noncomputable def ipI (f : Int → Int → Int) : TIp := fun x y H Q => ∃ i j, x = .int i ∧ y = .int j ∧ Q (.int (f i j)) H
theorem ip_add : PIp X .Add (ipI fun i j => i + j) := by
  intro pins s σ H x y v u Q I r1 r2 h
  obtain ⟨i, j, e1, e2, q⟩ := h
  subst e1; subst e2
  obtain ⟨t, rfl⟩ := r1
  obtain ⟨t', rfl⟩ := r2
  exact iadd_int ⟨.int _, H, I.tok _, ⟨_, rfl⟩, q⟩
end
section
variable {X : Cx} {pos : Pos}
noncomputable def tWhile (c : TT) (tb : TS) : TS := fun D σ H => ∃ W : Nat → St → Hp → Prop, (∃ m, W m σ H) ∧ ∀ m σ H, W m σ H →
  c σ H fun b H1 => if b = true then ∃ N : St → Hp → Prop, (∀ σ' H', N σ' H' → ∃ m', m' < m ∧ W m' σ' H') ∧ tb { D with nx := N, ct := N, bk := D.nx } σ H1 else D.nx σ H1
theorem ps_while {c : Expr} {body : List Stmt} {tc : TT} {tb : TS} (hp : PassesOwn (model X.prog X.w) X.A X.env X.xe) (hc : PT X c tc) (hb : PSs X body tb) : PS X (.While c body [] pos) (tWhile tc tb) := by
  intro pins s σ H D I h
  obtain ⟨W, ⟨m0, w0⟩, turn⟩ := h
  refine wpAny_While (codeAny_whileLoop (fun n s' => ∃ σ' H', Inv X pins σ' H' s' ∧ W n σ' H') ?_ m0 ⟨σ, H, I, w0⟩)
  rintro n s1 ⟨σ1, H1, I1, w1⟩
  refine wpAny_passesOwn hp (thn (hc pins s1 σ1 H1 _ I1 (turn n σ1 H1 w1)) fun b s2 ⟨H2, I2, q2⟩ => ?_)
  cases b with
  | true =>
    obtain ⟨N, hN, q2⟩ := q2
    rw [if_pos rfl]
    refine wpAny_passesOwn hp (thn (hb pins s2 σ1 H2 _ I2 q2) fun f s3 q3 => ?_)
    cases f with
    | next =>
      obtain ⟨σ3, H3, I3, n3⟩ := q3
      obtain ⟨m', hm, w3⟩ := hN σ3 H3 n3
      exact ⟨m', hm, σ3, H3, I3, w3⟩
    | cont =>
      obtain ⟨σ3, H3, I3, n3⟩ := q3
      obtain ⟨m', hm, w3⟩ := hN σ3 H3 n3
      exact ⟨m', hm, σ3, H3, I3, w3⟩
    | brk => exact q3
    | ret v => exact q3
  | false =>
    rw [if_neg Bool.false_ne_true]
    exact wpAny_execs_nil ⟨σ1, H2, I2, q2⟩
end
structure It where
  go : Nat → Hp → Prop
  yld : Nat → Hp → V → Hp → Prop
  stop : Nat → Hp → Prop
noncomputable def FpOk (X : Cx) (pins : List (Addr × Obj)) (H : Hp) (b : Addr) : Prop :=
  H b = none ∧ b ≠ X.env.locals ∧ b ∉ X.fs ∧ (b ∈ X.ex ∨ X.s₀.heap.objs.size ≤ b) ∧ (∀ x c, X.env.cells.lookup x = some c → c ≠ b) ∧ ∀ p ∈ X.pn ++ pins, p.1 ≠ b
theorem Inv.fpOk {X : Cx} {pins : List (Addr × Obj)} {σ : St} {H H' : Hp} {s : Shared} {b : Addr} (I : Inv X pins σ H s) (hb : s.heap.objs.size ≤ b) (hn : H' b = none) : FpOk X pins H' b := by
  refine ⟨hn, Nat.ne_of_gt (Nat.lt_of_lt_of_le I.lt hb), I.nofs hb, .inr (Nat.le_trans I.sz hb), fun x c e z => ?_, fun p hp z => ?_⟩
  · obtain ⟨v, q⟩ := I.cell x c e
    exact absurd (Nat.lt_of_lt_of_le q.lt (by rw [z]; exact hb)) (Nat.lt_irrefl _)
  · exact absurd (Nat.lt_of_lt_of_le (Heap.lt_size (I.pin p hp).1) (by rw [z]; exact hb)) (Nat.lt_irrefl _)
structure Turn (P : Program) (w : World) (K : PySem.W.Frag) (tg : Expr) (J : It) (fp : List Addr) (it : Addr) (tn : Nat → Heap → Prop) : Prop where
  mem : it ∈ fp
  obj : ∀ i h, tn i h → ∀ b ∈ fp, ∃ o, h.get? b = some o ∧ ∀ v, o.data ≠ .cell v
  keep : ∀ i h h', tn i h → (∀ b ∈ fp, ∀ o, h.get? b = some o → h'.get? b = some o) → tn i h'
  item : ∀ (X : Cx), X.prog = P → X.w = w → X.K = K → X.calm = true → ∀ (i : Nat) (pins : List (Addr × Obj)) (s : Shared) (σ : St) (H : Hp) (E : Value → Shared → Prop), Inv X pins σ H s → (∀ b ∈ fp, FpOk X pins H b) → tn i s.heap → J.go i H →
    wpAny (model P w) X.A (pyNext (.ref it)) (fun r s1 => ∃ u, r = some u ∧
      wpAny (model P w) X.A (letOwnedTupleGo tg (.ref it) u) (fun _ s2 => ∃ x H', Inv X pins σ H' s2 ∧ RelV x u ∧ J.yld i H x H' ∧ tn (i + 1) s2.heap ∧ ∀ b ∈ fp, H' b = none) E s1) E s
  done : ∀ (X : Cx), X.prog = P → X.w = w → X.K = K → X.calm = true → ∀ (i : Nat) (pins : List (Addr × Obj)) (s : Shared) (σ : St) (H : Hp) (E : Value → Shared → Prop), Inv X pins σ H s → (∀ b ∈ fp, FpOk X pins H b) → tn i s.heap → J.stop i H →
    wpAny (model P w) X.A (pyNext (.ref it)) (fun r s1 => r = none ∧ Inv X pins σ H s1) E s
  self : ∀ (A : Around) (i : Nat) (s : Shared) (Q : Value → Shared → Prop) (E : Value → Shared → Prop), tn i s.heap → Q (.ref it) s → wpAny (model P w) A (pyIter (.ref it)) Q E s
noncomputable abbrev TI := St → Hp → (It → Hp → Prop) → Prop
noncomputable def PIE (X : Cx) (pins : List (Addr × Obj)) (σ : St) (tg : Expr) (R : It → Hp → Prop) (itv : Value) (s2 : Shared) : Prop :=
  ∃ (it : Addr) (fp : List Addr) (tn : Nat → Heap → Prop) (J : It) (H' : Hp), itv = .ref it ∧ Inv X pins σ H' s2 ∧ Turn X.prog X.w X.K tg J fp it tn ∧ tn 0 s2.heap ∧ (∀ b ∈ fp, FpOk X pins H' b) ∧ R J H'
noncomputable def PI (X : Cx) (tg iter : Expr) (wi : TI) : Prop :=
  ∀ (pins : List (Addr × Obj)) (s : Shared) (σ : St) (H : Hp) (R : It → Hp → Prop), Inv X pins σ H s → wi σ H R →
    wpAny (model X.prog X.w) X.A (eval iter X.env) (fun v s1 => wpAny (model X.prog X.w) X.A (pyIter v) (PIE X pins σ tg R) X.xe s1) X.xe s
theorem go_of {M : Model} {A : Around} {E : Value → Shared → Prop} {s : Shared} {tg : Expr} {it : Addr} {u : Value} {o : Obj} {n : String} {vs : Array Value} {Q : Unit → Shared → Prop} (ho : s.heap.get? it = some o) (hc : o.cls = .type n) (hd : o.data = .fields vs)
    (hn : ["enumerate", "zip", "dict_itemiterator", "dict_reverseitemiterator", "odict_iterator", "itertools.zip_longest", "itertools.pairwise"].contains n = false) (hQ : Q () s) : wpAny M A (letOwnedTupleGo tg (.ref it) u) Q E s := by
  unfold letOwnedTupleGo
  cases tg <;> first
    | exact wpAny_pure hQ
    | (cases u <;> first
        | exact wpAny_pure hQ
        | (refine wpAny_bind (wpAny_load ho ?_)
           rw [hc, hd]
           show wpAny M A (if (["enumerate", "zip", "dict_itemiterator", "dict_reverseitemiterator", "odict_iterator", "itertools.zip_longest", "itertools.pairwise"].contains n && vs[0]? == some (rawInt _)) = true then _ else _) Q E s
           rw [if_neg (by intro h; rw [hn, Bool.false_and] at h; cases h)]
           exact wpAny_pure hQ))
noncomputable def Itl (K : PySem.W.Frag) (a : Addr) : It :=
  ⟨fun i H => ∃ xs x, SqL K H a xs ∧ xs[i]? = some x, fun i H x H' => H' = H ∧ ∀ xs, SqL K H a xs → xs[i]? = some x, fun i H => ∃ xs, SqL K H a xs ∧ xs.length ≤ i⟩
noncomputable def Itr (lo : Int) (n : Nat) : It := ⟨fun i _ => i < n, fun i H x H' => H' = H ∧ x = .int (lo + i), fun i _ => n ≤ i⟩
theorem turn_list {P : Program} {w : World} {K : PySem.W.Frag} {tg : Expr} (a it : Addr) : Turn P w K tg (Itl K a) [it] it (fun i h => h.IsListIter it a i) where
  mem := by simp
  obj := fun i h st b hb => by
    have e : b = it := by simpa using hb
    subst e
    obtain ⟨o, e, c, d⟩ := st
    exact ⟨o, e, fun v z => by rw [d] at z; cases z⟩
  keep := fun i h h' st k => st.at fun o e => k it (by simp) o e
  item := by
    intro X hP hw hK hc i pins s σ H E I hf st hg
    subst hP hw hK
    obtain ⟨xs, x, hq, hx⟩ := hg
    obtain ⟨its, rv, p, hz⟩ := I.list hq
    obtain ⟨u, hu, ru⟩ := rv.get hx
    obtain ⟨f0, f1, f2, f3, f4, f5⟩ := hf it (by simp)
    refine wpAny_pyNext_list_item st p.isList (x := u) (by simpa using hu) fun h' st' sb => ?_
    have I1 : Inv X pins σ H { s with heap := h' } := I.turned (t' := s.toks) (fun b o hb e => (sb.2 b hb).trans e) f0 f1 f3 f4 f5
    obtain ⟨o, e, c, d⟩ := id st'
    exact ⟨u, rfl, go_of (s := { s with heap := h' }) e c d (by decide) ⟨x, H, I1, ru, ⟨rfl, fun ys hy => by rw [I.list_inj hy hq]; exact hx⟩, st', fun b hb => (hf b hb).1⟩⟩
  done := by
    intro X hP hw hK hc i pins s σ H E I hf st hg
    subst hP hw hK
    obtain ⟨xs, hq, hx⟩ := hg
    obtain ⟨its, rv, p, hz⟩ := I.list hq
    obtain ⟨f0, f1, f2, f3, f4, f5⟩ := hf it (by simp)
    have hl := rv.length
    exact wpAny_pyNext_list_end (I.ok.hd hc) st p.isList (by simp; omega) fun h' eb => ⟨rfl, I.turned (t' := s.toks) (fun b o hb e => eb b o hb e) f0 f1 f3 f4 f5⟩
  self := fun _ _ _ _ _ st h => wpAny_pyIter_listiter st h
theorem turn_range {P : Program} {w : World} {K : PySem.W.Frag} {tg : Expr} (it : Addr) (lo : Int) (n : Nat) : Turn P w K tg (Itr lo n) [it] it (fun i h => IsRangeIter h it (lo + (i : Nat) * 1) ((n : Int) - (i : Nat)) 1) where
  mem := by simp
  obj := fun i h st b hb => by
    have e : b = it := by simpa using hb
    subst e
    exact ⟨_, st, fun v z => by
      have z' : Data.fields _ = Data.cell v := z
      cases z'⟩
  keep := fun i h h' st k => k it (by simp) _ st
  item := by
    intro X hP hw hK hc i pins s σ H E I hf st hg
    subst hP hw hK
    obtain ⟨f0, f1, f2, f3, f4, f5⟩ := hf it (by simp)
    have W := Walks.range (prog := X.prog) (w := X.w) (I.ok.hd hc) it lo 1 n
    refine W.item i s _ _ hg st fun v h' tk hv st' kk => ?_
    obtain ⟨t, rfl⟩ := hv
    have I1 : Inv X pins σ H { s with heap := h', toks := tk } := I.turned (fun b o hb e => kk b o (by simpa using hb) e) f0 f1 f3 f4 f5
    refine ⟨_, rfl, go_of (s := { s with heap := h', toks := tk }) (n := "range_iterator") st' rfl rfl (by decide) ⟨.int (lo + i), H, I1, ⟨t, ?_⟩, ⟨rfl, rfl⟩, st', fun b hb => (hf b hb).1⟩⟩
    rw [Int.mul_one]
  done := by
    intro X hP hw hK hc i pins s σ H E I hf st hg
    subst hP hw hK
    obtain ⟨f0, f1, f2, f3, f4, f5⟩ := hf it (by simp)
    exact wpAny_pyNext_range_end (I.ok.hd hc) st (by have : n ≤ i := hg; omega) fun h' eb => ⟨rfl, I.turned (t' := s.toks) (fun b o hb e => eb b o hb e) f0 f1 f3 f4 f5⟩
  self := fun _ _ _ _ _ st h => wpAny_pyIter_rangeiter st h
end L2
namespace L2
open PySem PySem.Spec PyProof.Rows
section
variable {X : Cx} {tg : Expr}
noncomputable def iList (K : PySem.W.Frag) (tl : TE) : TI := fun σ H R => tl σ H fun x H1 => ∃ a, x = .ref a ∧ (∃ xs, SqL K H1 a xs) ∧ R (Itl K a) H1
theorem pi_list {l : Expr} {tl : TE} (hl : PE X l tl) : PI X tg l (iList X.K tl) := by
  intro pins s σ H R I h
  refine thn (hl pins s σ H _ I h) fun v s1 ⟨x, H1, I1, r1, q1⟩ => ?_
  obtain ⟨a, e, ⟨xs, hq⟩, q⟩ := q1
  subst e
  cases r1
  obtain ⟨its, rv, p, hz⟩ := I1.list hq
  refine wpAny_pyIter_list p.isList ?_
  refine ⟨s1.heap.objs.size, [s1.heap.objs.size], _, _, H1, rfl, I1.kept (t' := s1.toks) fun b o e => Heap.get?_push_of_some _ e, turn_list a _, ⟨_, Heap.get?_push_size _ rfl, rfl, rfl⟩, fun b hb => ?_, q⟩
  have e : b = s1.heap.objs.size := by simpa using hb
  subst e
  exact I1.fpOk (Nat.le_refl _) (I1.hok.fresh (Nat.le_refl _))
theorem range_it {pins : List (Addr × Obj)} {σ : St} {H : Hp} {s : Shared} {R : It → Hp → Prop} {E : Value → Shared → Prop} {lo hi : Int} {t u v : Tok} {tk : Nat} (I : Inv X pins σ H s) (h1 : -(2 ^ 62) ≤ lo) (h2 : lo < 2 ^ 62) (h3 : -(2 ^ 62) ≤ hi) (h4 : hi < 2 ^ 62)
    (q : R (Itr lo (hi - lo).toNat) H) : wpAny (model X.prog X.w) X.A (pyIter (.ref s.heap.objs.size)) (PIE X pins σ tg R) E { s with heap := s.heap.push { cls := .type "range", data := .fields #[.int lo t, .int hi u, .int 1 v] }, toks := tk } := by
  refine wpAny_pyIter_range (IsRange.new ..) (small_one h1 h2 h3 h4) ?_
  have I1 : Inv X pins σ H { s with heap := s.heap.push { cls := .type "range", data := .fields #[.int lo t, .int hi u, .int 1 v] }, toks := tk } := I.kept fun b o e => Heap.get?_push_of_some _ e
  refine ⟨(s.heap.push { cls := .type "range", data := .fields #[.int lo t, .int hi u, .int 1 v] }).objs.size, [(s.heap.push { cls := .type "range", data := .fields #[.int lo t, .int hi u, .int 1 v] }).objs.size], _, _, H, rfl,
    I1.kept (t' := tk) fun b o e => Heap.get?_push_of_some _ e, turn_range _ lo (hi - lo).toNat, ?_, fun b hb => ?_, q⟩
  · have e1 : lo + ((0 : Nat) : Int) * 1 = lo := by simp
    have e2 : (((hi - lo).toNat : Nat) : Int) - ((0 : Nat) : Int) = Builtin.Range.rangeSize lo hi 1 := by rw [rangeSize_one]; split <;> omega
    show IsRangeIter _ _ (lo + ((0 : Nat) : Int) * 1) ((((hi - lo).toNat : Nat) : Int) - ((0 : Nat) : Int)) 1
    rw [e1, e2]
    exact Heap.get?_push_size _ rfl
  · have e : b = (s.heap.push { cls := .type "range", data := .fields #[.int lo t, .int hi u, .int 1 v] }).objs.size := by simpa using hb
    subst e
    exact I1.fpOk (Nat.le_refl _) (I1.hok.fresh (Nat.le_refl _))
noncomputable def iRng1 (ta : TA) : TI := fun σ H R => ta σ H fun vs H1 => ∃ j : Int, vs = [.int j] ∧ -(2 ^ 62) ≤ j ∧ j < 2 ^ 62 ∧ R (Itr 0 j.toNat) H1
noncomputable def iRng2 (ta : TA) : TI := fun σ H R => ta σ H fun vs H1 => ∃ i j : Int, vs = [.int i, .int j] ∧ (-(2 ^ 62) ≤ i ∧ i < 2 ^ 62 ∧ -(2 ^ 62) ≤ j ∧ j < 2 ^ 62) ∧ R (Itr i (j - i).toNat) H1
theorem pi_range1 {a : Expr} {ta : TA} {p pos : Pos} (hg : Gl X "range") (hm : X.mg "range" = none) (ha : PA X [a] ta) (hs : starEach [a] X.env = [(false, eval a X.env)] := by rfl) : PI X tg (.Call (.Name "range" p) [a] [] pos) (iRng1 ta) := by
  intro pins s σ H R I h
  refine Call_ (ld_blt I hg hm boot_range (PyProof.Rows.callWith_type1 (thn (ha pos pins s σ H _ I h) fun us s1 ⟨vs, H1, I1, r1, q1⟩ => ?_) hs rfl))
  obtain ⟨j, e, q1, q2, q⟩ := q1
  subst e
  cases r1 with
  | cons r rr =>
    cases rr
    obtain ⟨t, rfl⟩ := r
    exact call_range_1 (range_it I1 (by omega) (by omega) q1 q2 (by simpa using q))
theorem pi_range2 {a b : Expr} {ta : TA} {p pos : Pos} (hg : Gl X "range") (hm : X.mg "range" = none) (ha : PA X [a, b] ta) (hs : starEach [a, b] X.env = [(false, eval a X.env), (false, eval b X.env)] := by rfl) (hs2 : starEach [b] X.env = [(false, eval b X.env)] := by rfl) :
    PI X tg (.Call (.Name "range" p) [a, b] [] pos) (iRng2 ta) := by
  intro pins s σ H R I h
  refine Call_ (ld_blt I hg hm boot_range (PyProof.Rows.callWith_type1 (thn (ha pos pins s σ H _ I h) fun us s1 ⟨vs, H1, I1, r1, q1⟩ => ?_) (by rw [hs, hs2]) (by rw [hs2]; rfl)))
  obtain ⟨i, j, e, ⟨q1, q2, q3, q4⟩, q⟩ := q1
  subst e
  cases r1 with
  | cons r rr =>
    cases rr with
    | cons r' rr =>
      cases rr
      obtain ⟨t, rfl⟩ := r
      obtain ⟨t', rfl⟩ := r'
      exact call_range_2 (range_it I1 q1 q2 q3 q4 q)
noncomputable def tFor (wi : TI) (g : TG) (tb : TS) : TS := fun D σ H => wi σ H fun J H1 => ∃ W : Nat → Nat → St → Hp → Prop, (∃ m, W 0 m σ H1) ∧ ∀ i m σ H, W i m σ H →
  (J.stop i H ∧ D.nx σ H) ∨ (J.go i H ∧ ∃ N : St → Hp → Prop, (∀ σ' H', N σ' H' → ∃ m', m' < m ∧ W (i + 1) m' σ' H') ∧ ∀ x H', J.yld i H x H' → g x σ H' fun σ2 H2 => tb { D with nx := N, ct := N, bk := D.nx } σ2 H2)
noncomputable def pinsAt (fp : List Addr) (h : Heap) : List (Addr × Obj) := fp.filterMap fun b => (h.get? b).map fun o => (b, o)
theorem mem_pinsAt {fp : List Addr} {h : Heap} {b : Addr} {o : Obj} (hb : b ∈ fp) (e : h.get? b = some o) : (b, o) ∈ pinsAt fp h := List.mem_filterMap.mpr ⟨b, hb, by rw [e]; rfl⟩
theorem of_pinsAt {fp : List Addr} {h : Heap} {p : Addr × Obj} (hp : p ∈ pinsAt fp h) : p.1 ∈ fp ∧ h.get? p.1 = some p.2 := by
  obtain ⟨b, hb, e⟩ := List.mem_filterMap.mp hp
  cases q : h.get? b with
  | none => rw [q] at e; cases e
  | some o =>
    rw [q] at e
    have e' : (b, o) = p := Option.some.inj e
    subst e'
    exact ⟨hb, q⟩
theorem Inv.pinned {pins : List (Addr × Obj)} {σ : St} {H : Hp} {s : Shared} {fp : List Addr} (I : Inv X pins σ H s) (hf : ∀ b ∈ fp, FpOk X pins H b) (ho : ∀ b ∈ fp, ∃ o, s.heap.get? b = some o ∧ ∀ v, o.data ≠ .cell v) : Inv X (pins ++ pinsAt fp s.heap) σ H s :=
  I.pins_of fun p hp => (List.mem_append.mp hp).elim (fun z => I.pin p (List.mem_append_right _ z)) fun z => by
    obtain ⟨hb, e⟩ := of_pinsAt z
    obtain ⟨f0, f1, f2, _⟩ := hf p.1 hb
    obtain ⟨o, e', d⟩ := ho p.1 hb
    rw [e] at e'; cases e'
    exact ⟨e, f0, f1, f2, d⟩
theorem Inv.unpinned {pins pl : List (Addr × Obj)} {σ : St} {H : Hp} {s : Shared} (I : Inv X (pins ++ pl) σ H s) : Inv X pins σ H s := I.pins_of fun p hp => I.pin p (List.mem_append_right _ (List.mem_append_left _ hp))
theorem ps_for {iter : Expr} {body : List Stmt} {wi : TI} {g : TG} {tb : TS} {pos : Pos} (hp : PassesOwn (model X.prog X.w) X.A X.env X.xe) (hc : X.calm = true) (hi : PI X tg iter wi) (hg : PG X tg g) (hb : PSs X body tb)
    (hs : ∀ x, foldedSetIterable iter X.env x = pure x := by intro _; rfl) : PS X (.For tg iter body [] pos) (tFor wi g tb) := by
  intro pins s σ H D I h
  refine wpAny_For (thn (hi pins s σ H _ I h) fun v s1 h1 => thn h1 fun itv s2 h2 => ?_) hs
  obtain ⟨it, fp, tn, J, H2, e, I2, T, st2, f2, W, ⟨m0, w0⟩, turn⟩ := h2
  subst e
  have stat : ∀ {H' : Hp}, (∀ b ∈ fp, H' b = none) → ∀ b ∈ fp, FpOk X pins H' b := fun hn b hb => ⟨hn b hb, (f2 b hb).2⟩
  refine codeAny_forLoop_any (fun n s' => ∃ i σ' H', Inv X pins σ' H' s' ∧ tn i s'.heap ∧ (∀ b ∈ fp, H' b = none) ∧ W i n σ' H') ?_ m0 ⟨0, σ, H2, I2, st2, fun b hb => (f2 b hb).1, w0⟩
  rintro n s3 ⟨i, σ3, H3, I3, st3, fr3, w3⟩
  rcases turn i n σ3 H3 w3 with ⟨stop, qn⟩ | ⟨go, N, hN, step⟩
  · refine wpAny_passesOwn hp (thn (T.done X rfl rfl rfl hc i pins s3 σ3 H3 X.xe I3 (stat fr3) st3 stop) fun r s4 ⟨hr, I4⟩ => ?_)
    subst hr
    exact wpAny_execs_nil ⟨σ3, H3, I4, qn⟩
  · refine wpAny_passesOwn hp (thn (T.item X rfl rfl rfl hc i pins s3 σ3 H3 X.xe I3 (stat fr3) st3 go) fun r s4 ⟨u, hr, h4⟩ => ?_)
    subst hr
    refine wpAny_passesOwn hp (thn h4 fun _ s5 ⟨x, H5, I5, r5, y5, st5, fr5⟩ => ?_)
    have I5' := I5.pinned (stat fr5) (T.obj _ _ st5)
    refine wpAny_passesOwn hp (thn (hg _ s5 σ3 H5 x u _ I5' r5 (step x H5 y5)) fun _ s6 ⟨σ6, H6, I6, q6⟩ => ?_)
    refine wpAny_passesOwn hp (thn (hb _ s6 σ6 H6 _ I6 q6) fun f s7 q7 => ?_)
    have again : ∀ {σ7 : St} {H7 : Hp}, Inv X (pins ++ pinsAt fp s5.heap) σ7 H7 s7 → N σ7 H7 → ∃ m, m < n ∧ ∃ i σ' H', Inv X pins σ' H' s7 ∧ tn i s7.heap ∧ (∀ b ∈ fp, H' b = none) ∧ W i m σ' H' := fun {σ7 H7} I7 n7 => by
      obtain ⟨m', hm, w7⟩ := hN σ7 H7 n7
      refine ⟨m', hm, i + 1, σ7, H7, I7.unpinned, T.keep _ _ _ st5 fun b hb o e => (I7.pin (b, o) (List.mem_append_right _ (List.mem_append_right _ (mem_pinsAt hb e)))).1, fun b hb => ?_, w7⟩
      obtain ⟨o, e, d⟩ := T.obj _ _ st5 b hb
      exact (I7.pin (b, o) (List.mem_append_right _ (List.mem_append_right _ (mem_pinsAt hb e)))).2.1
    cases f with
    | next => obtain ⟨σ7, H7, I7, n7⟩ := q7; exact again I7 n7
    | cont => obtain ⟨σ7, H7, I7, n7⟩ := q7; exact again I7 n7
    | brk => obtain ⟨σ7, H7, I7, q7⟩ := q7; exact ⟨σ7, H7, I7.unpinned, q7⟩
    | ret v => obtain ⟨x7, σ7, H7, I7, r7, q7⟩ := q7; exact ⟨x7, σ7, H7, I7.unpinned, r7, q7⟩
end
theorem for_range {lo : Int} {n : Nat} {g : TG} {tb : TS} {D : Ends} {σ : St} {H : Hp} (Pv : Nat → St → Hp → Prop) (h0 : Pv 0 σ H)
    (hs : ∀ i σ H, i < n → Pv i σ H → g (.int (lo + i)) σ H fun σ2 H2 => tb { D with nx := Pv (i + 1), ct := Pv (i + 1), bk := D.nx } σ2 H2) (hd : ∀ σ H, Pv n σ H → D.nx σ H) :
    ∃ W : Nat → Nat → St → Hp → Prop, (∃ m, W 0 m σ H) ∧ ∀ i m σ H, W i m σ H →
      ((Itr lo n).stop i H ∧ D.nx σ H) ∨ ((Itr lo n).go i H ∧ ∃ N : St → Hp → Prop, (∀ σ' H', N σ' H' → ∃ m', m' < m ∧ W (i + 1) m' σ' H') ∧ ∀ x H', (Itr lo n).yld i H x H' → g x σ H' fun σ2 H2 => tb { D with nx := N, ct := N, bk := D.nx } σ2 H2) := by
  refine ⟨fun i m σ H => m = n - i ∧ i ≤ n ∧ Pv i σ H, ⟨n, by simp, Nat.zero_le _, h0⟩, ?_⟩
  rintro i m σ H ⟨rfl, hi, p⟩
  by_cases hlt : i < n
  · refine .inr ⟨hlt, Pv (i + 1), fun σ' H' p' => ⟨n - (i + 1), by omega, rfl, hlt, p'⟩, fun x H' y => ?_⟩
    obtain ⟨e, y⟩ := y
    subst e y
    exact hs i σ _ hlt p
  · have e : i = n := by omega
    subst e
    exact .inl ⟨Nat.le_refl _, hd σ H p⟩
end L2
namespace L2
open PySem PySem.Spec PyProof.Rows
noncomputable abbrev R2 := V → V → Hp → VK → Prop
noncomputable def OpR (X : Cx) (f : Value → Value → Sem Value) (r : R2) : Prop :=
  ∀ (pins : List (Addr × Obj)) (s : Shared) (σ : St) (H : Hp) (x y : V) (v u : Value) (Q : VK), Inv X pins σ H s → RelV x v → RelV y u → r x y H Q →
    wpAny (model X.prog X.w) X.A (f v u) (EP X pins σ Q) X.xe s
noncomputable def CallR (X : Cx) (f : Value) (r : List V → Hp → VK → Prop) : Prop :=
  ∀ (pins : List (Addr × Obj)) (s : Shared) (σ : St) (H : Hp) (xs : List V) (us : List Value) (Q : VK), Inv X pins σ H s → Vals xs us → r xs H Q →
    wpAny (model X.prog X.w) X.A (call f us) (EP X pins σ Q) X.xe s
noncomputable def TruR (X : Cx) (r : V → Hp → (Bool → Hp → Prop) → Prop) : Prop :=
  ∀ (pins : List (Addr × Obj)) (s : Shared) (σ : St) (H : Hp) (x : V) (v : Value) (Q : Bool → Hp → Prop), Inv X pins σ H s → RelV x v → r x H Q →
    wpAny (model X.prog X.w) X.A (truthy v) (TP X pins σ Q) X.xe s
noncomputable def tOp (r : R2) (ta tb : TE) : TE := fun σ H Q => ta σ H fun x H1 => tb σ H1 fun y H2 => r x y H2 Q
noncomputable def rI (C : Int → Int → Prop) (g : Int → Int → V) : R2 := fun x y H Q => ∃ i j, x = .int i ∧ y = .int j ∧ C i j ∧ Q (g i j) H
noncomputable def rI0 (g : Int → Int → V) : R2 := fun x y H Q => ∃ i j, x = .int i ∧ y = .int j ∧ Q (g i j) H
section
variable {X : Cx} {a b c : Expr} {ta tb tc : TE} {pos : Pos}
theorem binT (ha : PE X a ta) (hb : PE X b tb) {pins : List (Addr × Obj)} {s : Shared} {σ : St} {H : Hp} {R : V → V → Hp → Prop} (I : Inv X pins σ H s)
    (h : ta σ H fun x H1 => tb σ H1 fun y H2 => R x y H2) {Q : Value → Shared → Prop} {f : Value → Value → Sem Value}
    (hf : ∀ v u s2 x y H2, Inv X pins σ H2 s2 → RelV x v → RelV y u → R x y H2 → wpAny (model X.prog X.w) X.A (f v u) Q X.xe s2) :
    wpAny (model X.prog X.w) X.A (eval a X.env) (fun v s₁ => wpAny (model X.prog X.w) X.A (eval b X.env) (fun u s₂ => wpAny (model X.prog X.w) X.A (f v u) Q X.xe s₂) X.xe s₁) X.xe s := by
  refine thn (ha pins s σ H _ I h) fun v s1 ⟨x, H1, I1, r1, q1⟩ => ?_
  refine thn (hb pins s1 σ H1 _ I1 q1) fun u s2 ⟨y, H2, I2, r2, q2⟩ => ?_
  exact hf v u s2 x y H2 I2 r1 r2 q2
theorem pe_op {op : Operator} {r : R2} (ho : OpR X (binaryOp op) r) (ha : PE X a ta) (hb : PE X b tb) : PE X (.BinOp a op b pos) (tOp r ta tb) := by
  intro pins s σ H Q I h
  exact wpAny_BinOp (binT ha hb I h fun v u s2 x y H2 I2 rx ry q => ho pins s2 σ H2 x y v u Q I2 rx ry q)
theorem opI {f : Value → Value → Sem Value} {C : Int → Int → Prop} {g : Int → Int → Int}
    (rule : ∀ (i j : Int) (t u : Tok) (s : Shared) (Q : Value → Shared → Prop) (E : Value → Shared → Prop), C i j → Q (.int (g i j) s.toks) { s with toks := s.toks + 1 } → wpAny (model X.prog X.w) X.A (f (.int i t) (.int j u)) Q E s) :
    OpR X f (rI C fun i j => .int (g i j)) := by
  intro pins s σ H x y v u Q I rx ry h
  obtain ⟨i, j, rfl, rfl, hc, q⟩ := h
  obtain ⟨t, rfl⟩ := rx
  obtain ⟨t', rfl⟩ := ry
  exact rule i j t t' s _ _ hc ⟨.int (g i j), H, I.tok _, ⟨_, rfl⟩, q⟩
theorem opI0 {f : Value → Value → Sem Value} {g : Int → Int → Int}
    (rule : ∀ (i j : Int) (t u : Tok) (s : Shared) (Q : Value → Shared → Prop) (E : Value → Shared → Prop), Q (.int (g i j) s.toks) { s with toks := s.toks + 1 } → wpAny (model X.prog X.w) X.A (f (.int i t) (.int j u)) Q E s) :
    OpR X f (rI0 fun i j => .int (g i j)) := by
  intro pins s σ H x y v u Q I rx ry h
  obtain ⟨i, j, rfl, rfl, q⟩ := h
  obtain ⟨t, rfl⟩ := rx
  obtain ⟨t', rfl⟩ := ry
  exact rule i j t t' s _ _ ⟨.int (g i j), H, I.tok _, ⟨_, rfl⟩, q⟩
theorem opB0 {f : Value → Value → Sem Value} {g : Int → Int → Bool}
    (rule : ∀ (i j : Int) (t u : Tok) (s : Shared) (Q : Value → Shared → Prop) (E : Value → Shared → Prop), Q (.bool (g i j)) s → wpAny (model X.prog X.w) X.A (f (.int i t) (.int j u)) Q E s) :
    OpR X f (rI0 fun i j => .bl (g i j)) := by
  intro pins s σ H x y v u Q I rx ry h
  obtain ⟨i, j, rfl, rfl, q⟩ := h
  obtain ⟨t, rfl⟩ := rx
  obtain ⟨t', rfl⟩ := ry
  exact rule i j t t' s _ _ ⟨.bl (g i j), H, I, rfl, q⟩
noncomputable def CDiv (i j : Int) : Prop := 0 < j ∧ j < 1073741824
noncomputable def CPow (i j : Int) : Prop := 0 ≤ j ∧ j ≤ 1000000 ∧ i.natAbs < 2 ^ 64
noncomputable def CMul (i j : Int) : Prop := (-(2 ^ 64) < i ∧ i < 2 ^ 64) ∨ (-(2 ^ 64) < j ∧ j < 2 ^ 64)
theorem CMul.ok {i j : Int} (h : CMul i j) : IntMulOk i j := by
  rcases h with ⟨h1, h2⟩ | ⟨h1, h2⟩
  · exact .of_left (intBits_le_64 h1 h2)
  · exact .of_right (intBits_le_64 h1 h2)
theorem op_add : OpR X (binaryOp .Add) (rI0 fun i j => .int (i + j)) := opI0 fun _ _ _ _ _ _ _ q => add_int q
theorem op_sub : OpR X (binaryOp .Sub) (rI0 fun i j => .int (i - j)) := opI0 fun _ _ _ _ _ _ _ q => sub_int q
theorem op_mul : OpR X (binaryOp .Mult) (rI CMul fun i j => .int (i * j)) := opI fun _ _ _ _ _ _ _ hc q => mul_int q hc.ok
theorem op_fdiv : OpR X (binaryOp .FloorDiv) (rI CDiv fun i j => .int (i / j)) := opI fun i j _ _ _ _ _ hc q => by
  have h1 : (0 : Int) < j := hc.1
  have h2 : j < 1073741824 := hc.2
  exact floordiv_int (by omega) (by rw [Int.fdiv_eq_ediv_of_nonneg i (by omega)]; exact q) (.inl (PyProof.noPylong_small (by omega)))
theorem op_mod : OpR X (binaryOp .Mod) (rI (fun _ j => 0 < j) fun i j => .int (i % j)) := opI fun i j _ _ _ _ _ hc q => by
  have h1 : (0 : Int) < j := hc
  exact mod_int' (by omega) (by rw [Int.fmod_eq_emod_of_nonneg i (by omega)]; exact q)
theorem op_pow : OpR X (binaryOp .Pow) (rI CPow fun i j => .int (i ^ j.toNat)) := opI fun _ _ _ _ _ _ _ hc q => pow_int_small hc.1 hc.2.1 hc.2.2 q
end
noncomputable def scal : V → V → Bool
  | .non, .non => true | .non, .int _ => true | .int _, .non => true | .non, .bl _ => true | .bl _, .non => true | .non, .str _ => true | .str _, .non => true
  | .int _, .int _ => true | .bl _, .bl _ => true | .str _, .str _ => true | .byt _, .byt _ => true
  | .int _, .str _ => true | .str _, .int _ => true | .bl _, .str _ => true | .str _, .bl _ => true
  | _, _ => false
noncomputable def rEq : R2 := fun x y H Q => scal x y = true ∧ Q (.bl (decide (x = y))) H
noncomputable def rNe : R2 := fun x y H Q => scal x y = true ∧ Q (.bl (!decide (x = y))) H
theorem dec_int {i j : Int} : decide (V.int i = V.int j) = (i == j) := by
  rw [Bool.eq_iff_iff]
  simp
theorem dec_bl {i j : Bool} : decide (V.bl i = V.bl j) = (i == j) := by
  rw [Bool.eq_iff_iff]
  simp
theorem dec_str {i j : Str} : decide (V.str i = V.str j) = (i == j) := by
  rw [Bool.eq_iff_iff]
  simp
theorem dec_byt {i j : Array UInt8} : decide (V.byt i = V.byt j) = (i.toList == j.toList) := by
  rw [Bool.eq_iff_iff]
  cases i
  cases j
  simp
section
variable {X : Cx} {a b c : Expr} {ta tb tc : TE} {pos : Pos}
theorem fin_bl {pins : List (Addr × Obj)} {σ : St} {H : Hp} {s : Shared} {Q : VK} {k k' : Bool} (I : Inv X pins σ H s) (q : Q (.bl k) H) (e : k = k') : EP X pins σ Q (.bool k') s := by
  subst e
  exact ⟨.bl k, H, I, rfl, q⟩
theorem op_eq : OpR X (compareOp .Eq) rEq := by
  intro pins s σ H x y v u Q I rx ry h
  obtain ⟨hs, q⟩ := h
  cases x with
  | non =>
    cases rx
    cases y with
    | non => cases ry; exact PySem.EqNone.eq_none_none (fin_bl I q (by simp))
    | bl j => cases ry; exact PySem.EqNone.eq_none_bool (fin_bl I q (by simp))
    | int j => obtain ⟨t', rfl⟩ := ry; exact PySem.EqNone.eq_none_int (fin_bl I q (by simp))
    | str j => obtain ⟨t', rfl⟩ := ry; exact PySem.EqNone.eq_none_str (fin_bl I q (by simp))
    | _ => exact absurd (show false = true from hs) Bool.false_ne_true
  | bl i =>
    cases rx
    cases y with
    | non => cases ry; exact PySem.EqNone.eq_bool_none (fin_bl I q (by simp))
    | bl j => cases ry; exact eq_bool (fin_bl I q dec_bl)
    | str j => obtain ⟨t', rfl⟩ := ry; exact PySem.EqMixed.eq_bool_str (fin_bl I q (by simp))
    | _ => exact absurd (show false = true from hs) Bool.false_ne_true
  | int i =>
    obtain ⟨t, rfl⟩ := rx
    cases y with
    | non => cases ry; exact PySem.EqNone.eq_int_none (fin_bl I q (by simp))
    | int j => obtain ⟨t', rfl⟩ := ry; exact eq_int (fin_bl I q dec_int)
    | str j => obtain ⟨t', rfl⟩ := ry; exact PySem.EqMixed.eq_int_str (fin_bl I q (by simp))
    | _ => exact absurd (show false = true from hs) Bool.false_ne_true
  | str i =>
    obtain ⟨t, rfl⟩ := rx
    cases y with
    | non => cases ry; exact PySem.EqNone.eq_str_none (fin_bl I q (by simp))
    | bl j => cases ry; exact PySem.EqMixed.eq_str_bool (fin_bl I q (by simp))
    | int j => obtain ⟨t', rfl⟩ := ry; exact PySem.EqMixed.eq_str_int (fin_bl I q (by simp))
    | str j => obtain ⟨t', rfl⟩ := ry; exact eq_str (fin_bl I q dec_str)
    | _ => exact absurd (show false = true from hs) Bool.false_ne_true
  | byt i =>
    obtain ⟨t, rfl⟩ := rx
    cases y with
    | byt j => obtain ⟨t', rfl⟩ := ry; exact PySem.W.eq_bytes (fin_bl I q dec_byt)
    | _ => exact absurd (show false = true from hs) Bool.false_ne_true
  | _ => cases y <;> exact absurd (show false = true from hs) Bool.false_ne_true
theorem op_ne : OpR X (compareOp .NotEq) rNe := by
  intro pins s σ H x y v u Q I rx ry h
  obtain ⟨hs, q⟩ := h
  cases x with
  | non =>
    cases rx
    cases y with
    | non => cases ry; exact PySem.EqNone.ne_none_none (fin_bl I q (by simp))
    | bl j => cases ry; exact PySem.EqNone.ne_none_bool (fin_bl I q (by simp))
    | int j => obtain ⟨t', rfl⟩ := ry; exact PySem.EqNone.ne_none_int (fin_bl I q (by simp))
    | str j => obtain ⟨t', rfl⟩ := ry; exact PySem.EqNone.ne_none_str (fin_bl I q (by simp))
    | _ => exact absurd (show false = true from hs) Bool.false_ne_true
  | bl i =>
    cases rx
    cases y with
    | non => cases ry; exact PySem.EqNone.ne_bool_none (fin_bl I q (by simp))
    | bl j => cases ry; exact ne_bool (fin_bl I q (congrArg not dec_bl))
    | str j => obtain ⟨t', rfl⟩ := ry; exact PySem.EqMixed.ne_bool_str (fin_bl I q (by simp))
    | _ => exact absurd (show false = true from hs) Bool.false_ne_true
  | int i =>
    obtain ⟨t, rfl⟩ := rx
    cases y with
    | non => cases ry; exact PySem.EqNone.ne_int_none (fin_bl I q (by simp))
    | int j => obtain ⟨t', rfl⟩ := ry; exact ne_int (fin_bl I q (congrArg not dec_int))
    | str j => obtain ⟨t', rfl⟩ := ry; exact PySem.EqMixed.ne_int_str (fin_bl I q (by simp))
    | _ => exact absurd (show false = true from hs) Bool.false_ne_true
  | str i =>
    obtain ⟨t, rfl⟩ := rx
    cases y with
    | non => cases ry; exact PySem.EqNone.ne_str_none (fin_bl I q (by simp))
    | bl j => cases ry; exact PySem.EqMixed.ne_str_bool (fin_bl I q (by simp))
    | int j => obtain ⟨t', rfl⟩ := ry; exact PySem.EqMixed.ne_str_int (fin_bl I q (by simp))
    | str j => obtain ⟨t', rfl⟩ := ry; exact ne_str (fin_bl I q (congrArg not dec_str))
    | _ => exact absurd (show false = true from hs) Bool.false_ne_true
  | byt i =>
    obtain ⟨t, rfl⟩ := rx
    cases y with
    | byt j => obtain ⟨t', rfl⟩ := ry; exact PySem.W.ne_bytes (fin_bl I q (congrArg not dec_byt))
    | _ => exact absurd (show false = true from hs) Bool.false_ne_true
  | _ => cases y <;> exact absurd (show false = true from hs) Bool.false_ne_true
theorem op_lt : OpR X (compareOp .Lt) (rI0 fun i j => .bl (decide (i < j))) := opB0 fun _ _ _ _ _ _ _ q => lt_int q
theorem op_le : OpR X (compareOp .LtE) (rI0 fun i j => .bl (decide (i ≤ j))) := opB0 fun _ _ _ _ _ _ _ q => le_int q
theorem op_gt : OpR X (compareOp .Gt) (rI0 fun i j => .bl (decide (j < i))) := opB0 fun _ _ _ _ _ _ _ q => gt_int q
theorem op_isN : OpR X (compareOp .Is) (fun x y H Q => y = .non ∧ Q (.bl (decide (x = .non))) H) := by
  intro pins s σ H x y v u Q I rx ry h
  obtain ⟨rfl, q⟩ := h
  cases ry
  refine is_none_gen (fin_bl I q ?_)
  cases x <;> first
    | (cases rx; rfl)
    | (obtain ⟨t, rfl⟩ := rx; rfl)
theorem nomark (b : Expr) {op : CmpOp} (h : op ≠ .In := by decide) (h2 : op ≠ .NotIn := by decide) : behindInMarks op b = false := by
  have e1 : (op == CmpOp.In) = false := by cases op <;> first | rfl | exact absurd rfl h
  have e2 : (op == CmpOp.NotIn) = false := by cases op <;> first | rfl | exact absurd rfl h2
  cases b <;> simp [behindInMarks, e1, e2]
theorem pe_cmpR {op : CmpOp} {r : R2} (ho : OpR X (compareOp op) r) (ha : PE X a ta) (hb : PE X b tb) (hm : behindInMarks op b = false) : PE X (.Compare a [op] [b] pos) (tOp r ta tb) := by
  intro pins s σ H Q I h
  exact wpAny_Compare1 (binT ha hb I h fun v u s2 x y H2 I2 rx ry q => ho pins s2 σ H2 x y v u Q I2 rx ry q) hm
noncomputable def tTest (t : TE) : TT := fun σ H Q => t σ H fun x H' => ∃ k, x = .bl k ∧ Q k H'
theorem pt_cmpR {op : CmpOp} {r : R2} (ho : OpR X (compareOp op) r) (ha : PE X a ta) (hb : PE X b tb) (hm : behindInMarks op b = false) : PT X (.Compare a [op] [b] pos) (tTest (tOp r ta tb)) := by
  intro pins s σ H Q I h
  refine wpAny_isTrue_Compare1 (thn (ha pins s σ H _ I h) fun v s1 ⟨x, H1, I1, r1, q1⟩ => thn (hb pins s1 σ H1 _ I1 q1) fun u s2 ⟨y, H2, I2, r2, q2⟩ =>
    thn (ho pins s2 σ H2 x y v u _ I2 r1 r2 q2) fun c s3 ⟨z, H3, I3, r3, k, e, q3⟩ => ?_) hm
  subst e
  cases r3
  exact wpAny_truthy_bool ⟨H3, I3, q3⟩
noncomputable def tChain (r r' : R2) (ta tb tc : TE) : TE := fun σ H Q => ta σ H fun x H1 => tb σ H1 fun y H2 => r x y H2 fun z H3 => ∃ k, z = .bl k ∧
  (if k = true then tc σ H3 fun w' H4 => r' y w' H4 Q else Q (.bl false) H3)
theorem pt_chain {op op' : CmpOp} {r r' : R2} (ho : OpR X (compareOp op) r) (ho' : OpR X (compareOp op') r') (ha : PE X a ta) (hb : PE X b tb) (hc : PE X c tc)
    (hm : lastMarks [op, op'] [b, c] = false := by with_unfolding_all rfl) : PT X (.Compare a [op, op'] [b, c] pos) (tTest (tChain r r' ta tb tc)) := by
  intro pins s σ H Q I h
  refine isTrue_chain (thn (ha pins s σ H _ I h) fun v s1 ⟨x, H1, I1, r1, q1⟩ => test_link (thn (hb pins s1 σ H1 _ I1 q1) fun u s2 ⟨y, H2, I2, r2, q2⟩ =>
    thn (ho pins s2 σ H2 x y v u _ I2 r1 r2 q2) fun d s3 ⟨z, H3, I3, r3, k, e, q3⟩ => ?_)) hm
  subst e
  cases r3
  refine wpAny_truthy_bool ?_
  cases k with
  | false =>
    obtain ⟨k', e', q'⟩ := q3
    cases e'
    exact ite_ff ⟨H3, I3, q'⟩
  | true =>
    refine ite_tt (test_last (thn (hc pins s3 σ H3 _ I3 q3) fun w' s4 ⟨z', H4, I4, r4, q4⟩ => thn (ho' pins s4 σ H4 y z' u w' _ I4 r2 r4 q4) fun d' s5 ⟨z2, H5, I5, r5, k2, e2, q5⟩ => ?_))
    subst e2
    cases r5
    exact wpAny_truthy_bool ⟨H5, I5, q5⟩
noncomputable def TruV (K : PySem.W.Frag) (x : V) (H : Hp) (k : Bool) : Prop :=
  match x with
  | .non => k = false
  | .bl b => k = b
  | .int i => k = (i != 0)
  | .str y => y.length ≤ sizeLine ∧ k = ((y.length : Int) != 0)
  | .byt y => y.size ≤ sizeLine ∧ k = ((y.size : Int) != 0)
  | .ref p => (∃ xs, SqL K H p xs ∧ k = !xs.isEmpty) ∨ (∃ xs, SqT K H p xs ∧ k = !xs.isEmpty) ∨ ∃ kvs, H p = some (.dK kvs) ∧ k = !kvs.isEmpty
  | _ => False
theorem isEmpty_kv {κ : Type} {kvs : List (κ × V)} {vs : List (κ × Value)} (r : KV kvs vs) : (!vs.isEmpty) = !kvs.isEmpty := by
  cases r <;> rfl
theorem isEmpty_of {xs : List V} {its : List Value} (r : Vals xs its) : (!its.toArray.isEmpty) = !xs.isEmpty := by
  cases r <;> simp
theorem line63 : (sizeLine : Nat) < 2 ^ 63 := by rw [sizeLine_eq]; decide
theorem tru_ok : TruR X (fun x H Q => ∃ k, TruV X.K x H k ∧ Q k H) := by
  intro pins s σ H x v Q I rx h
  obtain ⟨k, e, q⟩ := h
  have hl := line63
  have hs : sizeLine = 16777216 := sizeLine_eq
  cases x with
  | non =>
    cases rx
    have e' : k = false := e
    subst e'
    exact truthy_none ⟨H, I, q⟩
  | bl b =>
    cases rx
    have e' : k = b := e
    subst e'
    exact wpAny_truthy_bool ⟨H, I, q⟩
  | int i =>
    obtain ⟨t, rfl⟩ := rx
    have e' : k = (i != 0) := e
    subst e'
    exact PySem.P.truthy_int ⟨H, I, q⟩
  | str y =>
    obtain ⟨t, rfl⟩ := rx
    obtain ⟨hy, e'⟩ : y.length ≤ sizeLine ∧ k = ((y.length : Int) != 0) := e
    subst e'
    exact PySem.P.truthy_str (by omega) ⟨H, I.tok _, q⟩
  | byt y =>
    obtain ⟨t, rfl⟩ := rx
    obtain ⟨hy, e'⟩ : y.size ≤ sizeLine ∧ k = ((y.size : Int) != 0) := e
    subst e'
    exact PySem.W.truthy_bytes (by omega) ⟨H, I.tok _, q⟩
  | ref p =>
    cases rx
    have e' : (∃ xs, SqL X.K H p xs ∧ k = !xs.isEmpty) ∨ (∃ xs, SqT X.K H p xs ∧ k = !xs.isEmpty) ∨ ∃ kvs, H p = some (.dK kvs) ∧ k = !kvs.isEmpty := e
    rcases e' with ⟨xs, hx, e'⟩ | ⟨xs, hx, e'⟩ | ⟨kvs, hx, e'⟩
    · subst e'
      obtain ⟨its, r, pl, hz⟩ := I.list hx
      have hlen := r.length
      exact wpAny_truthy_list pl.isList (by simp only [List.size_toArray]; omega) ⟨H, I.tok _, by rw [isEmpty_of r]; exact q⟩
    · subst e'
      obtain ⟨its, r, pl, hz⟩ := I.tuple hx
      have hlen := r.length
      exact truthy_tuple pl (by simp only [List.size_toArray]; omega) ⟨H, I.tok _, by rw [isEmpty_of r]; exact q⟩
    · subst e'
      obtain ⟨hz, hS, vs, r, m⟩ : kvs.length ≤ sizeLine ∧ (p == sysModules) = false ∧ ∃ vs, KV kvs vs ∧ s.heap.DictOf (mixKind X.prog X.w) p vs := I.hok p _ hx
      have hlen : kvs.length = vs.length := Paired.length r
      exact wpAny_truthy_dict hS m (by omega) ⟨H, I.tok _, by rw [isEmpty_kv r]; exact q⟩
  | _ => exact (show False from e).elim
theorem pt_truth (ha : PE X a ta) (he : ∀ whole, isTrue a X.env whole = (do let v ← whole; standAt a.pos; holding [v] (truthy v))) :
    PT X a (fun σ H Q => ta σ H fun x H' => ∃ k, TruV X.K x H' k ∧ Q k H') := by
  intro pins s σ H Q I h
  exact isTrue_plain (thn (ha pins s σ H _ I h) fun v s1 ⟨x, H1, I1, r1, q1⟩ => tru_ok pins s1 σ H1 x v Q I1 r1 q1) (he _)
theorem op_add_str : OpR X (binaryOp .Add) (fun x y H Q => ∃ i j, x = .str i ∧ y = .str j ∧ i.length + j.length ≤ sizeLine ∧ Q (.str (i ++ j)) H) := by
  intro pins s σ H x y v u Q I rx ry h
  obtain ⟨i, j, rfl, rfl, hz, q⟩ := h
  obtain ⟨t, rfl⟩ := rx
  obtain ⟨t', rfl⟩ := ry
  exact add_str (fun t' tk => ⟨.str (i ++ j), H, I.tok _, ⟨_, rfl⟩, q⟩) hz
theorem vals1 {x : V} {us : List Value} (r : Vals [x] us) : ∃ u, us = [u] ∧ RelV x u := by
  cases r with
  | cons r1 r2 => cases r2; exact ⟨_, rfl, r1⟩
theorem vals2 {x y : V} {us : List Value} (r : Vals [x, y] us) : ∃ u w', us = [u, w'] ∧ RelV x u ∧ RelV y w' := by
  cases r with
  | cons r1 r2 =>
    cases r2 with
    | cons r3 r4 => cases r4; exact ⟨_, _, rfl, r1, r3⟩
theorem call_max2 (hc : X.calm = true) : CallR X (.builtin "max") (fun xs H Q => ∃ i j, xs = [.int i, .int j] ∧ Q (.int (if j > i then j else i)) H) := by
  intro pins s σ H xs us Q I r h
  obtain ⟨i, j, rfl, q⟩ := h
  obtain ⟨u, w', rfl, ⟨t, rfl⟩, ⟨t', rfl⟩⟩ := vals2 r
  refine max_two_ints (I.ok.hd hc) fun h' tk k => ⟨_, H, I.kept k, ?_, q⟩
  by_cases hj : j > i
  · rw [if_pos hj, if_pos hj]; exact ⟨_, rfl⟩
  · rw [if_neg hj, if_neg hj]; exact ⟨_, rfl⟩
end
end L2
namespace L2
open PySem PySem.Spec PyProof.Rows
structure ObjM (h : Heap) (x dx C : Addr) (mA : Str → Option Value) : Prop where
  obj : h.get? x = some (PySem.W.instObj C dx)
  ns : h.Ns1 dx mA
  ne : dx ≠ x
theorem lookIn_ns {h : Heap} {dx : Addr} {mA : Str → Option Value} (n : h.Ns1 dx mA) : ∃ od, h.get? dx = some od ∧ ∀ name, PySem.W.lookIn name od = some (mA name) := by
  obtain ⟨o, es, ep, ho, hd, hk, _, hm⟩ := n
  refine ⟨o, ho, fun name => ?_⟩
  have e := hm name
  unfold nsFind findBy at e
  rw [← Array.find?_toList] at e
  unfold PySem.W.lookIn
  rw [hd]
  dsimp only
  split
  · rename_i y q
    rw [q] at e
    exact congrArg some e
  · rename_i q
    rw [q] at e
    have a : es.toList.any (·.refKey) = false := by
      rw [List.any_eq_false]
      intro y hy
      obtain ⟨z, t, hkey⟩ := hk y (Array.mem_toList_iff.mp hy)
      simp [DictEntry.refKey, hkey]
    have a' : ¬ es.toList.any (·.refKey) = true := by rw [a]; exact Bool.false_ne_true
    rw [if_neg a']
    exact congrArg some e
theorem ObjM.look {h : Heap} {x dx C : Addr} {mA : Str → Option Value} (I : ObjM h x dx C mA) : ∃ od, PySem.W.InstAt h x (PySem.W.instObj C dx) C (some od) ∧ ∀ name, PySem.W.lookIn name od = some (mA name) :=
  let ⟨od, ho, hl⟩ := lookIn_ns I.ns
  ⟨od, ⟨I.obj, rfl, rfl, ho⟩, hl⟩
section
variable {P : Program} {w : World} {H H' : Hp} {h h' : Heap} {a C dx : Addr} {fs fs' : List (Str × V)}
theorem ins_get (hok : HOk P w H h) (e : H a = some (.ins C dx fs)) : ∃ mA, ObjM h a dx C mA ∧ (∀ f, RelO (fs.lookup f) (mA f)) ∧ PySem.Within mA (fs.map (·.1)) ∧ fs.length ≤ 1000 ∧ H dx = some (.own a) := by
  obtain ⟨d, z, ne, ob, mA, n, r, q⟩ := (show ObjOk P w H h a (.ins C dx fs) from hok a _ e)
  exact ⟨mA, ⟨ob, n, ne⟩, r, q, z, d⟩
end
structure Cls (K : PySem.W.Frag) (C : Addr) : Prop where
  pg : PySem.W.plainGet K C Str.empty = true
  hd : PySem.W.hasDictIn K C = true
  po : PySem.W.plainOver K C = true
  sa : PySem.W.findIn K (.ref C) "__setattr__" = some (some (.builtin "object.__setattr__"))
theorem Cls.get {K : PySem.W.Frag} {C : Addr} (c : Cls K C) (f : Str) : PySem.W.plainGet K C f = true := c.pg
section
variable {X : Cx} {pins : List (Addr × Obj)} {σ : St} {H : Hp} {s : Shared} {a C dx : Addr} {fs : List (Str × V)} {f : Str} {v : V} {A : Around} {E : Value → Shared → Prop}
theorem attr_of {prog : Program} {w : World} {env : Env} {e : Expr} {f : Str} {pos : Pos} {s : Shared} {Q : Value → Shared → Prop} (hb : attributeBase e f env (eval e env) = eval e env)
    (h : wpAny (model prog w) A (eval e env) (fun o s₁ => wpAny (model prog w) A (getAttr o f true) Q E s₁) E s) : wpAny (model prog w) A (eval (.Attribute e f pos) env) Q E s :=
  Attribute_any_ h (by rw [arm_eval_Attribute, hb])
end
section
variable {X : Cx} {pins : List (Addr × Obj)} {σ : St} {H : Hp} {s : Shared} {A : Around} {E : Value → Shared → Prop} {Q : Value → Shared → Prop} {c : Value} {b : Bool}
inductive TyOf (K : PySem.W.Frag) (H : Hp) : V → Value → Prop where
  | non : TyOf K H .non (.type "NoneType")
  | bl (x : Bool) : TyOf K H (.bl x) (.type "bool")
  | int (i : Int) : TyOf K H (.int i) (.type "int")
  | str (x : Str) : TyOf K H (.str x) (.type "str")
  | flt (x : UInt64) : TyOf K H (.flt x) (.type "float")
  | lst {a : Addr} {xs : List V} (e : H a = some (.lst xs)) : TyOf K H (.ref a) (.type "list")
  | frz {a : Addr} {o : Obj} {xs : List V} (e : H a = some (.frz o (.lst xs))) : TyOf K H (.ref a) (.type "list")
  | tup {a : Addr} {xs : List V} (e : H a = some (.tup xs)) : TyOf K H (.ref a) (.type "tuple")
  | dK {a : Addr} {kvs : List (Key × V)} (e : H a = some (.dK kvs)) : TyOf K H (.ref a) (.type "dict")
  | dT {a : Addr} {kvs : List (List Key × V)} (e : H a = some (.dT kvs)) : TyOf K H (.ref a) (.type "dict")
  | ins {a C dx : Addr} {fs : List (Str × V)} (e : H a = some (.ins C dx fs)) (cl : Cls K C) (ha : PySem.W.findIn K (.ref C) "__class__" = some (some (.builtin "object.__class__")))
      (hn : PySem.W.specialIn K (.builtin "object.__class__") "__get__" = some (some (.builtin "getset_descriptor.__get__"))) (htk : PySem.W.takesIn K (.builtin "object.__class__") = some true)
      (hm : PySem.W.mroIn K C (.type "object") = some true) : TyOf K H (.ref a) (.ref C)
theorem isinst_ok {x : V} {u t : Value} (I : Inv X pins σ H s) (rx : RelV x u) (ty : TyOf X.K H x t) (e : PySem.W.kitOne X.K t c = some b) (h : ∀ tk, Q (.bool b) { s with toks := tk }) :
    wpAny (model X.prog X.w) A (call (.builtin "isinstance") [u, c]) Q E s := by
  cases ty with
  | non => cases (show u = Value.none from rx); exact PySem.W.kia_one PySem.W.kitx_none I.kIn True.intro e (fun z => nomatch z) h
  | bl y => cases (show u = Value.bool y from rx); exact PySem.W.kia_one PySem.W.kitx_bool I.kIn True.intro e (fun z => nomatch z) h
  | int i => obtain ⟨t, q⟩ := (show ∃ t, u = Value.int i t from rx); cases q; exact PySem.W.kia_one PySem.W.kitx_int I.kIn True.intro e (fun z => nomatch z) h
  | str y => obtain ⟨t, q⟩ := (show ∃ t, u = Value.str y t from rx); cases q; exact PySem.W.kia_one PySem.W.kitx_str I.kIn True.intro e (fun z => nomatch z) h
  | flt y => obtain ⟨t, q⟩ := (show ∃ t, u = Value.float y t from rx); cases q; exact PySem.W.kia_one PySem.W.kitx_float I.kIn True.intro e (fun z => nomatch z) h
  | @lst a xs ea =>
    cases (show u = Value.ref a from rx)
    obtain ⟨_, _, n, _, h1⟩ := (show ObjOk X.prog X.w H s.heap a (.lst xs) from I.hok a _ ea)
    exact PySem.W.kia_one PySem.W.kitx_list I.kIn ⟨_, h1, rfl⟩ e (fun z => nomatch z) h
  | @frz a ob xs ea =>
    cases (show u = Value.ref a from rx)
    obtain ⟨_, _, _, n, _, h1⟩ := (show ObjOk X.prog X.w H s.heap a (.frz ob (.lst xs)) from I.hok a _ ea)
    exact PySem.W.kia_one PySem.W.kitx_list I.kIn ⟨_, h1, rfl⟩ e (fun z => nomatch z) h
  | @tup a xs ea =>
    cases (show u = Value.ref a from rx)
    obtain ⟨_, _, _, p⟩ := (show ObjOk X.prog X.w H s.heap a (.tup xs) from I.hok a _ ea)
    obtain ⟨o, h1, h2, _⟩ := p
    exact PySem.W.kia_one PySem.W.kitx_tuple I.kIn ⟨o, h1, h2⟩ e (fun z => nomatch z) h
  | @dK a kvs ea =>
    cases (show u = Value.ref a from rx)
    obtain ⟨_, _, vs, _, p⟩ := (show ObjOk X.prog X.w H s.heap a (.dK kvs) from I.hok a _ ea)
    obtain ⟨o, es, ep, h1, h2, _⟩ := p
    exact PySem.W.kia_one PySem.W.kitx_dict I.kIn ⟨o, h1, h2.1⟩ e (fun z => nomatch z) h
  | @dT a kvs ea =>
    cases (show u = Value.ref a from rx)
    obtain ⟨_, _, xs, _, o, es, ep, h1, h2, _⟩ := (show ObjOk X.prog X.w H s.heap a (.dT kvs) from I.hok a _ ea)
    exact PySem.W.kia_one PySem.W.kitx_dict I.kIn ⟨o, h1, h2.1⟩ e (fun z => nomatch z) h
  | @ins a C dx fs ea cl ha hn htk hm =>
    cases (show u = Value.ref a from rx)
    obtain ⟨mA, O, _⟩ := ins_get I.hok ea
    obtain ⟨od, J, _⟩ := O.look
    exact PySem.W.kia_one (PySem.W.kitx_own (cl.get _) cl.hd ha hn htk hm) I.kIn J e (fun z => nomatch z) h
end
end L2
namespace L2
open PySem PySem.Spec PyProof.Rows
structure Room (k : Nat) (A : Around) : Prop where
  hd : A.handled = none
  dp : A.depth + 3 * k + 5 < recursionLimit
  un : A.units + 16 * k + 200 < cLine
theorem Room.mono {j k : Nat} {A : Around} (r : Room k A) (h : j ≤ k) : Room j A := ⟨r.hd, by have := r.dp; omega, by have := r.un; omega⟩
theorem Room.deeper {k : Nat} {A : Around} (r : Room (k + 1) A) (env : Env) : Room k (A.deeper env) :=
  ⟨r.hd, by have := r.dp; show A.depth + 1 + 3 * k + 5 < _; omega, by have := r.un; show A.units + 3 + 16 * k + 200 < _; omega⟩
theorem make_depth {A : Around} {C : Addr} {us : List Value} {kw : List (Str × Value)} : (A.under (.builtin "type.__call__" ⟨.ref C :: us, kw⟩)).depth = A.depth + 1 := by
  first | rfl | simp [Around.under, Code.weight, Code.isCreation, Code.isGuard, Code.isCaller, Code.frames, Code.isFrame, guardIds]
theorem make_units {A : Around} {C : Addr} {us : List Value} {kw : List (Str × Value)} : (A.under (.builtin "type.__call__" ⟨.ref C :: us, kw⟩)).units = A.units + 1 := by
  first | rfl | simp [Around.under, Code.cUnits, Code.frames, Code.isFrame]
theorem Room.make {k : Nat} {A : Around} (r : Room (k + 1) A) (C : Addr) (us : List Value) (kw : List (Str × Value)) : Room k (A.under (.builtin "type.__call__" ⟨.ref C :: us, kw⟩)) :=
  ⟨r.hd, by have := r.dp; rw [make_depth]; omega, by have := r.un; rw [make_units]; omega⟩
theorem Room.depth {k : Nat} {A : Around} (r : Room k A) : A.depth < recursionLimit := by have := r.dp; omega
noncomputable def tNil : TA := fun _ H Q => Q [] H
noncomputable def tCons (ta : TE) (tr : TA) : TA := fun σ H Q => ta σ H fun x H1 => tr σ H1 fun xs H2 => Q (x :: xs) H2
section
variable {X : Cx} {e : Expr} {es : List Expr} {te : TE} {t : TA} {pos : Pos}
theorem pa_nil : PA X [] tNil := fun _ _ _ _ H Q I h => Calls.spliced_nil ⟨[], H, I, .nil, h⟩
theorem pa_cons (ha : PE X e te) (hr : PA X es t) (hs : starEach (e :: es) X.env = (false, eval e X.env) :: starEach es X.env := by rfl) : PA X (e :: es) (tCons te t) := by
  intro pos pins s σ H Q I h
  rw [hs]
  show wpAny _ _ (spliced ((false, eval e X.env) :: backTo pos (starEach es X.env))) _ _ s
  refine Calls.spliced_cons (thn (ha pins s σ H _ I h) fun u s1 ⟨x, H1, I1, r1, q1⟩ => ?_)
  exact thn (hr pos pins s1 σ H1 _ I1 q1) fun us s2 ⟨xs, H2, I2, r2, q2⟩ => ⟨x :: xs, H2, I2, .cons r1 r2, q2⟩
noncomputable def tTup (t : TA) : TE := fun σ H Q => t σ H fun xs H1 => xs.length ≤ sizeLine ∧ ∀ p, H1 p = none → Q (.ref p) (upd H1 p (.tup xs))
noncomputable def tLst (t : TA) : TE := fun σ H Q => t σ H fun xs H1 => xs.length ≤ sizeLine ∧ ∀ p, H1 p = none → Q (.ref p) (upd H1 p (.lst xs))
theorem pe_tup {x1} (h : PA X es t) : PE X (.Tuple es x1 pos) (tTup t) := by
  intro pins s σ H Q I hq
  refine wpAny_Tuple_spliced (thn (h pos pins s σ H _ I hq) fun us s1 ⟨xs, H1, I1, r, z, q⟩ => ⟨by rw [← r.length]; exact z, ?_⟩)
  have hf : H1 s1.heap.objs.size = none := I1.hok.fresh (Nat.le_refl _)
  refine ⟨.ref s1.heap.objs.size, upd H1 s1.heap.objs.size (.tup xs), I1.laid (t' := s1.toks) (fun b u e => Heap.get?_push_of_some _ e) (Nat.le_refl _) ?_, rfl, q _ hf⟩
  exact ⟨z, us, r, ⟨_, Heap.get?_push_size _ rfl, rfl, _, rfl⟩⟩
theorem pe_lst (h : PA X es t) : PE X (.List es pos) (tLst t) := by
  intro pins s σ H Q I hq
  refine wpAny_List_spliced (thn (h pos pins s σ H _ I hq) fun us s1 ⟨xs, H1, I1, r, z, q⟩ => ⟨by rw [← r.length]; exact z, ?_⟩)
  have hf : H1 s1.heap.objs.size = none := I1.hok.fresh (Nat.le_refl _)
  refine ⟨.ref s1.heap.objs.size, upd H1 s1.heap.objs.size (.lst xs), I1.laid (t' := s1.toks) (fun b u e => Heap.get?_push_of_some _ e) (Nat.le_refl _) ?_, rfl, q _ hf⟩
  exact ⟨z, us, 0, r, Heap.get?_push_size _ rfl⟩
end
noncomputable abbrev Sp := List V → Hp → VK → XK → Prop
noncomputable abbrev CXT := List Env → Hp → Shared → XK → Value → Shared → Prop
structure Env0 (P : Program) (w : World) (K : PySem.W.Frag) (mg : Str → Option Value) (base : Heap) (A : Around) (outer : List Env) (s : Shared) (H : Hp) : Prop where
  frames : A.frames = some outer
  mod : Mod K mg base
  bs : ∀ b o, base.get? b = some o → s.heap.get? b = some o ∧ H b = none
  bsz : base.objs.size ≤ s.heap.objs.size
  funs : s.heap.FunFrames base outer
  frf : ∀ b ∈ frs outer, H b = none
  hok : HOk P w H s.heap
  bare : AllBare s.gens
noncomputable def CE (outer : List Env) (P : Program) (w : World) (H : Hp) (s : Shared) (Q : VK) (u : Value) (s' : Shared) : Prop :=
  ∃ v H', s'.os = s.os ∧ AllBare s'.gens ∧ Un (frs outer) [] H H' s.heap s'.heap ∧ HOk P w H' s'.heap ∧ RelV v u ∧ Q v H'
noncomputable def CR (CX : CXT) (outer : List Env) (P : Program) (w : World) (H : Hp) (s : Shared) (Q : VK) (E : XK) (r : Result) (s' : Shared) : Prop :=
  match r with
  | .ok (.ret u) => CE outer P w H s Q u s'
  | .ok _ => False
  | .error e => CX outer H s E e s'
structure FnOk (P : Program) (w : World) (K : PySem.W.Frag) (mg : Str → Option Value) (base : Heap) (CX : CXT) (k : Nat) (f : Addr) (fd : FuncData) (ps : List Str) (sp : Sp) : Prop where
  len : ∀ vs H Q E, sp vs H Q E → vs.length = ps.length
  run : ∀ (A : Around) (outer : List Env) (s : Shared) (H : Hp) (args : Args) (us : List Value) (vs : List V) (Q : VK) (E : XK), Room k A → Env0 P w K mg base A outer s H → BindsTo s fd args (ps.zip us) → Vals vs us → sp vs H Q E →
    codeAny (model P w) A (.call (.ref f) args) (CR CX outer P w H s Q E) s
theorem FnOk.mono {P : Program} {w : World} {K : PySem.W.Frag} {mg : Str → Option Value} {base : Heap} {CX : CXT} {j k : Nat} {f : Addr} {fd : FuncData} {ps : List Str} {sp : Sp} (F : FnOk P w K mg base CX j f fd ps sp) (h : j ≤ k) :
    FnOk P w K mg base CX k f fd ps sp := ⟨F.len, fun A outer s H args us vs Q E hr => F.run A outer s H args us vs Q E (hr.mono h)⟩
theorem Env0.make {P : Program} {w : World} {K : PySem.W.Frag} {mg : Str → Option Value} {base : Heap} {A : Around} {outer : List Env} {s : Shared} {H : Hp} (e : Env0 P w K mg base A outer s H) (C : Addr) (us : List Value) (kw : List (Str × Value)) :
    Env0 P w K mg base (A.under (.builtin "type.__call__" ⟨.ref C :: us, kw⟩)) outer s H := ⟨by first | exact e.frames | (simpa [Around.under, Code.envs, Code.isFrame, pushEnvs] using e.frames), e.mod, e.bs, e.bsz, e.funs, e.frf, e.hok, e.bare⟩
section
variable {X : Cx} {pins : List (Addr × Obj)} {σ : St} {H : Hp} {s s' : Shared}
theorem Inv.env0 (I : Inv X pins σ H s) : Env0 X.prog X.w X.K X.mg X.base X.A X.stack s H :=
  ⟨I.ok.frames, I.ok.mod, I.bs, Nat.le_trans I.ok.bsz I.sz, I.stack, I.stkFree, I.hok, I.bare⟩
theorem Inv.after {Q : VK} {u : Value} (I : Inv X pins σ H s) (h : CE X.stack X.prog X.w H s Q u s') : EP X pins σ Q u s' := by
  obtain ⟨v, H', os, bare, un, hok, r, q⟩ := h
  obtain ⟨hh, g, d, t, os'⟩ := s'
  obtain rfl : os' = s.os := os
  exact ⟨v, H', I.call (h' := hh) (g' := g) (d' := d) (t' := t) (ch := []) un hok bare (fun b z => absurd z (by simp)), r, q⟩
end
noncomputable def tCall (sp : Sp) (dvs : List V) (E : XK) (t : TA) : TE := fun σ H Q => t σ H fun vs H1 => sp (vs ++ dvs) H1 Q E
noncomputable def Binds (K : PySem.W.Frag) (fd : FuncData) (ps : List Str) (ds : List Value) : Prop :=
  ∀ (s : Shared) (us : List Value), K.In s.heap → (us ++ ds).length = ps.length → BindsTo s fd ⟨us, []⟩ (ps.zip (us ++ ds))
theorem Binds.all {K : PySem.W.Frag} {fd : FuncData} {ps : List Str} (h : ∀ us : List Value, us.length = ps.length → bindArgs fd ⟨us, []⟩ = pure (ps.zip us)) : Binds K fd ps [] := fun s us _ hl => by
  rw [List.append_nil] at hl ⊢
  exact .of_eq (h us hl)
noncomputable def Passes (CX : CXT) (X : Cx) (E : XK) : Prop := ∀ (pins : List (Addr × Obj)) (σ : St) (H : Hp) (s : Shared) (e : Value) (s' : Shared), Inv X pins σ H s → CX X.stack H s E e s' → X.xe e s'
section
variable {X : Cx} {CX : CXT} {k : Nat} {f C : Addr} {fd : FuncData} {ps : List Str} {sp : Sp} {dvs : List V} {ds : List Value} {E : XK} {x m : Str} {p pos apos : Pos} {e o : Expr} {es : List Expr} {ta : TE} {t : TA}
theorem run_fn {pins : List (Addr × Obj)} {σ : St} {H : Hp} {s : Shared} {Q : VK} {us : List Value} {vs : List V} (F : FnOk X.prog X.w X.K X.mg X.base CX k f fd ps sp) (hr : Room k X.A) (hb : Binds X.K fd ps ds) (hd : Vals dvs ds) (hx : Passes CX X E)
    (I : Inv X pins σ H s) (r : Vals vs us) (h : sp (vs ++ dvs) H Q E) : wpAny (model X.prog X.w) X.A (call (.ref f) us) (EP X pins σ Q) X.xe s := by
  have r2 : Vals (vs ++ dvs) (us ++ ds) := r.append hd
  have hl : (us ++ ds).length = ps.length := by rw [← r2.length]; exact F.len _ _ _ _ h
  refine wpAny_call (codeAny_mono (F.run X.A X.stack s H ⟨us, []⟩ (us ++ ds) (vs ++ dvs) Q E hr I.env0 (hb s us I.kIn hl) r2 h) fun r s' hq => ?_)
  cases r with
  | error e => exact hx pins σ H s e s' I hq
  | ok fl =>
    cases fl with
    | ret u => exact I.after hq
    | next => exact False.elim hq
    | brk => exact False.elim hq
    | cont => exact False.elim hq
theorem pe_call (F : FnOk X.prog X.w X.K X.mg X.base CX k f fd ps sp) (hr : Room k X.A) (hg : Gl X x) (hm : X.mg x = some (.ref f)) (hk : PySem.W.keepIn X.K (.ref f) = true) (hb : Binds X.K fd ps ds) (hd : Vals dvs ds) (hx : Passes CX X E)
    (ha : PA X (e :: es) t) (hdb : (x == ("__debug__" : Str)) = false := by decide) (he : starEach (e :: es) X.env = (false, eval e X.env) :: starEach es X.env := by rfl) (hpl : (backTo pos (starEach es X.env)).any (·.1) = false := by rfl) :
    PE X (.Call (.Name x p) (e :: es) [] pos) (tCall sp dvs E t) := by
  intro pins s σ H Q I h
  refine wpAny_Call_Name_kw (ld_glob I hg hm ?_ hdb)
  refine PySem.W.callWith_K (h₀ := X.base) I.ok.mod.kin hk (thn (ha pos pins s σ H _ I h) fun us s1 ⟨vs, H1, I1, r, q⟩ => ⟨I1.kIn, ?_⟩) he hpl
  exact run_fn F hr hb hd hx I1 r q
end
structure FnScope (N P : List Str) (sc : Scope) : Prop where
  kind : sc.kind = .function
  co : sc.isCoroutine = false
  gen : sc.isGenerator = false
  nd : N.Nodup
  pre : N.take P.length = P
  par : ∀ x ∈ P, sc.names.lookup x = some .local ∨ sc.names.lookup x = some .cell
  nofree : ∀ y ∈ sc.names, y.2 ≠ .free
theorem bindL_out {kindOf : Str → Option NameKind} {x : Str} : ∀ {binds : List (Str × Value)} {m : Str → Option Value}, (∀ v, (x, v) ∉ binds) → bindL kindOf binds m x = m x
  | [], _, _ => rfl
  | (n, v) :: r, m, h => by
    unfold bindL
    rw [bindL_out fun w hw => h w (List.mem_cons_of_mem _ hw)]
    split
    · have : x ≠ n := by rintro rfl; exact h v List.mem_cons_self
      simp [this]
    · rfl
theorem bindC_out {kindOf : Str → Option NameKind} {x : Str} : ∀ {binds : List (Str × Value)} {m : Str → Option Value}, (∀ v, (x, v) ∉ binds) → bindC kindOf binds m x = m x
  | [], _, _ => rfl
  | (n, v) :: r, m, h => by
    unfold bindC
    rw [bindC_out fun w hw => h w (List.mem_cons_of_mem _ hw)]
    split
    · rfl
    · have : x ≠ n := by rintro rfl; exact h v List.mem_cons_self
      simp [this]
theorem bindL_get {kindOf : Str → Option NameKind} {x : Str} {v : Value} : ∀ {P : List Str} {vs : List Value} {i : Nat} {m : Str → Option Value}, P.Nodup → P[i]? = some x → vs[i]? = some v → kindOf x = some .local →
    bindL kindOf (P.zip vs) m x = some v
  | [], _, _, _, _, h, _, _ => by simp at h
  | _ :: _, [], _, _, _, _, h, _ => by simp at h
  | p :: P, w :: vs, 0, m, nd, h1, h2, hk => by
    simp at h1 h2; subst h1; subst h2
    show bindL kindOf ((p, w) :: P.zip vs) m p = _
    unfold bindL
    rw [bindL_out fun v hv => (List.nodup_cons.mp nd).1 (List.of_mem_zip hv).1, if_pos hk]
    simp
  | p :: P, w :: vs, i + 1, m, nd, h1, h2, hk => by
    show bindL kindOf ((p, w) :: P.zip vs) m x = _
    unfold bindL
    exact bindL_get (i := i) (List.nodup_cons.mp nd).2 (by simpa using h1) (by simpa using h2) hk
theorem bindC_get {kindOf : Str → Option NameKind} {x : Str} {v : Value} : ∀ {P : List Str} {vs : List Value} {i : Nat} {m : Str → Option Value}, P.Nodup → P[i]? = some x → vs[i]? = some v → kindOf x ≠ some .local →
    bindC kindOf (P.zip vs) m x = some v
  | [], _, _, _, _, h, _, _ => by simp at h
  | _ :: _, [], _, _, _, _, h, _ => by simp at h
  | p :: P, w :: vs, 0, m, nd, h1, h2, hk => by
    simp at h1 h2; subst h1; subst h2
    show bindC kindOf ((p, w) :: P.zip vs) m p = _
    unfold bindC
    rw [bindC_out fun v hv => (List.nodup_cons.mp nd).1 (List.of_mem_zip hv).1, if_neg hk]
    simp
  | p :: P, w :: vs, i + 1, m, nd, h1, h2, hk => by
    show bindC kindOf ((p, w) :: P.zip vs) m x = _
    unfold bindC
    exact bindC_get (i := i) (List.nodup_cons.mp nd).2 (by simpa using h1) (by simpa using h2) hk
noncomputable def start (N : List Str) (vs : List V) : St := vs.map some ++ List.replicate (N.length - vs.length) none
noncomputable def cxOf (CX : CXT) (P : Program) (w : World) (K : PySem.W.Frag) (mg : Str → Option Value) (base : Heap) (N : List Str) (qual : Str) (scope : Scope) (f : Addr) (cd : Value) (A : Around) (outer : List Env) (s : Shared) (H : Hp) (E : XK) : Cx where
  prog := P
  w := w
  K := K
  mg := mg
  base := base
  A := A.deeper (envOfC qual scope s.heap.objs.size f cd)
  N := N
  s₀ := s
  H₀ := H
  env := envOfC qual scope s.heap.objs.size f cd
  outer := outer
  stack := envOfC qual scope s.heap.objs.size f cd :: outer
  ex := []
  calm := true
  fn := fun _ => true
  pn := []
  xe := fun e s' => wpAny (model P w) (A.deeper (envOfC qual scope s.heap.objs.size f cd)) (leaving (envOfC qual scope s.heap.objs.size f cd) e) (fun _ s'' => CX outer H s E e s'') (fun e' s'' => CX outer H s E e' s'') s'
theorem cell_has {sc : Scope} {n : Nat} {x : Str} (h : sc.names.lookup x = some .cell) : ∃ c, (cellsFrom n sc.names []).lookup x = some c := by
  have q := PySem.W.cellsFrom_some sc.names n [] (.inl h)
  exact Option.isSome_iff_exists.mp q
theorem inv_start {CX : CXT} {P : Program} {w : World} {K : PySem.W.Frag} {mg : Str → Option Value} {base : Heap} {N ps : List Str} {qual : Str} {scope : Scope} {f : Addr} {cd : Value} {A : Around} {outer : List Env} {s s1 : Shared} {H : Hp} {E : XK} {us : List Value} {vs : List V}
    (S : FnScope N ps scope) (hd : A.handled = none) (e0 : Env0 P w K mg base A outer s H) (hl : vs.length = ps.length) (r : Vals vs us)
    (x : InCallC s s.heap.objs.size (bindL (envOfC qual scope s.heap.objs.size f cd).kindOf (ps.zip us) fun _ => none) (cellsFrom (s.heap.objs.size + 1) scope.names []) (bindC (envOfC qual scope s.heap.objs.size f cd).kindOf (ps.zip us) fun _ => none) s1) :
    Inv (cxOf CX P w K mg base N qual scope f cd A outer s H E) [] (start N vs) H s1 := by
  have hpl : ps.length ≤ N.length := by have := congrArg List.length S.pre; rw [List.length_take] at this; omega
  obtain ⟨h1, tk, rfl, hk⟩ := x.done
  have noA : ∀ b : Addr, b ∉ (cxOf CX P w K mg base N qual scope f cd A outer s H E).ex := fun b z => absurd (show b ∈ ([] : List Addr) from z) (by simp)
  refine ⟨⟨e0.mod, S.kind, rfl, rfl, Nat.le_refl _, fun y z c h1 h2 => ?_, fun y hy => ?_, fun y c _ h => ?_, fun _ => hd, Around.frames_deeper e0.frames, .inr ⟨rfl, rfl⟩, fun b z => absurd z (noA b), e0.bs, e0.bsz, fun b _ _ => noA b, fun b z => absurd z (noA b), e0.funs, e0.frf⟩,
    rfl, e0.bare, Un.kept hk, ⟨_, x.toInCall.ns, fun i y v h1 h2 h3 => ?_⟩, fun y c h => ⟨_, x.cell y c h⟩, e0.hok.fresh (Nat.le_refl _), fun y c h => ?_, fun p hp => absurd (show p ∈ ([] : List (Addr × Obj)) from hp) (by simp), e0.hok.kept hk, ?_⟩
  · exact name_of_addr x.apart (PySem.mem_of_lookup h1) (PySem.mem_of_lookup h2)
  · have hy : scope.names.lookup y = some .cell ∨ scope.names.lookup y = some .free := hy
    rcases hy with hy | hy
    · exact cell_has hy
    · exact absurd rfl (S.nofree _ (PySem.mem_of_lookup hy))
  · exact Nat.le_of_lt (x.above y c (PySem.mem_of_lookup h))
  · have hi : i < vs.length := by
      unfold start at h2
      by_cases hi : i < vs.length
      · exact hi
      · rw [List.getElem?_append_right (by simpa using hi)] at h2
        rw [List.getElem?_replicate] at h2
        split at h2 <;> cases h2
    have ha : vs[i]? = some v := by
      unfold start at h2
      rw [List.getElem?_append_left (by simpa using hi), List.getElem?_map] at h2
      cases e : vs[i]? with
      | none => rw [e] at h2; cases h2
      | some a => rw [e] at h2; cases h2; rfl
    obtain ⟨u, hu, rv⟩ := r.get ha
    have hp : ps[i]? = some y := by
      rw [← S.pre, List.getElem?_take_of_lt (by omega)]; exact h1
    have ndP : ps.Nodup := by rw [← S.pre]; exact S.nd.sublist (List.take_sublist _ _)
    refine ⟨u, rv, ?_⟩
    rcases S.par y (List.mem_of_getElem? hp) with k | k
    · exact .inl ⟨k, bindL_get ndP hp hu k⟩
    · obtain ⟨c, e⟩ := cell_has (n := s.heap.objs.size + 1) k
      refine .inr ⟨.inl k, c, e, ?_⟩
      have q := x.cell y c e
      rw [bindC_get ndP hp hu (by show scope.names.lookup y ≠ _; rw [k]; decide)] at q
      exact q
  · exact e0.hok.fresh (Nat.le_of_lt (x.above y c (PySem.mem_of_lookup h)))
  · unfold start
    show _ = N.length
    rw [List.length_append, List.length_map, List.length_replicate]
    omega
theorem fn_of {CX : CXT} {P : Program} {w : World} {K : PySem.W.Frag} {mg : Str → Option Value} {base : Heap} {k : Nat} {f : Addr} {name qual : Str} {params : Arguments} {body : List Stmt} {scope : Scope} {dV kV doc pm cdv ct oc : Value} {an od : Option Addr}
    {osl : Array (Option Value)} {N ps : List Str} {sp : Sp} (lk : K.lookup f = some ⟨oc, od, .func (PySem.W.fnOf name qual params body scope dV kV doc pm an cdv ct), osl⟩) (hcd : PySem.W.codeIn K cdv qual = true) (S : FnScope N ps scope)
    (len : ∀ vs H Q E, sp vs H Q E → vs.length = ps.length)
    (hbody : ∀ (A : Around) (outer : List Env) (s : Shared) (H : Hp) (vs : List V) (Q : VK) (E : XK), Room k (A.deeper (envOfC qual scope s.heap.objs.size f cdv)) → sp vs H Q E →
      ∃ t, PSs (cxOf CX P w K mg base N qual scope f cdv A outer s H E) body t ∧ t { nx := fun _ H' => Q .non H', rt := Q } (start N vs) H) :
    FnOk P w K mg base CX (k + 1) f (PySem.W.fnOf name qual params body scope dV kV doc pm an cdv ct) ps sp := by
  refine ⟨len, fun A outer s H args us vs Q E hr e0 hb r hsp => ?_⟩
  have hl := len _ _ _ _ hsp
  have KX : K.In s.heap := e0.mod.kin.keeps fun b o e => (e0.bs b o e).1
  have lim : s.heap.NoLimit := e0.mod.nolimit.keeps fun b o e => (e0.bs b o e).1
  have hkind : ∀ y ∈ ps.zip us, scope.names.lookup y.1 = some .local ∨ (scope.names.lookup y.1 = some .cell ∧ ((cellsFrom (s.heap.objs.size + 1) scope.names []).lookup y.1).isSome = true) := fun ⟨n, v⟩ hy => by
    rcases S.par n (List.of_mem_zip hy).1 with q | q
    · exact .inl q
    · exact .inr ⟨q, PySem.W.cellsFrom_some _ _ _ (.inl q)⟩
  refine codeAny_call_function hr.depth (KX _ _ lk) rfl S.co S.gen rfl (PySem.W.codeRec_of KX hcd) (hb _ _ _ _ ?_)
  refine wpAny_newFunctionEnv_cells S.kind hkind fun env he s1 x => ?_
  subst he
  refine ⟨lim.keeps x.toInCall.keep, codeAny_func ?_⟩
  obtain ⟨t, ht, hq⟩ := hbody A outer s H vs Q E (hr.deeper _) hsp
  have I : Inv (cxOf CX P w K mg base N qual scope f cdv A outer s H E) [] (start N vs) H s1 := inv_start S hr.hd e0 hl r x
  refine wpAny_mono (ht [] s1 (start N vs) H _ I hq) (fun fl s' hs => ?_) fun e s' hs => hs
  have fin : ∀ {σ' : St} {H' : Hp} {v : V} {u : Value}, Inv (cxOf CX P w K mg base N qual scope f cdv A outer s H E) [] σ' H' s' → RelV v u → Q v H' → CE outer P w H s Q u s' :=
    fun {σ' H' v u} J rv q => ⟨v, H', J.os, J.bare, J.base, J.hok, rv, q⟩
  cases fl with
  | ret u =>
    obtain ⟨v, σ', H', J, rv, q⟩ := hs
    exact fin J rv q
  | next =>
    obtain ⟨σ', H', J, q⟩ := hs
    exact fin (v := V.non) (u := Value.none) J rfl q
  | brk =>
    obtain ⟨_, _, _, q⟩ := hs
    exact False.elim q
  | cont =>
    obtain ⟨_, _, _, q⟩ := hs
    exact False.elim q
end L2
namespace L2
open PySem PySem.Spec PyProof.Rows
section
variable {X : Cx} {x : Str} {p pos : Pos} {e : Expr} {es : List Expr} {t : TA} {id T : String} {r : List V → Hp → VK → Prop}
noncomputable def tCB (r : List V → Hp → VK → Prop) (t : TA) : TE := fun σ H Q => t σ H fun vs H1 => r vs H1 Q
theorem pe_callB (hc : CallR X (.builtin id) r) (hg : Gl X x) (hm : X.mg x = none) (hv : bootBuiltins x = some (.builtin id)) (ha : PA X (e :: es) t) (hn : x ≠ "__name__" := by decide) (hdb : (x == ("__debug__" : Str)) = false := by decide)
    (he : starEach (e :: es) X.env = (false, eval e X.env) :: starEach es X.env := by rfl) (hpl : (backTo pos (starEach es X.env)).any (·.1) = false := by rfl) : PE X (.Call (.Name x p) (e :: es) [] pos) (tCB r t) := by
  intro pins s σ H Q I h
  refine wpAny_Call_Name_kw (ld_blt I hg hm hv ?_ hn hdb)
  exact PyProof.Rows.callWith_builtin1 (thn (ha pos pins s σ H _ I h) fun us s1 ⟨vs, H1, I1, r1, q1⟩ => hc pins s1 σ H1 vs us Q I1 r1 q1) he hpl
theorem pe_callTy (hc : CallR X (.type T) r) (hg : Gl X x) (hm : X.mg x = none) (hv : bootBuiltins x = some (.type T)) (ha : PA X (e :: es) t) (hn : x ≠ "__name__" := by decide) (hdb : (x == ("__debug__" : Str)) = false := by decide)
    (he : starEach (e :: es) X.env = (false, eval e X.env) :: starEach es X.env := by rfl) (hpl : (backTo pos (starEach es X.env)).any (·.1) = false := by rfl) : PE X (.Call (.Name x p) (e :: es) [] pos) (tCB r t) := by
  intro pins s σ H Q I h
  refine wpAny_Call_Name_kw (ld_blt I hg hm hv ?_ hn hdb)
  exact PyProof.Rows.callWith_type1 (thn (ha pos pins s σ H _ I h) fun us s1 ⟨vs, H1, I1, r1, q1⟩ => hc pins s1 σ H1 vs us Q I1 r1 q1) he hpl
end
end L2
namespace HT
open PySem PyProof.Rows
section
variable {prog : Program} {w : World} {A : Around} {E : Value → Shared → Prop} {s : Shared}
noncomputable def sIx (n d : Nat) : Option Int → Nat
  | none => d
  | some v => if v < 0 then (v + (n : Int)).toNat else min v.toNat n
theorem sIx_none (n d : Nat) : sIx n d none = d := rfl
theorem sIx_nat (n d k : Nat) : sIx n d (some (k : Int)) = min k n := by
  show (if (k : Int) < 0 then ((k : Int) + (n : Int)).toNat else min (k : Int).toNat n) = min k n
  rw [if_neg (by omega), Int.toNat_natCast]
end
end HT
namespace L2
open PySem PySem.Spec PyProof.Rows
noncomputable abbrev TO := St → Hp → (Option Int → Hp → Prop) → Prop
noncomputable def PO (X : Cx) (e : Option Expr) (t : TO) : Prop :=
  ∀ (pins : List (Addr × Obj)) (s : Shared) (σ : St) (H : Hp) (Q : Option Int → Hp → Prop), Inv X pins σ H s → t σ H Q →
    wpAny (model X.prog X.w) X.A (evalPart e X.env) (fun u s' => ∃ o H', Inv X pins σ H' s' ∧ IsPart u o ∧ Q o H') X.xe s
noncomputable def tNoPart : TO := fun _ H Q => Q none H
noncomputable def tPart (t : TE) : TO := fun σ H Q => t σ H fun x H1 => ∃ i, x = .int i ∧ Q (some i) H1
section
variable {X : Cx} {e : Expr} {te : TE} {lo hi : Option Expr} {tl th : TO} {pos p2 : Pos}
theorem po_none : PO X none tNoPart := by
  intro pins s σ H Q I h
  rw [evalPart_none]
  exact wpAny_pure ⟨none, H, I, .none, h⟩
theorem po_some (h : PE X e te) : PO X (some e) (tPart te) := by
  intro pins s σ H Q I hw
  rw [evalPart_some]
  refine thn (h pins s σ H _ I hw) fun u s1 ⟨x, H1, I1, r1, q1⟩ => ?_
  obtain ⟨i, rfl, q⟩ := q1
  obtain ⟨t, rfl⟩ := r1
  exact ⟨some i, H1, I1, .int i t, q⟩
noncomputable def SlR (X : Cx) (r : V → Option Int → Option Int → Hp → VK → Prop) : Prop :=
  ∀ (pins : List (Addr × Obj)) (s : Shared) (σ : St) (H : Hp) (x : V) (v vl vu : Value) (lo hi : Option Int) (sl : Addr) (Q : VK), Inv X pins σ H s → RelV x v → s.heap.IsSliceOf sl vl vu .none → IsPart vl lo → IsPart vu hi → r x lo hi H Q →
    ∃ T id, typeLookup (.type T) "__getitem__" = pure (some (.builtin id)) ∧ s.TypeIs v T ∧ wpAny (model X.prog X.w) X.A (getItem v (.ref sl)) (EP X pins σ Q) X.xe s
noncomputable def tSl (r : V → Option Int → Option Int → Hp → VK → Prop) (te : TE) (tl th : TO) : TE := fun σ H Q => te σ H fun x H1 => tl σ H1 fun l H2 => th σ H2 fun u H3 => r x l u H3 Q
theorem pe_slice {r : V → Option Int → Option Int → Hp → VK → Prop} (hr : SlR X r) (he : PE X e te) (hl : PO X lo tl) (hu : PO X hi th) : PE X (.Subscript e (.Slice lo hi none p2) pos) (tSl r te tl th) := by
  intro pins s σ H Q I h
  refine Subscript_ (thn (he pins s σ H _ I h) fun v s1 ⟨x, H1, I1, r1, q1⟩ => ?_)
  refine wpAny_Slice (thn (hl pins s1 σ H1 _ I1 q1) fun vl s2 ⟨l, H2, I2, pl, q2⟩ => thn (hu pins s2 σ H2 _ I2 q2) fun vu s3 ⟨u, H3, I3, pu, q3⟩ => ?_)
  rw [evalPart_none]
  refine wpAny_pure ?_
  have I4 : Inv X pins σ H3 { s3 with heap := s3.heap.push { cls := .type "slice", data := .fields #[vl, vu, .none] } } := I3.kept (t' := s3.toks) fun b ob q => Heap.get?_push_of_some _ q
  obtain ⟨T, id, hT, ht, hg⟩ := hr pins { s3 with heap := s3.heap.push { cls := .type "slice", data := .fields #[vl, vu, .none] } } σ H3 x v vl vu l u s3.heap.objs.size Q I4 r1 (Heap.IsSliceOf.new ..) pl pu q3
  show wpAny (model X.prog X.w) X.A (subscriptTail e (.Slice lo hi none p2) v (.ref s3.heap.objs.size)) (EP X pins σ Q) X.xe { s3 with heap := s3.heap.push { cls := .type "slice", data := .fields #[vl, vu, .none] } }
  exact tail_any (ops := [.ref s3.heap.objs.size, v]) ht hT hg (by with_unfolding_all rfl)
noncomputable def cutV (xs : List V) (lo hi : Option Int) : List V := (xs.drop (HT.sIx xs.length 0 lo)).take (HT.sIx xs.length xs.length hi - HT.sIx xs.length 0 lo)
theorem cutV_length (xs : List V) (lo hi : Option Int) : (cutV xs lo hi).length ≤ xs.length := by
  unfold cutV
  rw [List.length_take, List.length_drop]
  omega
end
end L2
namespace L2
open PySem PySem.Spec PyProof.Rows
noncomputable def ixN (n : Nat) (i : Int) : Option Nat := if 0 ≤ i then (if i < n then some i.toNat else none) else if -(n : Int) ≤ i then some (i + n).toNat else none
noncomputable def atI {α : Type} (xs : List α) (i : Int) : Option α := (ixN xs.length i).bind fun j => xs[j]?
theorem ixN_seq {n : Nat} {i : Int} {j : Nat} (h : ixN n i = some j) : seqIndex? i n = some j ∧ j < n ∧ -(n : Int) ≤ i ∧ i < n := by
  unfold ixN at h
  by_cases h0 : 0 ≤ i
  · rw [if_pos h0] at h
    by_cases h1 : i < n
    · rw [if_pos h1] at h
      have e : i.toNat = j := Option.some.inj h
      exact ⟨by rw [seqIndex_of h0 h1, e], by omega, by omega, h1⟩
    · rw [if_neg h1] at h; cases h
  · rw [if_neg h0] at h
    by_cases h1 : -(n : Int) ≤ i
    · rw [if_pos h1] at h
      have e : (i + n).toNat = j := Option.some.inj h
      exact ⟨by rw [seqIndex_neg (by omega) h1, e], by omega, h1, by omega⟩
    · rw [if_neg h1] at h; cases h
theorem atI_get {α : Type} {xs : List α} {i : Int} {v : α} (h : atI xs i = some v) : ∃ j, seqIndex? i xs.length = some j ∧ xs[j]? = some v ∧ j < xs.length ∧ -(xs.length : Int) ≤ i ∧ i < xs.length := by
  unfold atI at h
  cases e : ixN xs.length i with
  | none => rw [e] at h; cases h
  | some j =>
    rw [e] at h
    obtain ⟨h1, h2, h3, h4⟩ := ixN_seq e
    exact ⟨j, h1, h, h2, h3, h4⟩
theorem atI_nat {α : Type} {xs : List α} {j : Nat} {v : α} (h : xs[j]? = some v) : atI xs (j : Int) = some v := by
  have hj : j < xs.length := (List.getElem?_eq_some_iff.mp h).1
  have e : ixN xs.length (j : Int) = some j := by
    unfold ixN
    rw [if_pos (by omega), if_pos (by omega)]; simp
  unfold atI; rw [e]; exact h
noncomputable def PlainIx (b : Expr) : Prop := ∀ o i, subscripted b false o i = operate [o, i] (getItem o i)
noncomputable def IxR (X : Cx) (r : R2) : Prop :=
  ∀ (value slice : Expr) (pins : List (Addr × Obj)) (s : Shared) (σ : St) (H : Hp) (x y : V) (v u : Value) (Q : VK), Inv X pins σ H s → RelV x v → RelV y u → r x y H Q →
    subscripted slice false v u = operate [v, u] (getItem v u) → wpAny (model X.prog X.w) X.A (subscriptTail value slice v u) (EP X pins σ Q) X.xe s
noncomputable def MtR (X : Cx) (id : String) (r : V → List V → Hp → VK → Prop) : Prop :=
  ∀ (pins : List (Addr × Obj)) (s : Shared) (σ : St) (H : Hp) (x : V) (xs : List V) (v : Value) (us : List Value) (Q : VK), Inv X pins σ H s → RelV x v → Vals xs us → r x xs H Q →
    wpAny (model X.prog X.w) X.A (call (.builtin id) (v :: us)) (EP X pins σ Q) X.xe s
section
variable {X : Cx} {a b : Expr} {ta tb : TE} {pos : Pos}
theorem pe_ix {r : R2} (hr : IxR X r) (ha : PE X a ta) (hb : PE X b tb) (hs : PlainIx b) : PE X (.Subscript a b pos) (tOp r ta tb) := by
  intro pins s σ H Q I h
  exact Subscript_ (binT ha hb I h fun v u s2 x y H2 I2 rx ry q => hr a b pins s2 σ H2 x y v u Q I2 rx ry q (hs _ _))
noncomputable def rIxL (K : PySem.W.Frag) : R2 := fun x y H Q => ∃ p xs i v, x = .ref p ∧ y = .int i ∧ SqL K H p xs ∧ atI xs i = some v ∧ Q v H
noncomputable def rIxT (K : PySem.W.Frag) : R2 := fun x y H Q => ∃ p xs i v, x = .ref p ∧ y = .int i ∧ SqT K H p xs ∧ atI xs i = some v ∧ Q v H
noncomputable def rIxS : R2 := fun x y H Q => ∃ z i c, x = .str z ∧ y = .int i ∧ z.length ≤ sizeLine ∧ atI z.cps.toList i = some c ∧ Q (.str ⟨#[c]⟩) H
theorem ix_list : IxR X (rIxL X.K) := by
  intro value slice pins s σ H x y v u Q I rx ry h hs
  obtain ⟨p, xs, i, z, rfl, rfl, hq, he, q⟩ := h
  cases rx
  obtain ⟨t, rfl⟩ := ry
  obtain ⟨its, r, pl, hz⟩ := I.list hq
  obtain ⟨j, h1, h2, h3, h4, h5⟩ := atI_get he
  obtain ⟨w, ew, rw'⟩ := r.get h2
  have hl := r.length
  have hn := line63
  have fin : EP X pins σ Q w s := ⟨z, H, I, rw', q⟩
  by_cases h0 : 0 ≤ i
  · have hj : i.toNat = j := by
      rw [seqIndex_of h0 h5] at h1
      exact Option.some.inj h1
    exact item_listR pl.isList h0 (by omega) (by rw [hj]; simpa using ew) fin hs
  · have hj : (i + (its.toArray.size : Int)).toNat = j := by
      rw [seqIndex_neg (by omega) h4] at h1
      rw [List.size_toArray, ← hl]
      exact Option.some.inj h1
    exact subscriptTail_builtinR (x := w) pl.isList.typeIs slot_list_getitem.lookup
      (wpAny_getItem_list_neg (Q := fun r s' => r = w ∧ EP X pins σ Q r s') pl.isList (by omega) (by rw [List.size_toArray] <;> omega) (by omega) (by rw [hj]; simpa using ew) ⟨rfl, fin⟩) hs
theorem ix_tup : IxR X (rIxT X.K) := by
  intro value slice pins s σ H x y v u Q I rx ry h hs
  obtain ⟨p, xs, i, z, rfl, rfl, hq, he, q⟩ := h
  cases rx
  obtain ⟨t, rfl⟩ := ry
  obtain ⟨its, r, pl, hz⟩ := I.tuple hq
  obtain ⟨j, h1, h2, h3, h4, h5⟩ := atI_get he
  obtain ⟨w, ew, rw'⟩ := r.get h2
  have hl := r.length
  have hn := line63
  have fin : EP X pins σ Q w s := ⟨z, H, I, rw', q⟩
  exact subscriptTail_builtinR (x := w) pl.typeIs slot_tuple_getitem.lookup
    (getItem_tuple (j := j) (Q := fun r s' => r = w ∧ EP X pins σ Q r s') pl (by omega) (by omega) (by rw [List.size_toArray, ← hl]; exact h1) (by simpa using ew) ⟨rfl, fin⟩) hs
theorem ix_str : IxR X rIxS := by
  intro value slice pins s σ H x y v u Q I rx ry h hs
  obtain ⟨z, i, c, rfl, rfl, hz, he, q⟩ := h
  obtain ⟨t, rfl⟩ := rx
  obtain ⟨t', rfl⟩ := ry
  obtain ⟨j, h1, h2, h3, h4, h5⟩ := atI_get he
  have hl : z.cps.toList.length = z.length := by simp [Str.length]
  rw [hl] at h1 h4 h5
  have hn := line63
  exact tail_any (typeIs_str s z t) slot_str_getitem.lookup (getItem_str (c := c) (by
    have e1 : decide (i < -(2 ^ 63 : Int)) = false := decide_eq_false (by omega)
    have e2 : decide (i ≥ 2 ^ 63) = false := decide_eq_false (by omega)
    rw [e1, e2, Bool.or_false]) (by rw [h1]; simpa using h2) ⟨.str ⟨#[c]⟩, H, I.tok _, ⟨_, rfl⟩, q⟩) hs
theorem slice_bounds (lo hi : Option Int) (n : Nat) : (sliceBounds lo hi none n).1 = ((HT.sIx n 0 lo : Nat) : Int) ∧ (sliceBounds lo hi none n).2.1 = ((HT.sIx n n hi : Nat) : Int) ∧ (sliceBounds lo hi none n).2.2 = 1 := by
  refine ⟨?_, ?_, rfl⟩
  · cases lo with
    | none => simp [sliceBounds, HT.sIx]
    | some i =>
      simp only [sliceBounds, HT.sIx, Option.getD_none, show (1 : Int) > 0 by decide, if_true]
      by_cases h : i < 0
      · simp only [h, if_true] <;> omega
      · simp only [h, if_false] <;> omega
  · cases hi with
    | none => simp [sliceBounds, HT.sIx]
    | some i =>
      simp only [sliceBounds, HT.sIx, Option.getD_none, show (1 : Int) > 0 by decide, if_true]
      by_cases h : i < 0
      · simp only [h, if_true] <;> omega
      · simp only [h, if_false] <;> omega
theorem slicePick_cut (its : List Value) (lo hi : Option Int) : slicePick its.toArray lo hi none = ((its.drop (HT.sIx its.length 0 lo)).take (HT.sIx its.length its.length hi - HT.sIx its.length 0 lo)).toArray := by
  obtain ⟨h1, h2, h3⟩ := slice_bounds lo hi its.toArray.size
  unfold slicePick
  rw [h1, h2, h3]
  simp only [sliceRange_one, pick_run, List.size_toArray] <;> rfl
noncomputable def rSlL (K : PySem.W.Frag) : V → Option Int → Option Int → Hp → VK → Prop := fun x lo hi H Q => ∃ a xs, x = .ref a ∧ SqL K H a xs ∧ ∀ p, H p = none → Q (.ref p) (upd H p (.lst (cutV xs lo hi)))
theorem sl_list : SlR X (rSlL X.K) := by
  intro pins s σ H x v vl vu lo hi sl Q I rx hs pl pu h
  obtain ⟨a, xs, rfl, hx, q⟩ := h
  cases rx
  obtain ⟨its, r, ht, hz⟩ := I.list hx
  have hlen := r.length
  refine ⟨"list", _, slot_list_getitem.lookup, ht.isList.typeIs, ?_⟩
  refine wpAny_getItem_list_slice ht.isList hs pl pu .none (by simp) ?_ (by rw [List.size_toArray] <;> omega)
  rw [slicePick_cut, ← hlen]
  refine ⟨.ref s.heap.objs.size, _, I.laid (t' := s.toks) (o := .lst (cutV xs lo hi)) (fun b ob q => Heap.get?_push_of_some _ q) (Nat.le_refl _) ?_, rfl, q _ (I.hok.fresh (Nat.le_refl _))⟩
  exact ⟨Nat.le_trans (cutV_length xs lo hi) hz, _, 0, (r.drop (HT.sIx xs.length 0 lo)).take (HT.sIx xs.length xs.length hi - HT.sIx xs.length 0 lo), Heap.get?_push_size _ rfl⟩
noncomputable def flatV : V → Bool
  | .non => true
  | .bl _ => true
  | .int _ => true
  | .str _ => true
  | _ => false
noncomputable def eqV : V → V → Bool
  | .non, .non => true
  | .bl a, .bl b => a == b
  | .bl a, .int b => (if a then 1 else 0) == b
  | .int a, .bl b => a == (if b then 1 else 0)
  | .int a, .int b => a == b
  | .str a, .str b => a == b
  | _, _ => false
theorem eqAt_V {A : Around} {s : Shared} {y x : V} {u v : Value} (ry : RelV y u) (rx : RelV x v) (fy : flatV y = true) (fx : flatV x = true) : SeqAt.EqAt A s u v (eqV y x) := by
  cases y with
  | non =>
    cases ry
    cases x with
    | non => cases rx; exact SeqAt.EqAt.same _
    | bl b => cases rx; exact SeqAt.EqAt.none_bool b
    | int b => obtain ⟨t, rfl⟩ := rx; exact SeqAt.EqAt.none_int b t
    | str b => obtain ⟨t, rfl⟩ := rx; exact SeqAt.EqAt.none_str b t
    | _ => exact absurd (show false = true from fx) Bool.false_ne_true
  | bl a =>
    cases ry
    cases x with
    | non => cases rx; exact SeqAt.EqAt.bool_none a
    | bl b => cases rx; exact SeqAt.EqAt.bool_bool a b
    | int b => obtain ⟨t, rfl⟩ := rx; exact SeqAt.EqAt.bool_int a b t
    | str b => obtain ⟨t, rfl⟩ := rx; exact SeqAt.EqAt.bool_str a b t
    | _ => exact absurd (show false = true from fx) Bool.false_ne_true
  | int a =>
    obtain ⟨t', rfl⟩ := ry
    cases x with
    | non => cases rx; exact SeqAt.EqAt.int_none a t'
    | bl b => cases rx; exact SeqAt.EqAt.int_bool a t' b
    | int b => obtain ⟨t, rfl⟩ := rx; exact SeqAt.EqAt.int_int a t' b t
    | str b => obtain ⟨t, rfl⟩ := rx; exact SeqAt.EqAt.int_str a t' b t
    | _ => exact absurd (show false = true from fx) Bool.false_ne_true
  | str a =>
    obtain ⟨t', rfl⟩ := ry
    cases x with
    | non => cases rx; exact SeqAt.EqAt.str_none a t'
    | bl b => cases rx; exact SeqAt.EqAt.str_bool a t' b
    | int b => obtain ⟨t, rfl⟩ := rx; exact SeqAt.EqAt.str_int a t' b t
    | str b => obtain ⟨t, rfl⟩ := rx; exact SeqAt.EqAt.str_str a t' b t
    | _ => exact absurd (show false = true from fx) Bool.false_ne_true
  | _ => exact absurd (show false = true from fy) Bool.false_ne_true
noncomputable def eqU (x : V) (u : Value) : Bool := match u with
  | .none => eqV .non x
  | .bool b => eqV (.bl b) x
  | .int i _ => eqV (.int i) x
  | .str z _ => eqV (.str z) x
  | _ => false
theorem eqU_of {x y : V} {u : Value} (r : RelV y u) (f : flatV y = true) : eqU x u = eqV y x := by
  cases y with
  | non => cases r; rfl
  | bl b => cases r; rfl
  | int i => obtain ⟨t, rfl⟩ := r; rfl
  | str z => obtain ⟨t, rfl⟩ := r; rfl
  | _ => exact absurd (show false = true from f) Bool.false_ne_true
theorem any_eqU {x : V} : ∀ {xs : List V} {us : List Value}, Vals xs us → xs.all flatV = true → us.any (eqU x) = xs.any fun y => eqV y x
  | _, _, .nil, _ => rfl
  | y :: xs, u :: us, .cons r t, f => by
    rw [List.all_cons, Bool.and_eq_true] at f
    rw [List.any_cons, List.any_cons, eqU_of r f.1, any_eqU t f.2]
theorem mem_eqAt {A : Around} {s : Shared} {x : V} {v : Value} (rx : RelV x v) (fx : flatV x = true) : ∀ {xs : List V} {us : List Value}, Vals xs us → xs.all flatV = true → ∀ u ∈ us, SeqAt.EqAt A s u v (eqU x u)
  | _, _, .nil, _ => fun u hu => by cases hu
  | y :: xs, u :: us, .cons r t, f => fun u' hu => by
    rw [List.all_cons, Bool.and_eq_true] at f
    rcases List.mem_cons.mp hu with rfl | hu
    · rw [eqU_of r f.1]; exact eqAt_V r rx f.1 fx
    · exact mem_eqAt rx fx t f.2 u' hu
noncomputable def inV (x : V) (xs : List V) : Bool := xs.any fun y => eqV y x
noncomputable def rIn (K : PySem.W.Frag) (neg : Bool) : R2 := fun x y H Q => ∃ p xs, y = .ref p ∧ (SqL K H p xs ∨ SqT K H p xs) ∧ flatV x = true ∧ xs.all flatV = true ∧ Q (.bl (if neg then !inV x xs else inV x xs)) H
theorem op_notIn_seq : OpR X (compareOp .NotIn) (rIn X.K true) := by
  intro pins s σ H x y v u Q I rx ry h
  obtain ⟨p, xs, rfl, hq, fx, fs, q⟩ := h
  cases ry
  rcases hq with hq | hq
  · obtain ⟨its, r, pl, hz⟩ := I.list hq
    refine SeqAt.notIn_listAt (eqU x) pl.isList (fun w hw => mem_eqAt rx fx r fs w (by simpa using hw)) ⟨.bl _, H, I, rfl, ?_⟩
    rw [show its.toArray.any (eqU x) = its.any (eqU x) by simp, any_eqU r fs]
    exact q
  · obtain ⟨its, r, pl, hz⟩ := I.tuple hq
    refine SeqAt.notIn_tupleAt (eqU x) pl (fun w hw => mem_eqAt rx fx r fs w (by simpa using hw)) ⟨.bl _, H, I, rfl, ?_⟩
    rw [show its.toArray.any (eqU x) = its.any (eqU x) by simp, any_eqU r fs]
    exact q
theorem call_len_seq : CallR X (.builtin "len") (fun xs H Q => ∃ p ys, xs = [.ref p] ∧ (SqL X.K H p ys ∨ SqT X.K H p ys) ∧ Q (.int ys.length) H) := by
  intro pins s σ H xs us Q I r h
  obtain ⟨p, ys, rfl, hq, q⟩ := h
  obtain ⟨u, rfl, rx⟩ := vals1 r
  cases rx
  have hn := line63
  rcases hq with hq | hq
  · obtain ⟨its, r', pl, hz⟩ := I.list hq
    have hlen := r'.length
    exact Calls.call_len_list pl.isList (by simp only [List.size_toArray] <;> omega) ⟨.int ys.length, H, I.tok _, ⟨s.toks + 1, by rw [List.size_toArray, hlen]⟩, q⟩
  · obtain ⟨its, r', pl, hz⟩ := I.tuple hq
    have hlen := r'.length
    exact len_tuple pl (by simp only [List.size_toArray] <;> omega) ⟨.int ys.length, H, I.tok _, ⟨s.toks + 1, by rw [List.size_toArray, hlen]⟩, q⟩
theorem call_len_str : CallR X (.builtin "len") (fun xs H Q => ∃ z, xs = [.str z] ∧ z.length ≤ sizeLine ∧ Q (.int z.length) H) := by
  intro pins s σ H xs us Q I r h
  obtain ⟨z, rfl, hz, q⟩ := h
  obtain ⟨u, rfl, t, rfl⟩ := vals1 r
  have hn := line63
  exact len_str (by omega) ⟨.int z.length, H, I.tok _, ⟨_, rfl⟩, q⟩
theorem call_list_of : CallR X (.type "list") (fun xs H Q => ∃ p ys, xs = [.ref p] ∧ (SqL X.K H p ys ∨ SqT X.K H p ys) ∧ ∀ l, H l = none → Q (.ref l) (upd H l (.lst ys))) := by
  intro pins s σ H xs us Q I r h
  obtain ⟨p, ys, rfl, hq, q⟩ := h
  obtain ⟨u, rfl, rx⟩ := vals1 r
  cases rx
  have fin : ∀ (its : List Value), Vals ys its → ys.length ≤ sizeLine → ∀ (h' : Heap) (c' : Nat), (∀ b o', s.heap.get? b = some o' → h'.get? b = some o') →
      h'.get? s.heap.objs.size = some { cls := .type "list", dict := none, data := .seq its.toArray c', slots := #[] } → EP X pins σ Q (.ref s.heap.objs.size) { s with heap := h' } := fun its r' hz h' c' kp e =>
    ⟨.ref s.heap.objs.size, _, I.laid (t' := s.toks) kp (Nat.le_refl _) (show ObjOk X.prog X.w _ h' _ (.lst ys) from ⟨hz, its, c', r', e⟩), rfl, q _ (I.hok.fresh (Nat.le_refl _))⟩
  rcases hq with hq | hq
  · obtain ⟨its, r', pl, hz⟩ := I.list hq
    have hlen := r'.length
    obtain ⟨o, ho, hc, n, hd⟩ := pl.isList
    exact call_list_seq p (.inl rfl) ho hc hd (fun h' c' kp e => fin its r' hz h' c' kp e) (by simp only [List.size_toArray] <;> omega)
  · obtain ⟨its, r', pl, hz⟩ := I.tuple hq
    have hlen := r'.length
    obtain ⟨o, ho, hc, n, hd⟩ := pl
    exact call_list_seq p (.inr rfl) ho hc hd (fun h' c' kp e => fin its r' hz h' c' kp e) (by simp only [List.size_toArray] <;> omega)
noncomputable def tyV (K : PySem.W.Frag) (T : String) (x : V) (H : Hp) : Prop := match x with
  | .str _ => T = "str"
  | .int _ => T = "int"
  | .ref p => (T = "list" ∧ ∃ xs, SqL K H p xs) ∨ (T = "tuple" ∧ ∃ o, K.lookup p = some o ∧ o.cls = .type "tuple" ∧ o.dict = none) ∨
      (T = "dict" ∧ ((∃ kvs, H p = some (.dK kvs)) ∨ ∃ kvs, H p = some (.dT kvs))) ∨ (T = "set" ∧ ∃ S n, H p = some (.set S n))
  | _ => False
theorem tyV_is {pins : List (Addr × Obj)} {σ : St} {H : Hp} {s : Shared} {T : String} {x : V} {v : Value} (I : Inv X pins σ H s) (r : RelV x v) (ty : tyV X.K T x H) :
    s.TypeIs v T ∧ ∀ a, v = .ref a → ∃ ob, s.heap.get? a = some ob ∧ ob.dict = none := by
  cases x with
  | str z =>
    obtain ⟨t, rfl⟩ := r
    cases (show T = "str" from ty)
    exact ⟨typeIs_str s z t, fun _ e => nomatch e⟩
  | int i =>
    obtain ⟨t, rfl⟩ := r
    cases (show T = "int" from ty)
    exact ⟨typeIs_int s i t, fun _ e => nomatch e⟩
  | ref p =>
    cases r
    rcases ty with ⟨rfl, xs, hq⟩ | ⟨rfl, o, hk, hc, hd⟩ | ⟨rfl, hk⟩ | ⟨rfl, S, n, hk⟩
    · obtain ⟨its, _, pl, _⟩ := I.list hq
      refine ⟨pl.isList.typeIs, fun a e => ?_⟩
      cases e
      obtain ⟨o, n, e, c, hd, _⟩ := pl
      exact ⟨o, e, hd⟩
    · refine ⟨⟨o, I.kIn p o hk, hc⟩, fun a e => ?_⟩
      cases e
      exact ⟨o, I.kIn _ o hk, hd⟩
    · have z : ∃ o, s.heap.get? p = some o ∧ o.ExactDict := by
        rcases hk with ⟨kvs, hk⟩ | ⟨kvs, hk⟩
        · obtain ⟨_, _, _, _, o, _, _, e, ex, _⟩ := I.hok p _ hk
          exact ⟨o, e, ex⟩
        · obtain ⟨_, _, _, _, o, _, _, e, ex, _⟩ := I.hok p _ hk
          exact ⟨o, e, ex⟩
      obtain ⟨o, e, ex⟩ := z
      refine ⟨⟨o, e, ex.1⟩, fun a e2 => ?_⟩
      cases e2
      exact ⟨o, e, ex.2.1⟩
    · obtain ⟨o, _, _, _, e, ex, _⟩ := I.hok p _ hk
      refine ⟨⟨o, e, ex.1⟩, fun a e2 => ?_⟩
      cases e2
      exact ⟨o, e, ex.2.1⟩
  | _ => exact False.elim ty
noncomputable def tBM (K : PySem.W.Frag) (T : String) (r : V → List V → Hp → VK → Prop) (to : TE) (t : TA) : TE := fun σ H Q => to σ H fun x H1 => tyV K T x H1 ∧ t σ H1 fun xs H2 => r x xs H2 Q
variable {o e : Expr} {es : List Expr} {to : TE} {t : TA} {name : Str} {apos cpos : Pos} {T id : String} {r : V → List V → Hp → VK → Prop}
theorem pe_bm (pa : PlainAttrs T) (slot : Slot T name id) (hty : typeOf (.builtin id) = pure (.type "method_descriptor")) (hm : MtR X id r) (ho : PE X o to) (ha : PA X (e :: es) t)
    (hbase : attributeBase o name X.env (eval o X.env) = eval o X.env := by rfl)
    (hfew : ((backTo cpos (starEach (e :: es) X.env)).all (fun x => !x.1) && (backToKw cpos (keywordEach [] X.env)).all (fun x => x.1.isSome)
      && decide ((e :: es).length + ([] : List Keyword).length + (if ([] : List Keyword).isEmpty then 0 else 1) < 30)) = true := by rfl)
    (hline : (apos.endLine == cpos.line) = true := by rfl) (hs : starEach (e :: es) X.env = (false, eval e X.env) :: starEach es X.env := by rfl) (hplain : (backTo cpos (starEach es X.env)).any (·.1) = false := by rfl) :
    PE X (.Call (.Attribute o name apos) (e :: es) [] cpos) (tBM X.K T r to t) := by
  intro pins s σ H Q I h
  refine wpAny_Call_method_late hbase hfew hline rfl (thn (ho pins s σ H _ I h) fun v s1 ⟨x, H1, I1, r1, ty, q1⟩ => ?_)
  obtain ⟨h1, h2⟩ := tyV_is I1 r1 ty
  refine ⟨T, id, pa, slot, hty, h1, h2, ?_⟩
  have hA := ha cpos pins s1 σ H1 _ I1 q1
  rw [hs] at hA ⊢
  refine Calls.callWith_builtin (by show (false || (backTo cpos (starEach es X.env)).any (·.1)) = false; rw [hplain] <;> rfl) (Calls.evalArgs_plain ?_)
  exact thn hA fun us s2 ⟨vs, H2, I2, r2, q2⟩ => hm pins s2 σ H2 x vs v us Q I2 r1 r2 q2
end
end L2
namespace L2
open PySem PySem.Spec PyProof.Rows
noncomputable def MtM (X : Cx) (id : String) (r : V → List V → Hp → VK → Prop) : Prop :=
  ∀ (pins : List (Addr × Obj)) (s : Shared) (σ : St) (H : Hp) (x : V) (xs : List V) (v : Value) (us : List Value) (Q : VK), Inv X pins σ H s → RelV x v → Vals xs us → r x xs H Q →
    wpAny (model X.prog X.w) X.A (call (.builtin id) (v :: us)) (EP X pins σ Q) X.xe s
theorem Vals.one : ∀ {x : V} {us : List Value}, Vals [x] us → ∃ u, us = [u] ∧ RelV x u
  | _, _, .cons r .nil => ⟨_, rfl, r⟩
theorem Vals.reverse {xs : List V} {us : List Value} (h : Vals xs us) : Vals xs.reverse us.reverse := by
  induction h with
  | nil => exact .nil
  | cons r t ih => rw [List.reverse_cons, List.reverse_cons]; exact Vals.append ih (.cons r .nil)
section
variable {X : Cx} {pins : List (Addr × Obj)} {σ : St} {H : Hp} {s : Shared} {l b : Addr} {xs ys zs : List V}
theorem Inv.lset {its its' : List Value} {n : Nat} {f : Array Value → Array Value} {t' : Nat} (I : Inv X pins σ H s) (hH : H l = some (.lst xs))
    (e : s.heap.get? l = some { cls := .type "list", data := .seq its.toArray n }) (hf : f its.toArray = its'.toArray) (hv : Vals ys its') (hz : ys.length ≤ sizeLine) :
    Inv X pins σ (upd H l (.lst ys)) { s with heap := s.heap.update l (Obj.mapSeq f), toks := t' } := by
  have q := PySem.IsL.update e f
  rw [hf] at q
  refine I.write (x := l) (e := l) (by rw [hH]; exact trivial) (.inl rfl) (fun b' u hb hu => (Heap.get?_update_other s.heap (Obj.mapSeq f) (Ne.symm hb)).trans hu) ⟨_, q⟩ ?_
  exact ⟨hz, its', _, hv, q⟩
theorem Inv.lnew {its : List Value} {t' : Nat} (I : Inv X pins σ H s) (hv : Vals ys its) (hz : ys.length ≤ sizeLine) :
    Inv X pins σ (upd H s.heap.objs.size (.lst ys)) { s with heap := s.heap.push { cls := .type "list", data := .seq its.toArray }, toks := t' } :=
  I.laid (fun _ _ q => Heap.get?_push_of_some _ q) (Nat.le_refl _) ⟨hz, its, 0, hv, Heap.get?_push_size _ rfl⟩
theorem Inv.fresh (I : Inv X pins σ H s) : H s.heap.objs.size = none := I.hok.fresh (Nat.le_refl _)
theorem Inv.lstM (I : Inv X pins σ H s) (hH : H l = some (.lst xs)) : xs.length ≤ sizeLine ∧ ∃ (its : List Value) (n : Nat), Vals xs its ∧ xs.length = its.length ∧ s.heap.get? l = some { cls := .type "list", data := .seq its.toArray n } := by
  obtain ⟨z, its, n, r, e⟩ := I.hok l _ hH
  exact ⟨z, its, n, r, r.length, e⟩
end
section
variable {X : Cx}
noncomputable def rAppend : V → List V → Hp → VK → Prop := fun x vs H Q => ∃ l xs y, x = .ref l ∧ vs = [y] ∧ H l = some (.lst xs) ∧ xs.length < sizeLine ∧ Q .non (upd H l (.lst (xs ++ [y])))
theorem mt_append : MtM X "list.append" rAppend := by
  intro pins s σ H x vs v us Q I rx rv h
  obtain ⟨l, xs, y, rfl, rfl, hH, hz, q⟩ := h
  cases rx
  obtain ⟨u, rfl, ru⟩ := rv.one
  obtain ⟨z, its, n, r, hl, e⟩ := I.lstM hH
  refine call_meets F.slot_list_append ⟨_, e, rfl⟩ F.entry_list_append (F.args_list_append_2 _ _) (PySem.list_append l its.toArray n u (by rw [List.size_toArray]; omega)) ⟨e, ?_⟩
  refine ⟨.non, _, I.lset (its' := its ++ [u]) hH e (by simp) (r.append (.cons ru .nil)) ?_, rfl, q⟩
  rw [List.length_append, List.length_singleton]
  omega
noncomputable def rCat : R2 := fun x y H Q => ∃ l b xs zs, x = .ref l ∧ y = .ref b ∧ H l = some (.lst xs) ∧ H b = some (.lst zs) ∧ xs.length + zs.length ≤ sizeLine ∧ ∀ p, H p = none → Q (.ref p) (upd H p (.lst (xs ++ zs)))
theorem op_cat : OpR X (binaryOp .Add) rCat := by
  intro pins s σ H x y v u Q I rx ry h
  obtain ⟨l, b, xs, zs, rfl, rfl, hH, hB, hz, q⟩ := h
  cases rx
  cases ry
  obtain ⟨z, its, n, r, hl, e⟩ := I.lstM hH
  obtain ⟨z2, its2, n2, r2, hl2, e2⟩ := I.lstM hB
  refine PySem.P.add_list e e2 ?_ (by rw [List.size_toArray, List.size_toArray]; omega)
  have ea : its.toArray ++ its2.toArray = (its ++ its2).toArray := by simp
  rw [ea]
  exact ⟨.ref _, _, I.lnew (t' := s.toks) (r.append r2) (by rw [List.length_append]; omega), rfl, q _ I.fresh⟩
end
end L2
namespace Att
open PySem PySem.W PySem.Calls PyProof.Rows
theorem ints_of_wellAll {P : Params} {h : Heap} : ∀ (ns : List Int) (vs : List Value), WellAll P h vs (ns.map WData.int) → IntsAre vs ns := by
  intro ns
  induction ns with
  | nil =>
    intro vs w
    rw [List.map_nil] at w
    cases w
    exact .nil
  | cons n ns ih =>
    intro vs w
    rw [List.map_cons] at w
    cases w with
    | cons a b =>
      cases a
      exact .cons _ _ (ih _ b)
theorem script_of {l : OpenLaw} {n : Nat} (hn : l.most = some n) {P : Params} {h : Heap} {args : List WData} {vals : List Value}
    (hpre : l.row.toRowW.claim.pre args = true) (hwl : WellAll P h vals args) :
    ∃ a vs ns, vals = [Value.ref a] ∧ args = [WData.list (ns.map WData.int)] ∧ h.get? a = some { cls := .type "list", data := .seq vs.toArray } ∧ IntsAre vs ns ∧ ns.length ≤ n := by
  have hsh : WShape.hasAll [] args [.list .int] = true := (pre_splitW hpre).1
  have hc : l.pre.holds [] { args := args } = true := (pre_splitW hpre).2
  obtain ⟨d, r, rfl, h1, h2⟩ := hasAllW_cons hsh
  obtain rfl := hasAllW_nil h2
  obtain ⟨xs, rfl, h3⟩ := hasW_list h1
  obtain ⟨ns, rfl⟩ := items_int h3
  have hlen : ns.length ≤ n := by
    unfold OpenLaw.pre at hc
    have h4 : (WTm.not (.lt (.lit (.int (n : Int))) (.len (.arg 0)))).holds [] { args := [.list (ns.map .int)] } = true := by
      have h4 := (holds_andW hc).1
      rw [hn] at h4
      exact h4
    have h5 := condW_of h4 (w_not (w_lt w_lit (w_len_list (w_arg rfl))))
    rw [List.length_map] at h5
    refine Nat.le_of_not_lt fun q => ?_
    have q' : (n : Int) < ((ns.length : Nat) : Int) := by omega
    first
      | (rw [decide_eq_true q'] at h5; exact absurd h5 (by decide))
      | (simp at h5; omega)
  cases hwl with
  | cons w1 w2 =>
    cases w2
    cases w1 with
    | list ho hall => exact ⟨_, _, ns, rfl, rfl, ho, ints_of_wellAll ns _ hall, hlen⟩
theorem post_true (l : OpenLaw) (args : List WData) : l.row.toRowW.claim.post args (.bool true) args = true :=
  postW_of (r := l.row.toRowW) (X := (true == true))
    (show WShape.has [] (.bool true) .bool = true by first | rfl | decide | simp [WShape.has, WShape.arms, WShape.armsAll])
    (show (WTm.eq .res (.lit (.bool true))).value [] { args := args, res := some (.bool true), after := args } = some (.bool (true == true)) from w_eq_bool (w_res rfl) w_lit) rfl
theorem attach_call {l : OpenLaw} {n : Nat} {q : Program} {loose : List Str} {XP : (Str → Option Value) → Heap → Prop} {YP : World → Heap → Prop} {d : DefRec}
    (hn : l.most = some n) (hdf : d.params.defaults = [])
    (call : ∀ (w : World) (s₀ s₁ : Shared) (mg mb : Str → Option Value) (fa : Addr) (o : Obj) (pm cd doc : Value) (a : Addr) (vs : List Value) (ns : List Int),
      Ground q loose [] XP w s₀ mg mb s₁.heap → YP w s₁.heap →
      s₁.heap.get? fa = some o → o.data = .func (docDef d.name d.params d.body d.scope pm cd doc) → s₁.heap.CodeRec cd d.name → mg d.name = some (.ref fa) →
      s₁.heap.get? a = some { cls := .type "list", data := .seq vs.toArray } → IntsAre vs ns → ns.length ≤ n → s₁.gens = #[] →
      codeAny (model l.prog w) callerA (.call (.ref fa) ⟨[.ref a], []⟩) (fun r s' => r = .ok (.ret (.bool true)) ∧ OldK s₁.heap s'.heap ∧ s'.os = s₁.os ∧ AllBare s'.gens) s₁) :
    WalkO q loose XP YP l.row.toRowW d [] (fun f vs => PySem.call f vs) := by
  intro w s₀ s₁ mg mb G Y fa o pm cd doc dV kV ho hd hcd hD hmg hg args vals as hpre hlay hrd hwl hlo
  obtain rfl : dV = .none := Dflts.none hD hdf
  obtain rfl : kV = .none := Dflts.noKw hD
  obtain ⟨a, vs, ns, rfl, rfl, hobj, hints, hlen⟩ := script_of hn hpre hwl
  refine enter_call (codeAny_mono (call w s₀ s₁ mg mb fa o pm cd doc a vs ns G Y ho (fd_plain hd) hcd hmg hobj hints hlen hg) fun r s' hq => ?_)
  obtain ⟨rfl, h2, h3, h4⟩ := hq
  exact ⟨.inl ⟨.bool true, .bool true, [], rfl, fun _ => rfl, .bool true, post_true l _, fun _ => ⟨List.Pairwise.nil, fun _ hm => (nomatch hm)⟩⟩, h2, h3, h4⟩
end Att
namespace L2
open PySem PySem.Spec PyProof.Rows
theorem vals_ints : ∀ {vs : List Value} {ns : List Int}, IntsAre vs ns → Vals (ns.map V.int) vs
  | _, _, .nil => .nil
  | _, _, .cons n t h => .cons ⟨t, rfl⟩ (vals_ints h)
noncomputable def Only (H : Hp) : Prop := ∀ b, H b = none ∨ ∃ o xs, H b = some (.frz o (.lst xs))
theorem law_call {P : Program} {w : World} {K : PySem.W.Frag} {mg mb : Str → Option Value} {CX : CXT} {k : Nat} {fa a : Addr} {fd : FuncData} {x : Str} {sp : Sp} {s₁ : Shared} {vs : List Value} {ns : List Int}
    (KX : K.In s₁.heap) (hns : s₁.heap.Ns mainGlobals mg) (hb : s₁.heap.Ns builtinsNs mb) (hbb : ∀ x : Str, x ≠ "__name__" → mb x = bootBuiltins x) (hlim : s₁.heap.NoLimit) (hg : s₁.gens = #[])
    (ha : s₁.heap.get? a = some { cls := .type "list", data := .seq vs.toArray }) (hi : IntsAre vs ns) (hl : ns.length ≤ sizeLine) (hr : Room k callerA)
    (F : ∀ base : Heap, K.In base → base.Ns mainGlobals mg → FnOk P w K mg base CX k fa fd [x] sp) (hbind : ∀ (s : Shared) (u : Value), BindsTo s fd ⟨[u], []⟩ [(x, u)])
    (hsp : ∀ H : Hp, Only H → SqL K H a (ns.map V.int) → sp [.ref a] H (fun v _ => v = .bl true) fun _ _ _ => False)
    (hCX : ∀ H e s', CX [] H s₁ (fun _ _ _ => False) e s' → False) :
    codeAny (model P w) callerA (.call (.ref fa) ⟨[.ref a], []⟩) (fun r s' => r = .ok (.ret (.bool true)) ∧ OldK s₁.heap s'.heap ∧ s'.os = s₁.os ∧ AllBare s'.gens) s₁ := by
  have rv := vals_ints hi
  have lenV := hi.length
  have core : ∀ H : Hp, Only H → SqL K H a (ns.map V.int) → HOk P w H s₁.heap → (∀ b, H b ≠ none → b = a) → (H a ≠ none → K.lookup a = none) →
      codeAny (model P w) callerA (.call (.ref fa) ⟨[.ref a], []⟩) (fun r s' => r = .ok (.ret (.bool true)) ∧ OldK s₁.heap s'.heap ∧ s'.os = s₁.os ∧ AllBare s'.gens) s₁ := by
    intro H hO hS hok hA hK
    have base_of : ∀ {b : Addr} {o : Obj}, s₁.heap.get? b = some o → H b = none → (hidT s₁.heap H).get? b = some o := fun e n => hidT_get e n
    have noA : ∀ {b : Addr} {o : Obj} {es : Array DictEntry} {ep : Nat}, s₁.heap.get? b = some o → o.data = .dict es ep → H b = none := fun {b o es ep} e d => by
      cases q : H b with
      | none => rfl
      | some u =>
        have e' : b = a := hA b (by rw [q]; simp)
        subst e'
        rw [ha] at e; cases e
        have d' : Data.seq vs.toArray _ = Data.dict es ep := d
        cases d'
    have nsK : ∀ {b : Addr} {m : Str → Option Value}, s₁.heap.Ns b m → (hidT s₁.heap H).Ns b m := fun {b m} ⟨o, es, ep, e, d, r⟩ => ⟨o, es, ep, base_of e (noA e d), d, r⟩
    have hKb : K.In (hidT s₁.heap H) := fun b o e => base_of (KX b o e) (by
      cases q : H b with
      | none => rfl
      | some u =>
        have e' : b = a := hA b (by rw [q]; simp)
        subst e'
        rw [hK (by rw [q]; simp)] at e; cases e)
    have hM : Mod K mg (hidT s₁.heap H) := ⟨hKb, nsK hns, ⟨mb, nsK hb, hbb⟩, let ⟨mc, h1, h2⟩ := hlim; ⟨mc, nsK h1, h2⟩⟩
    have e0 : Env0 P w K mg (hidT s₁.heap H) callerA [] s₁ H := ⟨rfl, hM, fun b o e => of_hidT e, Nat.le_of_eq (hidT_size _ _), trivial, fun b hb => absurd (show b ∈ ([] : List Addr) from hb) (by simp), hok, .of_eq hg⟩
    refine codeAny_mono ((F _ hKb (nsK hns)).run callerA [] s₁ H ⟨[.ref a], []⟩ [.ref a] [.ref a] _ _ hr e0 (hbind s₁ (.ref a)) (.cons rfl .nil) (hsp H hO hS)) fun r s' h => ?_
    cases r with
    | error e => exact (hCX H e s' h).elim
    | ok fl =>
      cases fl with
      | next => exact False.elim h
      | brk => exact False.elim h
      | cont => exact False.elim h
      | ret u =>
        obtain ⟨v, H', os, bare, un, hok', r', q⟩ := h
        have q' : v = .bl true := q
        subst q'
        obtain rfl : u = Value.bool true := r'
        refine ⟨rfl, OldK.of_keep fun b o e => ?_, os, bare⟩
        cases q : H b with
        | none => exact un.keep b o e q (by intro z; exact absurd (show b ∈ ([] : List Addr) from z) (by simp)) (by simp)
        | some u =>
          rcases hO b with z | ⟨ob, xs, z⟩
          · rw [q] at z; cases z
          · have z2 := un.frzs b ob _ z
            obtain ⟨e1, _⟩ := hok b _ z
            obtain ⟨e2, _⟩ := hok' b _ z2
            rw [e] at e1; cases e1
            exact e2
  cases hk : K.lookup a with
  | some o =>
    have e := KX a o hk
    rw [ha] at e
    cases e
    refine core (fun _ => none) (fun _ => .inl rfl) (.inr ⟨_, vs.toArray, _, hk, rfl, rfl, rfl, by rw [List.size_toArray, lenV]; exact hl, by simpa using rv⟩) (fun b u z => by have z' : (none : Option HO) = some u := z; cases z') (fun b z => absurd rfl z) fun z => absurd rfl z
  | none =>
    refine core (fun b => if b = a then some (.frz { cls := .type "list", data := .seq vs.toArray } (.lst (ns.map V.int))) else none) (fun b => ?_) (.inl (.inr ⟨{ cls := .type "list", data := .seq vs.toArray }, if_pos rfl⟩)) (fun b u z => ?_) (fun b z => ?_) fun _ => hk
    · by_cases hb : b = a
      · exact .inr ⟨_, _, if_pos hb⟩
      · exact .inl (if_neg hb)
    · by_cases hb : b = a
      · have z' := (if_pos hb).symm.trans z
        cases z'
        subst hb
        exact ⟨ha, by rw [List.length_map]; exact hl, vs, _, rv, ha⟩
      · have z' := (if_neg hb).symm.trans z
        cases z'
    · by_cases hb : b = a
      · exact hb
      · exact absurd (if_neg hb) z
end L2
namespace L2
open PySem PySem.Spec PyProof.Rows
theorem walk_of {l : PySem.W.OpenLaw} {n k : Nat} {q : Program} {loose : List Str} {XP : (Str → Option Value) → Heap → Prop} {YP : World → Heap → Prop} {d : DefRec} {K : Params → PySem.W.Frag} {CX : World → CXT} {sp : World → Sp} {x : Str}
    (hn : l.most = some n) (hn2 : n ≤ sizeLine) (hdf : d.params.defaults = []) (hr : Room k callerA)
    (hY : ∀ (w : World) (h : Heap), YP w h → (K w.params).In h)
    (F : ∀ (w : World) (mg : Str → Option Value) (fa : Addr) (h : Heap), (K w.params).In h → h.Ns mainGlobals mg → mg d.name = some (.ref fa) →
      ∃ fd : FuncData, (∀ (s : Shared) (u : Value), BindsTo s fd ⟨[u], []⟩ [(x, u)]) ∧
        ∀ base : Heap, (K w.params).In base → base.Ns mainGlobals mg → FnOk l.prog w (K w.params) mg base (CX w) k fa fd [x] (sp w))
    (hsp : ∀ (w : World) (H : Hp) (a : Addr) (ns : List Int), ns.length ≤ n → Only H → SqL (K w.params) H a (ns.map V.int) → sp w [.ref a] H (fun v _ => v = .bl true) fun _ _ _ => False)
    (hCX : ∀ (w : World) (H : Hp) (s : Shared) (e : Value) (s' : Shared), CX w [] H s (fun _ _ _ => False) e s' → False) :
    PySem.W.WalkO q loose XP YP l.row.toRowW d [] (fun f vs => PySem.call f vs) := by
  refine Att.attach_call hn hdf fun w s₀ s₁ mg mb fa o pm cd doc a vs ns G Y ho hd hcd hmg hobj hints hlen hg => ?_
  have KX := hY w _ Y
  obtain ⟨fd, hb, hF⟩ := F w mg fa _ KX G.T.g hmg
  exact law_call KX G.T.g G.T.b G.T.builtins G.T.nolimit hg hobj hints (Nat.le_trans hlen hn2) hr hF hb (fun H hO hS => hsp w H a ns hlen hO hS) fun H e s' => hCX w H s₁ e s'
end L2
namespace L2
open PySem PySem.Spec PyProof.Rows
noncomputable def inClass (s : Stmt) (j : Nat) : Stmt := match s with
  | .ClassDef _ _ _ body _ _ _ _ _ _ _ => body.getD j (.Pass ⟨0, 0, 0, 0⟩)
  | _ => .Pass ⟨0, 0, 0, 0⟩
noncomputable def defArgs (s : Stmt) : Arguments := match s with
  | .FunctionDef _ a _ _ _ _ _ _ _ _ => a
  | _ => { posonlyargs := [], args := [], vararg := none, kwonlyargs := [], kw_defaults := [], kwarg := none, defaults := [] }
noncomputable def defBody (s : Stmt) : List Stmt := match s with
  | .FunctionDef _ _ b _ _ _ _ _ _ _ => b
  | _ => []
noncomputable def defScope (s : Stmt) : Scope := match s with
  | .FunctionDef _ _ _ _ _ _ sc _ _ _ => sc
  | _ => { kind := .function, names := [], isGenerator := false, isCoroutine := false }
noncomputable abbrev CX0 : CXT := fun _ _ _ _ _ _ => False
noncomputable abbrev E0 : XK := fun _ _ _ => False
theorem pass0 {X : Cx} : Passes CX0 X E0 := fun _ _ _ _ _ _ _ h => h.elim
structure Fun (K : PySem.W.Frag) (x qual : Str) (st : Stmt) (f : Addr) (fd : FuncData) : Prop where
  ex : ∃ (oc : Value) (od : Option Addr) (kV doc pm : Value) (an : Option Addr) (cdv ct : Value) (osl : Array (Option Value)),
    fd = PySem.W.fnOf x qual (defArgs st) (defBody st) (defScope st) .none kV doc pm an cdv ct ∧ K.lookup f = some ⟨oc, od, .func fd, osl⟩ ∧ PySem.W.codeIn K cdv qual = true
  kp : PySem.W.keepIn K (.ref f) = true
section
variable {P : Program} {w : World} {K : PySem.W.Frag} {mg : Str → Option Value} {base : Heap}
theorem Fun.ok {x qual : Str} {st : Stmt} {f : Addr} {fd : FuncData} {N ps : List Str} {k : Nat} {sp : Sp} (F : Fun K x qual st f fd) (S : FnScope N ps (defScope st)) (len : ∀ vs H Q E, sp vs H Q E → vs.length = ps.length)
    (hbody : ∀ (cdv : Value) (A : Around) (outer : List Env) (s : Shared) (H : Hp) (vs : List V) (Q : VK) (E : XK), Room k (A.deeper (envOfC qual (defScope st) s.heap.objs.size f cdv)) → sp vs H Q E →
      ∃ t, PSs (cxOf CX0 P w K mg base N qual (defScope st) f cdv A outer s H E).nox (defBody st) t ∧ t { nx := fun _ H' => Q .non H', rt := Q } (start N vs) H) : FnOk P w K mg base CX0 (k + 1) f fd ps sp := by
  obtain ⟨oc, od, kV, doc, pm, an, cdv, ct, osl, rfl, lk, hcd⟩ := F.ex
  refine fn_of lk hcd S len fun A outer s H vs Q E hr hsp => ?_
  obtain ⟨t, h, q⟩ := hbody cdv A outer s H vs Q E hr hsp
  exact ⟨t, h.nox, q⟩
theorem Fun.binds {x qual : Str} {st : Stmt} {f : Addr} {fd : FuncData} {ps : List Str} (F : Fun K x qual st f fd)
    (h : ∀ (kV doc pm : Value) (an : Option Addr) (cdv ct : Value) (us : List Value), us.length = ps.length → bindArgs (PySem.W.fnOf x qual (defArgs st) (defBody st) (defScope st) .none kV doc pm an cdv ct) ⟨us, []⟩ = pure (ps.zip us)) : Binds K fd ps [] := by
  obtain ⟨oc, od, kV, doc, pm, an, cdv, ct, osl, rfl, lk, hcd⟩ := F.ex
  exact .all (h kV doc pm an cdv ct)
theorem fun_mk {x qual : Str} {st : Stmt} {f : Addr} {oc : Value} {od an : Option Addr} {osl : Array (Option Value)} {kV doc pm cdv ct : Value} (l : K.lookup f = some ⟨oc, od, .func (PySem.W.fnOf x qual (defArgs st) (defBody st) (defScope st) .none kV doc pm an cdv ct), osl⟩)
    (c : PySem.W.codeIn K cdv qual = true) (k : PySem.W.keepIn K (.ref f) = true) : Fun K x qual st f (PySem.W.fnOf x qual (defArgs st) (defBody st) (defScope st) .none kV doc pm an cdv ct) := ⟨⟨oc, od, kV, doc, pm, an, cdv, ct, osl, rfl, l, c⟩, k⟩
end
theorem small1000 {n : Nat} (h : n ≤ 1000) : n < sizeLine := Nat.lt_of_le_of_lt h (by decide)
section
variable {X : Cx}
theorem pv (i : Nat) {x : Str} {pos : Pos} (hN : X.N[i]? = some x := by rfl) (hv : Vis X.env.scope x := by first | exact Or.inl rfl | exact Or.inr (Or.inl rfl) | exact Or.inr (Or.inr rfl)) (hd : (x == ("__debug__" : Str)) = false := by decide)
    (hcd : (x == ("__classdict__" : Str)) = false := by decide) : PE X (.Name x pos) (tVar i) := pe_var hN hv hd hcd
end
theorem ite2 {c A B : Prop} [Decidable c] (h1 : c → A) (h2 : ¬ c → B) : if c then A else B := by
  by_cases h : c
  · rw [if_pos h]
    exact h1 h
  · rw [if_neg h]
    exact h2 h
noncomputable def Same (H H' : Hp) : Prop := ∀ b o, H b = some o → H' b = some o
theorem Same.refl (H : Hp) : Same H H := fun _ _ h => h
theorem Same.trans {H H1 H2 : Hp} (a : Same H H1) (b : Same H1 H2) : Same H H2 := fun c o h => b c o (a c o h)
theorem Same.free {H H' : Hp} (e : Same H H') {l : Addr} (h : H' l = Option.none) : H l = Option.none := by
  cases q : H l with
  | none => rfl
  | some o =>
    rw [e l o q] at h
    cases h
theorem Same.seq {K : PySem.W.Frag} {H H' : Hp} {a : Addr} {xs : List V} (e : Same H H') (h : SqL K H a xs) : SqL K H' a xs := by
  rcases h with (h | ⟨o, h⟩) | h
  · exact .inl (.inl (e _ _ h))
  · exact .inl (.inr ⟨o, e _ _ h⟩)
  · exact .inr h
end L2
set_option Elab.async false
set_option linter.all false
set_option maxRecDepth 100000
namespace L2
open PySem PySem.Spec PyProof.Rows
section
variable {X : Cx} {pins : List (Addr × Obj)} {σ : St} {H : Hp} {s : Shared} {a : Addr} {y v : V} {u r : Value} {o : Option V} {A : Around} {E : Value → Shared → Prop}
theorem Inv.big (I : Inv X pins σ H s) : sysModules < s.heap.objs.size := by
  have h : mainGlobals < s.heap.objs.size := (I.mod.glob.keeps I.bk).lt
  exact Nat.lt_trans (by decide) h
end
end L2
namespace L2
open PySem PySem.Spec PyProof.Rows
end L2
namespace L2
open PySem PySem.Spec PyProof.Rows
section
variable {κ : Type} [DecidableEq κ]
theorem nd_snoc : ∀ {l : List κ} {k : κ}, l.Nodup → ¬ k ∈ l → (l ++ [k]).Nodup
  | [], k, _, _ => by simp
  | a :: r, k, h, hk => by
    obtain ⟨h1, h2⟩ := List.nodup_cons.mp h
    show (a :: (r ++ [k])).Nodup
    refine List.nodup_cons.mpr ⟨fun m => ?_, nd_snoc h2 fun m => hk (List.mem_cons.mpr (Or.inr m))⟩
    rcases List.mem_append.mp m with q | q
    · exact h1 q
    · exact hk (List.mem_cons.mpr (Or.inl (List.mem_singleton.mp q).symm))
end
end L2
set_option Elab.async false
set_option linter.all false
set_option maxRecDepth 100000
set_option maxHeartbeats 1000000
namespace L2
open PySem PySem.Spec PyProof.Rows
section
variable {X : Cx}
inductive TyX (K : PySem.W.Frag) (H : Hp) : V → Value → Prop where
  | of {x : V} {t : Value} (h : TyOf K H x t) : TyX K H x t
  | tupK {a : Addr} {xs : List V} (h : SqT K H a xs) : TyX K H (.ref a) (.type "tuple")
  | lstK {a : Addr} {xs : List V} (h : SqL K H a xs) : TyX K H (.ref a) (.type "list")
noncomputable def rIsi (K : PySem.W.Frag) : List V → Hp → VK → Prop := fun xs H Q => ∃ x T t b, xs = [x, .ty T] ∧ TyX K H x t ∧ PySem.W.kitOne K t (.type T) = some b ∧ Q (.bl b) H
theorem call_isi : CallR X (.builtin "isinstance") (rIsi X.K) := by
  intro pins s σ H xs us Q I r h
  obtain ⟨x, T, t, b, rfl, ty, e, q⟩ := h
  obtain ⟨u, c, rfl, rx, rc⟩ := vals2 r
  cases (show c = Value.type T from rc)
  cases ty with
  | of h => exact isinst_ok I rx h e fun tk => ⟨.bl b, H, I.tok tk, rfl, q⟩
  | @tupK a xs h =>
    cases (show u = Value.ref a from rx)
    obtain ⟨its, _, ⟨o, h1, h2, _⟩, _⟩ := I.tuple h
    exact PySem.W.kia_one PySem.W.kitx_tuple I.kIn ⟨o, h1, h2⟩ e (fun z => nomatch z) fun tk => ⟨.bl b, H, I.tok tk, rfl, q⟩
  | @lstK a xs h =>
    cases (show u = Value.ref a from rx)
    obtain ⟨its, _, ⟨o, n, h1, h2, _⟩, _⟩ := I.list h
    exact PySem.W.kia_one PySem.W.kitx_list I.kIn ⟨o, h1, h2⟩ e (fun z => nomatch z) fun tk => ⟨.bl b, H, I.tok tk, rfl, q⟩
noncomputable def rMulS : R2 := fun x y H Q => ∃ z n, x = .str z ∧ y = .int n ∧ z.length ≤ 1000 ∧ -1000 ≤ n ∧ n ≤ 1000 ∧ Q (.str (Txt.mul z n)) H
theorem mulOk_small {z : Str} {n : Int} (h1 : z.length ≤ 1000) (h2 : -1000 ≤ n) (h3 : n ≤ 1000) : MulOk z n := by
  refine ⟨?_, fun h4 h5 => ?_, fun h4 h5 => ?_⟩
  · have a : ¬ n < -(2 ^ 63 : Int) := by omega
    have b : ¬ n ≥ 2 ^ 63 := by omega
    rw [decide_eq_false a, decide_eq_false b]; rfl
  · have : (1000 : Int) ≤ (2 ^ 63 - 1) / n := by
      rw [Int.le_ediv_iff_mul_le (by omega)]
      omega
    omega
  · have : z.length * n.toNat ≤ 1000 * 1000 := Nat.mul_le_mul h1 (by omega)
    unfold Builtin.Str.tooLong
    rw [decide_eq_false]
    have e := sizeLine_eq
    first | omega | (simp at *; omega)
theorem op_mulS : OpR X (binaryOp .Mult) rMulS := by
  intro pins s σ H x y v u Q I rx ry h
  obtain ⟨z, n, rfl, rfl, h1, h2, h3, q⟩ := h
  obtain ⟨t, rfl⟩ := rx
  obtain ⟨t', rfl⟩ := ry
  exact SB.mul (mulOk_small h1 h2 h3) fun t' k => ⟨.str _, H, I.tok k, ⟨_, rfl⟩, q⟩
noncomputable def rSlS : V → Option Int → Option Int → Hp → VK → Prop := fun x lo hi H Q => ∃ z, x = .str z ∧ z.length ≤ sizeLine ∧ Q (.str (Txt.slice z lo hi)) H
theorem part_of {v : Value} {o : Option Int} (p : IsPart v o) : ∃ l : Option (Int × Tok), v = partValue l ∧ l.map (·.1) = o := by
  cases p with
  | none => exact ⟨none, rfl, rfl⟩
  | int i t => exact ⟨some (i, t), rfl, rfl⟩
theorem sl_str : SlR X rSlS := by
  intro pins s σ H x v vl vu lo hi sl Q I rx hs pl pu h
  obtain ⟨z, rfl, hz, q⟩ := h
  obtain ⟨t, rfl⟩ := rx
  obtain ⟨l, rfl, el⟩ := part_of pl
  obtain ⟨u, rfl, eu⟩ := part_of pu
  refine ⟨"str", _, F.slot_str_getitem.lookup, typeIs_str _ _ _, wpAny_getItem_str_slice (l := l) (u := u) (st := none) hs rfl ?_⟩
  refine post_val_or_str ⟨?_, fun t' k => ?_⟩
  · subst el; subst eu
    exact Nat.le_trans (Txt.slice_le z _ _) hz
  · subst el; subst eu
    exact ⟨.str _, H, I.tok k, ⟨_, rfl⟩, q⟩
theorem strsAre_of : ∀ {ys : List Str} {us : List Value}, Vals (ys.map V.str) us → StrsAre us ys
  | [], _, r => by cases r; exact .nil
  | y :: ys, _, r => by
    cases r with
    | cons h t =>
      obtain ⟨tk, rfl⟩ := h
      exact .cons _ _ (strsAre_of t)
noncomputable abbrev TF := Str → St → Hp → VK → Prop
noncomputable def PF (X : Cx) (es : List Expr) (t : TF) : Prop :=
  ∀ (out : Str) (pins : List (Addr × Obj)) (s : Shared) (σ : St) (H : Hp) (Q : VK), Inv X pins σ H s → t out σ H Q → wpAny (model X.prog X.w) X.A (joinParts out (evalEach es X.env)) (EP X pins σ Q) X.xe s
noncomputable def tF0 : TF := fun out _ H Q => out.length ≤ sizeLine ∧ Q (.str out) H
noncomputable def tFc (x : Str) (t : TF) : TF := fun out σ H Q => (out ++ x).length ≤ sizeLine ∧ t (out ++ x) σ H Q
theorem pf_nil : PF X [] tF0 := fun out pins s σ H Q I h => joinParts_nil ⟨.str out, H, I.tok _, ⟨_, rfl⟩, h.2⟩ h.1
theorem pf_str {x : Str} {j : Nat} {pos : Pos} {es : List Expr} {t : TF} (h : PF X es t) (hs : evalEach (.Constant (.str x) j pos :: es) X.env = eval (.Constant (.str x) j pos) X.env :: evalEach es X.env := by rfl) : PF X (.Constant (.str x) j pos :: es) (tFc x t) := by
  intro out pins s σ H Q I hw
  rw [hs]
  refine joinParts_cons (Calls.Constant_str ?_)
  exact ⟨hw.1, h _ pins _ σ H Q (I.tok _) hw.2⟩
noncomputable def tFs (t : TF) : TE := fun σ H Q => t Str.empty σ H Q
theorem pe_fstr {e1 e2 : Expr} {es : List Expr} {t : TF} {pos : Pos} (h : PF X (e1 :: e2 :: es) t) (hs : evalEach (e1 :: e2 :: es) X.env = eval e1 X.env :: eval e2 X.env :: evalEach es X.env := by rfl) : PE X (.JoinedStr (e1 :: e2 :: es) pos) (tFs t) := by
  intro pins s σ H Q I hw
  refine JoinedStr_many ?_
  rw [← hs]
  exact h _ pins s σ H Q I hw
end
end L2
set_option Elab.async false
set_option linter.all false
set_option maxRecDepth 100000
set_option maxHeartbeats 1000000
namespace L2
open PySem PySem.Spec PyProof.Rows
mutual
noncomputable def Dn (K : PySem.W.Frag) (H : Hp) : V → PyData → Prop
  | v, .none => v = .non
  | v, .bool b => v = .bl b
  | v, .int i => v = .int i
  | v, .str x => v = .str x
  | v, .list ds => ∃ a xs, v = .ref a ∧ SqL K H a xs ∧ DnAll K H xs ds
  | v, .tuple ds => ∃ a xs, v = .ref a ∧ SqT K H a xs ∧ DnAll K H xs ds
  | _, .dict _ => False
noncomputable def DnAll (K : PySem.W.Frag) (H : Hp) : List V → List PyData → Prop
  | xs, [] => xs = []
  | xs, d :: ds => ∃ x r, xs = x :: r ∧ Dn K H x d ∧ DnAll K H r ds
end
noncomputable def KeepT (K : PySem.W.Frag) (H H' : Hp) : Prop := ∀ a xs, SqT K H a xs → SqT K H' a xs
section
variable {X : Cx} {pins : List (Addr × Obj)} {σ : St} {H : Hp} {s : Shared}
mutual
theorem Dn.reads (I : Inv X pins σ H s) : ∀ {d : PyData} {v : V} {u : Value}, Dn X.K H v d → RelV v u → ∃ as, Reads s.heap u d as
  | .none, v, u, h, r => by rw [Dn] at h; subst h; cases (show u = Value.none from r); exact ⟨_, .none⟩
  | .bool b, v, u, h, r => by rw [Dn] at h; subst h; cases (show u = Value.bool b from r); exact ⟨_, .bool b⟩
  | .int i, v, u, h, r => by rw [Dn] at h; subst h; obtain ⟨t, rfl⟩ := r; exact ⟨_, .int i t⟩
  | .str x, v, u, h, r => by rw [Dn] at h; subst h; obtain ⟨t, rfl⟩ := r; exact ⟨_, .str x t⟩
  | .dict _, v, u, h, r => by rw [Dn] at h; exact h.elim
  | .list ds, v, u, h, r => by
    rw [Dn] at h
    obtain ⟨a, xs, rfl, hs, hd⟩ := h
    cases (show u = Value.ref a from r)
    obtain ⟨its, rv, ⟨o, n, h1, h2, _, h3⟩, _⟩ := I.list hs
    obtain ⟨as, q⟩ := DnAll.reads I hd rv
    exact ⟨_, .list h1 h2 h3 (by simpa using q)⟩
  | .tuple ds, v, u, h, r => by
    rw [Dn] at h
    obtain ⟨a, xs, rfl, hs, hd⟩ := h
    cases (show u = Value.ref a from r)
    obtain ⟨its, rv, ⟨o, h1, h2, n, h3⟩, _⟩ := I.tuple hs
    obtain ⟨as, q⟩ := DnAll.reads I hd rv
    exact ⟨_, .tuple h1 h2 h3 (by simpa using q)⟩
theorem DnAll.reads (I : Inv X pins σ H s) : ∀ {ds : List PyData} {xs : List V} {us : List Value}, DnAll X.K H xs ds → Vals xs us → ∃ as, ReadsAll s.heap us ds as
  | [], xs, us, h, r => by rw [DnAll] at h; subst h; cases r; exact ⟨_, .nil⟩
  | d :: ds, xs, us, h, r => by
    rw [DnAll] at h
    obtain ⟨x, r', rfl, h1, h2⟩ := h
    cases r with
    | cons r1 r2 =>
      obtain ⟨as, q1⟩ := Dn.reads I h1 r1
      obtain ⟨bs, q2⟩ := DnAll.reads I h2 r2
      exact ⟨_, .cons q1 q2⟩
end
end
section
variable {X : Cx}
noncomputable def rEqD (K : PySem.W.Frag) (neg : Bool) : R2 := fun x y H Q => ∃ d e, Dn K H x d ∧ Dn K H y e ∧ d.canLay0 = true ∧ e.canLay0 = true ∧ min d.depth e.depth ≤ 150 ∧ Q (.bl (if neg then !PyData.eqv d e else PyData.eqv d e)) H
theorem op_eqD (hu : X.A.units + 150 < cLine) : OpR X (compareOp .Eq) (rEqD X.K false) := by
  intro pins s σ H x y v u Q I rx ry h
  obtain ⟨d, e, h1, h2, l1, l2, hz, q⟩ := h
  obtain ⟨as, r1⟩ := h1.reads I rx
  obtain ⟨bs, r2⟩ := h2.reads I ry
  exact PySem.W.cmp_ofEq (SeqAt.rcAt_reads r1 r2 l1 l2 (by omega) _ _ _ _ ⟨.bl _, H, I, rfl, q⟩)
theorem op_neD (hu : X.A.units + 150 < cLine) : OpR X (compareOp .NotEq) (rEqD X.K true) := by
  intro pins s σ H x y v u Q I rx ry h
  obtain ⟨d, e, h1, h2, l1, l2, hz, q⟩ := h
  obtain ⟨as, r1⟩ := h1.reads I rx
  obtain ⟨bs, r2⟩ := h2.reads I ry
  exact PySem.W.cmp_ofNotEq (SeqAt.rcNeAt_reads r1 r2 l1 l2 (by omega) _ _ _ _ ⟨.bl _, H, I, rfl, q⟩)
end
theorem hu_150 {A : Around} {k : Nat} (hr : Room k A) : A.units + 150 < cLine := by have := hr.un; omega
end L2
set_option Elab.async false
set_option linter.all false
set_option maxRecDepth 100000
set_option maxHeartbeats 2000000
namespace L2
open PySem PySem.Spec PyProof.Rows
noncomputable def blk (X : Cx) (N' : List Str) (scope : Scope) (cl : List (Str × Addr)) (s : Shared) (H : Hp) (C : Addr) (ex : List Addr) : Cx where
  prog := X.prog
  w := X.w
  K := X.K
  mg := X.mg
  base := X.base
  A := X.A
  N := N'
  s₀ := s
  H₀ := H
  env := compEnvC scope cl C X.env
  outer := X.stack
  stack := X.stack
  ex := ex
  fn := fun _ => false
  calm := X.calm
  pn := []
  xe := fun _ _ => False
structure BlkOk (X : Cx) (scope : Scope) (cl : List (Str × Addr)) (N' : List Str) (nt : Nat) (ci : List Nat) : Prop where
  clos : closureFor scope X.env = pure cl
  cell : ∀ y ∈ scope.names, y.2 ≠ .cell
  kind : scope.kind = .function
  names : ∀ y ∈ scope.names, y.2 = .local → scope.names.lookup y.1 = some .local
  sub : ∀ x c, cl.lookup x = some c → X.env.cells.lookup x = some c
  has : ∀ x, ((relabel scope X.env).names.lookup x = some .cell ∨ (relabel scope X.env).names.lookup x = some .free) → ∃ c, cl.lookup x = some c
  len : N'.length = nt + ci.length
  cap : ∀ (j i : Nat), ci[j]? = some i → ∃ x, N'[nt + j]? = some x ∧ X.N[i]? = some x ∧ X.env.scope.names.lookup x = some .cell ∧ ((relabel scope X.env).names.lookup x = some .cell ∨ (relabel scope X.env).names.lookup x = some .free)
noncomputable def capt (nt : Nat) (ci : List Nat) (σ : St) : St := List.replicate nt none ++ ci.map fun i => (σ[i]?).join
section
variable {X : Cx} {scope : Scope} {cl : List (Str × Addr)} {N' : List Str} {nt : Nat} {ci : List Nat} {pins : List (Addr × Obj)} {σ : St} {H : Hp} {s : Shared}
theorem blk_start (B : BlkOk X scope cl N' nt ci) (I : Inv X pins σ H s) {fp : List Addr} (hf : ∀ b ∈ fp, FpOk X pins H b) (ho : ∀ b ∈ fp, ∃ o, s.heap.get? b = some o) {C acc : Addr} {h1 : Heap} {tk : Nat}
    (hacc : acc = s.heap.objs.size) (hC : C = s.heap.objs.size + 1) (k : ∀ b u, s.heap.get? b = some u → h1.get? b = some u) (ns : h1.Ns C fun _ => none) (ha : h1.get? acc = some { cls := .type "list", data := .seq #[] }) :
    Inv (blk X N' scope cl s H C fp) [] (capt nt ci σ) (upd H acc (.lst [])) { s with heap := h1, toks := tk } := by
  have hn : H acc = none := I.hok.fresh (by rw [hacc]; exact Nat.le_refl _)
  have hnC : H C = none := I.hok.fresh (by rw [hC]; exact Nat.le_succ _)
  have cellLt : ∀ x c, cl.lookup x = some c → c < s.heap.objs.size := fun x c e => by
    obtain ⟨v, q⟩ := I.cell x c (B.sub x c e)
    exact q.lt
  refine ⟨⟨I.ok.mod, B.kind, I.ok.glob, I.ok.blt, ?_, fun x y c e1 e2 => I.ok.inj x y c (B.sub _ _ e1) (B.sub _ _ e2), fun x hx => B.has x hx, fun x c (z : false = true) => Bool.noConfusion z, fun hc => I.ok.hd hc, I.ok.frames, .inl rfl, fun b hb => ?_, I.bs, ?_, fun b o e hb => ?_, fun b hb => ?_, I.stack, fun b hb => I.stkFree b hb⟩,
    rfl, I.bare, Un.laid (a := acc) (o := .lst []) k (by rw [hacc]; exact Nat.le_refl _) hn, ⟨_, ns, fun i x v e1 e2 e3 => ?_⟩, fun x c e => ?_, ?_, fun x c e => ?_, fun p hp => absurd (show p ∈ ([] : List (Addr × Obj)) from hp) (by simp), I.hok.laid k (by rw [hacc]; exact Nat.le_refl _) ⟨Nat.zero_le _, [], 0, .nil, ha⟩, ?_⟩
  · show s.heap.objs.size ≤ C
    rw [hC]; exact Nat.le_succ _
  · obtain ⟨f0, f1, f2, f3, f4, f5⟩ := hf b hb
    obtain ⟨o, e⟩ := ho b hb
    refine ⟨?_, fun x c e' => f4 x c (B.sub x c e')⟩
    show b ≠ C
    rw [hC]
    exact Nat.ne_of_lt (Nat.lt_succ_of_lt (Heap.lt_size e))
  · exact Nat.le_trans I.ok.bsz I.sz
  · obtain ⟨f0, f1, f2, f3, f4, f5⟩ := hf b hb
    rcases f3 with z | z
    · exact I.ok.noex b o e z
    · exact absurd (Nat.lt_of_lt_of_le (Heap.lt_size e) (Nat.le_trans I.ok.bsz z)) (Nat.lt_irrefl _)
  · intro z
    obtain ⟨f0, f1, f2, f3, f4, f5⟩ := hf b hb
    rcases List.mem_cons.mp (I.stkSub b z) with y | y
    · exact f1 y
    · exact f2 y
  · -- the names
    obtain ⟨m, hm, hl⟩ := I.loc
    unfold capt at e2
    by_cases hi : i < nt
    · rw [List.getElem?_append_left (by simpa using hi), List.getElem?_replicate] at e2
      split at e2 <;> cases e2
    · rw [List.getElem?_append_right (by simpa using hi), List.length_replicate, List.getElem?_map] at e2
      cases q : ci[i - nt]? with
      | none => rw [q] at e2; cases e2
      | some j =>
        rw [q] at e2
        have e2' : (σ[j]?).join = some v := Option.some.inj e2
        obtain ⟨y, a1, a2, a3, a4⟩ := B.cap _ j q
        have ei : nt + (i - nt) = i := by omega
        rw [ei, show N'[i]? = some x from e1] at a1
        cases a1
        have e2'' : σ[j]? = some (some v) := by
          cases z : σ[j]? with
          | none => rw [z] at e2'; cases e2'
          | some w => rw [z] at e2'; exact congrArg some e2'
        obtain ⟨u, r, l⟩ := hl j x v a2 e2'' (.inr (.inl a3))
        refine ⟨u, r, .inr ⟨a4, ?_⟩⟩
        rcases l with ⟨kk, _⟩ | ⟨_, c, c1, c2⟩
        · have kk' : X.env.scope.names.lookup x = some .local := kk
          rw [a3] at kk'; cases kk'
        · obtain ⟨c', ec⟩ := B.has x a4
          have := B.sub x c' ec
          rw [c1] at this; cases this
          exact ⟨c, ec, let ⟨o, e, d⟩ := c2; ⟨o, k _ _ e, d⟩⟩
  · obtain ⟨v, q⟩ := I.cell x c (B.sub x c e)
    exact ⟨v, let ⟨o, e, d⟩ := q; ⟨o, k _ _ e, d⟩⟩
  · show upd H acc (.lst []) C = none
    rw [upd_ne (by rw [hacc, hC]; exact Nat.succ_ne_self _)]; exact hnC
  · have lt := cellLt x c e
    rw [upd_ne (by rw [hacc]; exact Nat.ne_of_lt lt)]
    exact I.freeC x c (B.sub x c e)
  · show (capt nt ci σ).length = N'.length
    unfold capt
    rw [List.length_append, List.length_replicate, List.length_map, B.len]
noncomputable def Wk (σ σ' : St) : Prop := σ'.length = σ.length ∧ ∀ (i : Nat) v, σ[i]? = some (some v) → σ'[i]? = some (some v)
theorem wk_set {σ : St} {i : Nat} {x : V} (h : σ[i]? = some none) : Wk σ (σ.set i (some x)) := by
  refine ⟨by simp, fun j v e => ?_⟩
  by_cases hj : j = i
  · subst hj; rw [h] at e; cases e
  · rw [List.getElem?_set_ne (Ne.symm hj)]; exact e
theorem wk_head {x : V} {r : St} : Wk (none :: r) (some x :: r) := wk_set (σ := none :: r) (i := 0) rfl
theorem Wk.trans {σ1 σ2 σ3 : St} (a : Wk σ1 σ2) (b : Wk σ2 σ3) : Wk σ1 σ3 := ⟨b.1.trans a.1, fun i v e => b.2 i v (a.2 i v e)⟩
theorem Wk.refl (σ : St) : Wk σ σ := ⟨rfl, fun _ _ e => e⟩
noncomputable def lcW (K : PySem.W.Frag) (σ0 : St) (J : It) (acc : Addr) (g : TG) (te : TE) (Q : VK) (W : Nat → Nat → List V → Hp → Prop) : Prop :=
  ∀ i m ys H2, W i m ys H2 → H2 acc = some (.lst ys) ∧ ys.length < sizeLine ∧ ((J.stop i H2 ∧ Q (.ref acc) H2) ∨
    (J.go i H2 ∧ ∀ x H3, J.yld i H2 x H3 → g x σ0 H3 fun σ4 H4 => Wk σ0 σ4 ∧ te σ4 H4 fun y H5 => H5 acc = some (.lst ys) ∧ ∃ m', m' < m ∧ W (i + 1) m' (ys ++ [y]) (upd H5 acc (.lst (ys ++ [y])))))
noncomputable def tLC (K : PySem.W.Frag) (nt : Nat) (ci : List Nat) (wi : TI) (g : TG) (te : TE) : TE := fun σ H Q => wi σ H fun J H1 => ∀ acc, H1 acc = none → ∃ W : Nat → Nat → List V → Hp → Prop, (∃ m, W 0 m [] (upd H1 acc (.lst []))) ∧ lcW K (capt nt ci σ) J acc g te Q W
theorem compTurn_one (elt target iter : Expr) (scope : Scope) (pos : Pos) (it acc : Value) (env : Env) :
    compTurn (.ListComp elt [⟨target, iter, [], 0⟩] scope pos) 0 it acc env = (standAt iter.pos >>= fun _ => pyNext it >>= fun r => match r with
      | none => pure (.done .next)
      | some v => letOwnedTupleGo target it v >>= fun _ => assign target env v >>= fun _ =>
        (eval elt env >>= fun x => call (.builtin "list.append") [acc, x] >>= fun _ => pure ()) >>= fun _ =>
          again (.compLoop (.ListComp elt [⟨target, iter, [], 0⟩] scope pos) 0 it acc env)) := by rfl
theorem noE {M : Model} {A : Around} {env : Env} {E : Value → Shared → Prop} : ∀ e s, (fun (_ : Value) (_ : Shared) => False) e s → notedBy M A env E e s := fun _ _ z => z.elim
theorem lc_loop {tg elt iter : Expr} {pos : Pos} {g : TG} {te : TE} {it acc C : Addr} {fp : List Addr} {tn : Nat → Heap → Prop} {J : It} {Q : VK} {s0 : Shared} {H0 : Hp} {σ0 : St} {R : Result → Shared → Prop} {s : Shared} {i0 m0 : Nat} {ys0 : List V} {H1 : Hp} {W : Nat → Nat → List V → Hp → Prop}
    (hc : X.calm = true) (hg : PG (blk X N' scope cl s0 H0 C fp) tg g) (he : PE (blk X N' scope cl s0 H0 C fp) elt te) (T : Turn X.prog X.w X.K tg J fp it tn)
    (hfp : ∀ (H' : Hp), (∀ b ∈ fp, H' b = none) → ∀ b ∈ fp, FpOk (blk X N' scope cl s0 H0 C fp) [] H' b) (hW : lcW X.K σ0 J acc g te Q W)
    (hR : ∀ s' H', Inv (blk X N' scope cl s0 H0 C fp) [] σ0 H' s' → Q (.ref acc) H' → R (.ok .next) s')
    (I : Inv (blk X N' scope cl s0 H0 C fp) [] σ0 H1 s) (hst : tn i0 s.heap) (hfr : ∀ b ∈ fp, H1 b = none) (w : W i0 m0 ys0 H1) :
    codeAny (model X.prog X.w) X.A (.compLoop (.ListComp elt [⟨tg, iter, [], 0⟩] scope pos) 0 (.ref it) (.ref acc) (compEnvC scope cl C X.env)) R s := by
  refine codeAny_loop rfl (fun n s => ∃ i ys H2, Inv (blk X N' scope cl s0 H0 C fp) [] σ0 H2 s ∧ tn i s.heap ∧ (∀ b ∈ fp, H2 b = none) ∧ W i n ys H2) (fun n s hI => ?_) m0 ⟨i0, ys0, H1, I, hst, hfr, w⟩
  obtain ⟨i, ys, H2, I2, st2, fr2, w2⟩ := hI
  show wpAny _ _ ((compTurn (.ListComp elt [⟨tg, iter, [], 0⟩] scope pos) 0 (.ref it) (.ref acc) (compEnvC scope cl C X.env)).onRaise (fun x => do noteFrame x (compEnvC scope cl C X.env); theTreesLotGoes x)) _ _ s
  refine wpAny_noted ?_
  rw [compTurn_one]
  refine wpAny_bind (wpAny_standAt (wpAny_bind ?_))
  obtain ⟨hacc, hlen, hcase⟩ := hW i n ys H2 w2
  rcases hcase with ⟨stop, q⟩ | ⟨go, step⟩
  · refine thn (T.done (blk X N' scope cl s0 H0 C fp) rfl rfl rfl hc i [] s σ0 H2 _ I2 (hfp H2 fr2) st2 stop) fun r s1 ⟨hr, I3⟩ => ?_
    subst hr
    exact wpAny_pure (hR s1 H2 I3 q)
  · refine thn (T.item (blk X N' scope cl s0 H0 C fp) rfl rfl rfl hc i [] s σ0 H2 _ I2 (hfp H2 fr2) st2 go) fun r s1 ⟨u, hr, h4⟩ => ?_
    subst hr
    refine wpAny_bind (thn h4 fun _ s5 ⟨x, H5, I5, r5, y5, st5, fr5⟩ => ?_)
    have I5' := I5.pinned (hfp H5 fr5) (T.obj _ _ st5)
    refine wpAny_bind (wpAny_mono (hg _ s5 σ0 H5 x u _ I5' r5 (step x H5 y5)) (fun _ s6 ⟨σ6, H6, I6, hw6, q6⟩ => ?_) noE)
    refine wpAny_bind (wpAny_bind (wpAny_mono (he _ s6 σ6 H6 _ I6 q6) (fun v s7 ⟨y, H7, I7, r7, ha7, m', hm', w7⟩ => ?_) noE))
    refine wpAny_bind (wpAny_mono (mt_append (X := blk X N' scope cl s0 H0 C fp) _ s7 σ6 H7 (.ref acc) [y] (.ref acc) [v] (fun _ H8 => H8 = upd H7 acc (.lst (ys ++ [y]))) I7 rfl (.cons r7 .nil) ⟨acc, ys, y, rfl, rfl, ha7, hlen, rfl⟩) (fun _ s8 ⟨_, H8, I8, _, e8⟩ => ?_) noE)
    subst e8
    refine wpAny_pure (wpAny_pure ⟨rfl, m', hm', i + 1, ys ++ [y], _, ?_, ?_, fun b hb => ?_, w7⟩)
    · exact I8.unpinned.weak hw6.1.symm hw6.2
    · exact T.keep _ _ _ st5 fun b hb o e => (I8.pin (b, o) (List.mem_append_right _ (List.mem_append_right _ (mem_pinsAt hb e)))).1
    · obtain ⟨o, e, d⟩ := T.obj _ _ st5 b hb
      exact (I8.pin (b, o) (List.mem_append_right _ (List.mem_append_right _ (mem_pinsAt hb e)))).2.1
theorem lc_core {tg elt iter : Expr} {pos pos' : Pos} {wi : TI} {g : TG} {te : TE} {use : Option (Value → Sem Unit)} {Q : VK} {Qf : Value → Shared → Prop} (B : BlkOk X scope cl N' nt ci) (hc : X.calm = true) (hi : PI X tg iter wi)
    (hg : ∀ s H C ex, PG (blk X N' scope cl s H C ex) tg g) (he : ∀ s H C ex, PE (blk X N' scope cl s H C ex) elt te) (hs : ∀ x, foldedSetIterable iter X.env x = pure x) (I : Inv X pins σ H s) (h : tLC X.K nt ci wi g te σ H Q)
    (fin : ∀ (acc C : Addr) (s' : Shared) (H' : Hp), Inv X pins σ H' s' → Q (.ref acc) H' → (∃ m, s'.heap.Ns C m) → FpOk X pins H' C → (∃ o, s'.heap.get? C = some o ∧ ∀ v, o.data ≠ .cell v) → compPost (model X.prog X.w) X.A X.xe use Qf (.ref acc) C (.ok .next) s') :
    wpAny (model X.prog X.w) X.A (comprehension (.ListComp elt [⟨tg, iter, [], 0⟩] scope pos) scope X.env pos' (newList []) false (eval iter X.env) use) Qf X.xe s := by
  refine wpAny_comprehension_free (use := use) rfl hs B.clos B.kind B.names (thn (hi pins s σ H _ I h) fun v s1 h1 => thn h1 fun itv s2 h2 => ?_)
  obtain ⟨it, fp, tn, J, H2, e, I2, T, st2, f2, q2⟩ := h2
  subst e
  have hacc : H2 s2.heap.objs.size = none := I2.hok.fresh (Nat.le_refl _)
  obtain ⟨W, ⟨m0, w0⟩, hW⟩ := q2 s2.heap.objs.size hacc
  refine wpAny_newObj_type (wpAny_newFunctionEnv B.cell (by intro y hy; simp at hy) (fun h₁ hns₁ hsb₁ => ?_) B.kind)
  dsimp only at hns₁ hsb₁ ⊢
  have hCs : (s2.heap.push { cls := .type "list", dict := none, data := .seq ([] : List Value).toArray }).objs.size = s2.heap.objs.size + 1 := Heap.size_push ..
  have k1 : ∀ b u, s2.heap.get? b = some u → h₁.get? b = some u := fun b u e => hsb₁.extBut b u (by rw [hCs]; exact Nat.ne_of_lt (Nat.lt_succ_of_lt (Heap.lt_size e))) (Heap.get?_push_of_some _ (Heap.get?_push_of_some _ e))
  have a1 : h₁.get? s2.heap.objs.size = some { cls := .type "list", data := .seq #[] } := hsb₁.extBut _ _ (by rw [hCs]; exact Nat.ne_of_lt (Nat.lt_succ_self _)) (Heap.get?_push_of_some _ (Heap.get?_push_size _ rfl))
  rw [hCs] at hns₁ ⊢
  have I3 := blk_start (tk := s2.toks + ([] : List (Str × Value)).length) B I2 f2 (fun b hb => let ⟨o, e, _⟩ := T.obj _ _ st2 b hb; ⟨o, e⟩) rfl rfl k1 (by simpa using hns₁) a1
  have hfpB : ∀ (H' : Hp), (∀ b ∈ fp, H' b = none) → ∀ b ∈ fp, FpOk (blk X N' scope cl s2 H2 (s2.heap.objs.size + 1) fp) [] H' b := fun H' hn b hb => by
    obtain ⟨f0, f1, f3, f4, f5, f6⟩ := f2 b hb
    obtain ⟨o, e, _⟩ := T.obj _ _ st2 b hb
    refine ⟨hn b hb, ?_, fun z => ?_, .inl hb, fun x c e' => f5 x c (B.sub x c e'), fun p hp => absurd (show p ∈ ([] : List (Addr × Obj)) from hp) (by simp)⟩
    · exact Nat.ne_of_lt (Nat.lt_succ_of_lt (Heap.lt_size e))
    · rcases List.mem_cons.mp (I2.stkSub b z) with y | y
      · exact f1 y
      · exact f3 y
  have hfr3 : ∀ b ∈ fp, upd H2 s2.heap.objs.size (.lst []) b = none := fun b hb => by
    obtain ⟨o, e, _⟩ := T.obj _ _ st2 b hb
    rw [upd_ne (Nat.ne_of_lt (Heap.lt_size e))]; exact (f2 b hb).1
  have st3 : tn 0 h₁ := T.keep _ _ _ st2 fun b _ o e => k1 b o e
  have loop : codeAny (model X.prog X.w) X.A (.compLoop (.ListComp elt [⟨tg, iter, [], 0⟩] scope pos) 0 (.ref it) (.ref s2.heap.objs.size) (compEnvC scope cl (s2.heap.objs.size + 1) X.env))
      (compPost (model X.prog X.w) X.A X.xe use Qf (.ref s2.heap.objs.size) (s2.heap.objs.size + 1)) { s2 with heap := h₁, toks := s2.toks + ([] : List (Str × Value)).length } := by
    refine lc_loop (Q := Q) hc (hg _ _ _ _) (he _ _ _ _) T hfpB hW (fun s' H' I' q => ?_) I3 st3 hfr3 w0
    have un := I'.base
    have ns := I'.loc
    have fC : H' (s2.heap.objs.size + 1) = none := I'.free
    have I4 : Inv X pins σ H' s' := I2.call' I'.os un I'.hok I'.bare fun b hb => by
      obtain ⟨f0, f1, f3, f4, f5, f6⟩ := f2 b hb
      exact ⟨f4, f1, f5, f6⟩
    obtain ⟨m, hm, _⟩ := ns
    have hm' : s'.heap.Ns (s2.heap.objs.size + 1) m := hm
    refine fin _ _ s' H' I4 q ⟨m, hm'⟩ (I2.fpOk (Nat.le_succ _) fC) ?_
    obtain ⟨o, es, ep, e, d, _⟩ := hm'
    exact ⟨o, e, fun v z => by rw [d] at z; cases z⟩
  exact codeAny_compStart_list loop (T.self _ _ _ _ _ st3 loop)
theorem pe_lc {tg elt iter : Expr} {pos : Pos} {wi : TI} {g : TG} {te : TE} (B : X.Ok → BlkOk X scope cl N' nt ci) (hc : X.calm = true) (hi : PI X tg iter wi)
    (hg : ∀ s H C ex, PG (blk X N' scope cl s H C ex) tg g) (he : ∀ s H C ex, PE (blk X N' scope cl s H C ex) elt te) (hs : ∀ x, foldedSetIterable iter X.env x = pure x := by intro _; rfl) :
    PE X (.ListComp elt [⟨tg, iter, [], 0⟩] scope pos) (tLC X.K nt ci wi g te) := by
  intro pins s σ H Q I h
  rw [eval_ListComp]
  refine lc_core (B I.ok) hc hi hg he hs I h fun acc C s' H' I' q hm hf ho => ?_
  obtain ⟨m, hm⟩ := hm
  obtain ⟨f0, f1, f2, f3, f4, f5⟩ := hf
  exact ⟨m, hm, fun h' sb => ⟨.ref acc, H', I'.turned (t' := s'.toks) (fun b o hb e => (sb.2 b hb).trans e) f0 f1 f3 f4 f5, rfl, q⟩⟩
theorem ps_setLC {i : Nat} {x : Str} {tg elt iter : Expr} {pos spos pos' : Pos} {wi : TI} {g : TG} {te : TE} (hN : X.N.Nodup) (hi : X.N[i]? = some x) (hx : Loc X.env.scope x) (B : X.Ok → BlkOk X scope cl N' nt ci) (hc : X.calm = true) (hit : PI X tg iter wi)
    (hg : ∀ s H C ex, PG (blk X N' scope cl s H C ex) tg g) (he : ∀ s H C ex, PE (blk X N' scope cl s H C ex) elt te) (hsw : swapsWith (.ListComp elt [⟨tg, iter, [], 0⟩] scope pos) (some (.Name x pos')) spos.line X.env = pure true)
    (hs : ∀ x, foldedSetIterable iter X.env x = pure x := by intro _; rfl) (hf : X.fn x = true ∨ X.env.scope.names.lookup x = some .local := by first | exact .inl rfl | exact .inr rfl | assumption) :
    PS X (.Assign [.Name x pos'] (.ListComp elt [⟨tg, iter, [], 0⟩] scope pos) spos) (tAsg (tLC X.K nt ci wi g te) (gName i)) := by
  intro pins s σ H D I h
  rw [exec_Assign_Name_used _ _ _ _ hsw]
  refine wpAny_bind (wpAny_standAt (wpAny_bind ?_))
  rw [arm_evalThenUse_ListComp]
  refine wpAny_bind (lc_core (B I.ok) hc hit hg he hs I h fun acc C s' H' I' q hm hfC ho => ?_)
  obtain ⟨f0, f1, f2, f3, f4, f5⟩ := hfC
  obtain ⟨m, hm⟩ := hm
  obtain ⟨o, e, d⟩ := ho
  have Ip : Inv X (pins ++ [(C, o)]) σ H' s' := I'.pins_of fun p hp => (List.mem_append.mp hp).elim (fun z => I'.pin p (List.mem_append_right _ z)) fun z => by
    have e' : p = (C, o) := by simpa using z
    subst e'
    exact ⟨e, f0, f1, f2, d⟩
  refine wpAny_assign_Name (store_ok Ip hN hi hx (show RelV (.ref acc) (Value.ref acc) from rfl) (fun s2 I2 => ?_) hf)
  have e2 := (I2.pin (C, o) (List.mem_append_right _ (List.mem_append_right _ (by simp)))).1
  obtain ⟨o', es, ep, h1, h2, h3⟩ := hm
  rw [e] at h1; cases h1
  refine ⟨m, ⟨o, es, ep, e2, h2, h3⟩, fun h' sb => wpAny_pure (wpAny_pure ?_)⟩
  have I3 : Inv X pins (σ.set i (some (.ref acc))) H' s2 := I2.unpinned
  exact ⟨_, H', I3.turned (t' := s2.toks) (fun b o hb e => (sb.2 b hb).trans e) f0 f1 f3 f4 f5, q⟩
end
end L2
set_option Elab.async false
set_option linter.all false
set_option maxRecDepth 100000
set_option maxHeartbeats 2000000
namespace L2
open PySem PySem.Spec PyProof.Rows
end L2
set_option Elab.async false
set_option linter.all false
set_option maxRecDepth 100000
set_option maxHeartbeats 2000000
namespace PySem
open Sem (wp)
namespace F
theorem nolen_lri : typeLookup (.type "list_reverseiterator") "__len__" = pure none := by rw [typeLookup_type, builtinLookup_eq_fast]; kernel_rfl
theorem hint_lri : typeLookup (.type "list_reverseiterator") "__length_hint__" = pure (some (.builtin "list_reverseiterator.__length_hint__")) := by rw [typeLookup_type, builtinLookup_eq_fast]; kernel_rfl
end F
section
variable {prog : Program} {w : World} {A : Around} {E : Value → Shared → Prop} {s : Shared}
theorem wpAny_hint_lri {a l : Addr} {i : Int} {Q : Bool → Shared → Prop} (hr : s.heap.IsRevIter a l i) (h : Q false s) : wpAny (model prog w) A (Builtin.List.listLengthHint (.ref a)) Q E s := by
  unfold Builtin.List.listLengthHint
  refine wpAny_bind (wpAny_specialOf hr.typeIs F.nolen_lri ?_)
  show wpAny _ A (specialOf (Value.ref a) (Str.ofString "__length_hint__") >>= _) _ _ _
  refine wpAny_bind (wpAny_specialOf hr.typeIs F.hint_lri ?_)
  generalize hid : ("list_reverseiterator.__length_hint__" : String) = id0
  wp_delta
  rw [show splitId id0 = some ("list_reverseiterator", "__length_hint__") from by subst hid; decide +kernel]
  subst hid
  refine wpAny_bind (wpAny_isInstance (b := true) hr.typeIs (by rw [isSubtype_type]; kernel_rfl) ?_)
  exact wpAny_pure h
theorem call_list_lri {Q : Value → Shared → Prop} {a l : Addr} {items : Array Value} (hh : A.handled = none) (hne : l ≠ a) (hr : s.heap.IsRevIter a l ((items.size : Int) - 1)) (hl : s.heap.IsList l items) (hlen : items.size ≤ 2 ^ 23)
    (hQ : ∀ h' tk acc' c', (∀ b o, b ≠ a → s.heap.get? b = some o → h'.get? b = some o) →
      h'.get? s.heap.objs.size = some { cls := .type "list", dict := none, data := .seq acc' c', slots := #[] } → ItemsOf (fun i v => items[items.size - 1 - i]? = some v) acc' items.size → Q (.ref s.heap.objs.size) { s with heap := h', toks := tk }) :
    wpAny (model prog w) A (call (.type "list") [.ref a]) Q E s := by
  refine callType_codes (Q₁ := fun obj s₁ => obj = .ref s.heap.objs.size ∧ s₁ = { s with heap := s.heap.push { cls := .type "list", data := .seq #[] } }) F.called_list (F.typeCall_list_1 _) F.entry_list_init
    (code_list_new _ ⟨rfl, rfl⟩) fun obj s₁ h₁ => ?_
  obtain ⟨rfl, rfl⟩ := h₁
  have hS : (s.heap.push { cls := .type "list", data := .seq #[] }).get? s.heap.objs.size = some { cls := .type "list", data := .seq #[] } := Heap.get?_push_size _ rfl
  have hSa : s.heap.objs.size ≠ a := by obtain ⟨o, e, _⟩ := hr; exact Nat.ne_of_gt (Heap.lt_size e)
  have hSl : s.heap.objs.size ≠ l := by obtain ⟨o, e, _⟩ := hl; exact Nat.ne_of_gt (Heap.lt_size e)
  refine ⟨⟨_, hS, rfl⟩, F.args_list_init_2 _ _, ?_⟩
  show wpAny _ _ (do let old ← Builtin.List.listItems (.ref s.heap.objs.size); Builtin.List.listUpdate (.ref s.heap.objs.size) (fun _ => #[]); letGo old.toList.reverse; Builtin.List.listExtendWith (.ref s.heap.objs.size) (.ref a) .none) _ _ _
  refine wpAny_bind ?_
  unfold Builtin.List.listItems
  refine wpAny_bind (wpAny_seqItems hS rfl (wpAny_pure ?_))
  show wpAny _ _ (updateSeq s.heap.objs.size (fun _ => #[]) >>= fun _ => letGo (#[] : Array Value).toList.reverse >>= fun _ => Builtin.List.listExtendWith (.ref s.heap.objs.size) (.ref a) .none) _ _ _
  refine wpAny_bind (wpAny_updateSeq hS rfl ?_)
  have hS₂ := Heap.get?_update_self (Obj.mapSeq (fun _ => (#[] : Array Value))) hS rfl
  have oth : ∀ b o, s.heap.get? b = some o → ((s.heap.push { cls := .type "list", data := .seq #[] }).update s.heap.objs.size (Obj.mapSeq (fun _ => (#[] : Array Value)))).get? b = some o :=
    fun b o e => (Heap.get?_update_other _ _ (Ne.symm (Nat.ne_of_lt (Heap.lt_size e)))).trans (Heap.get?_push_of_some _ e)
  refine wpAny_bind (wpAny_letGo ?_)
  have hr₂ := hr.at fun o e => oth _ _ e
  have hl₂ : Heap.IsList ((s.heap.push { cls := .type "list", data := .seq #[] }).update s.heap.objs.size (Obj.mapSeq (fun _ => (#[] : Array Value)))) l items := hl.at fun o e => oth _ _ e
  have h1 : Builtin.List.listSameRef (.ref s.heap.objs.size) (.ref a) = false := by simp [Builtin.List.listSameRef, hSa]
  unfold Builtin.List.listExtendWith
  refine wpAny_bind (wpAny_typeOf (T := "list_reverseiterator") (by obtain ⟨o, e, c, _⟩ := hr₂; exact ⟨o, e, c⟩) ?_)
  have h2 : (Value.type "list_reverseiterator" == Value.type "list") = false := by decide
  have h3 : (Value.type "list_reverseiterator" == Value.type "tuple") = false := by decide
  simp only [h1, h2, h3, Bool.or_false, Bool.false_eq_true, if_false]
  refine wpAny_bind (wpAny_pyIter_revIter hr₂ ?_)
  refine wpAny_bind (wpAny_holding (wpAny_hint_lri hr₂ ?_))
  have W := (Walks.listRev (prog := prog) (w := w) (A := A.in1.in1) hh a l hne items).toS
  refine wpAny_ite_split (fun hab => absurd hab (by decide)) (fun _ => wpAny_pure ⟨plainId_quiet F.plain_extend_loop _, ?_⟩)
  refine codeAny_extend_loopS W (by rw [sizeLine_eq]; omega) s.heap.objs.size (by simp [hSa, hSl]) .none items.size 0 _ #[] _ rfl (Nat.zero_le _) ⟨Nat.zero_le _, ?_, hl₂⟩ hS₂ (ItemsOf.nil _) fun s' acc' c' hm hS' hacc => ?_
  · simpa using hr₂
  · rw [Moved.eq_with hm]
    exact ⟨rfl, hQ s'.heap s'.toks acc' c' (fun b o hb e => hm.heap b o (fun hmem => by
      rcases List.mem_cons.mp hmem with e' | hmem
      · exact absurd e' (Nat.ne_of_lt (Heap.lt_size e))
      · exact hb (List.mem_singleton.mp hmem)) (oth b o e)) hS' hacc⟩
end
end PySem
namespace L2
open PySem PySem.Spec PyProof.Rows
section
variable {X : Cx}
noncomputable def rRevd (K : PySem.W.Frag) : List V → Hp → VK → Prop := fun vs H Q => ∃ a xs, vs = [.ref a] ∧ SqL K H a xs ∧ xs.length ≤ 8000000 ∧ ∀ p, H p = none → Q (.ref p) (upd H p (.lst xs.reverse))
theorem pe_revd {e : Expr} {t : TA} {p1 p2 pos1 pos2 : Pos} (hc : X.calm = true) (hg1 : Gl X "list") (hm1 : X.mg "list" = none) (hg2 : Gl X "reversed") (hm2 : X.mg "reversed" = none) (ha : PA X [e] t)
    (he : starEach [e] X.env = [(false, eval e X.env)] := by rfl) (he2 : starEach [.Call (.Name "reversed" p2) [e] [] pos2] X.env = [(false, eval (.Call (.Name "reversed" p2) [e] [] pos2) X.env)] := by rfl) :
    PE X (.Call (.Name "list" p1) [.Call (.Name "reversed" p2) [e] [] pos2] [] pos1) (tCB (rRevd X.K) t) := by
  intro pins s σ H Q I h
  refine wpAny_Call_Name_kw (ld_blt I hg1 hm1 (by first | exact PySem.boot_list | rfl) ?_)
  refine PyProof.Rows.callWith_type1 ?_ he2 rfl
  rw [he2]
  show wpAny _ _ (spliced ((false, eval (.Call (.Name "reversed" p2) [e] [] pos2) X.env) :: backTo pos1 (starEach [] X.env))) _ _ s
  refine Calls.spliced_cons (wpAny_Call_Name_kw (ld_blt I hg2 hm2 (by first | exact PySem.boot_reversed | rfl) ?_))
  refine PyProof.Rows.callWith_type1 (thn (ha pos2 pins s σ H _ I h) fun us s1 ⟨vs, H1, I1, r1, q1⟩ => ?_) he rfl
  obtain ⟨l, xs, rfl, hx, hz, q⟩ := q1
  obtain ⟨u, rfl, ru⟩ := vals1 r1
  cases ru
  obtain ⟨its, r, ht, _⟩ := I1.list hx
  have hlen := r.length
  have ll : l < s1.heap.objs.size := by obtain ⟨_, e, _⟩ := ht.isList; exact Heap.lt_size e
  refine call_reversed_list ht.isList (Calls.spliced_nil ?_)
  have hit : Heap.IsRevIter (s1.heap.push (revObj l ((its.toArray.size : Int) - 1))) s1.heap.objs.size l ((its.toArray.size : Int) - 1) := ⟨_, Heap.get?_push_size _ rfl, rfl, rfl⟩
  refine call_list_lri (I1.ok.hd hc) (Nat.ne_of_lt ll) hit (ht.isList.at fun o e => Heap.get?_push_of_some _ e) (by rw [List.size_toArray]; omega) fun h' tk acc' c' hk hS hacc => ?_
  have es : (s1.heap.push (revObj l ((its.toArray.size : Int) - 1))).objs.size = s1.heap.objs.size + 1 := Heap.size_push ..
  have keep : ∀ b o, s1.heap.get? b = some o → h'.get? b = some o := fun b o e => hk b o (Nat.ne_of_lt (Heap.lt_size e)) (Heap.get?_push_of_some _ e)
  have ea : acc'.toList = its.reverse := by
    obtain ⟨n1, n2⟩ := hacc
    apply List.ext_getElem?
    intro j
    by_cases hj : j < acc'.size
    · have v := n2 j acc'[j] (by simp [hj])
      rw [n1, List.size_toArray] at hj
      rw [Array.getElem?_toList, List.getElem?_reverse hj, Array.getElem?_eq_getElem (by rw [n1, List.size_toArray]; exact hj)]
      simpa using v.symm
    · rw [List.getElem?_eq_none (by simpa using hj), List.getElem?_eq_none (by rw [List.length_reverse]; rw [n1, List.size_toArray] at hj; omega)]
  rw [es] at hS ⊢
  have fr : H1 (s1.heap.objs.size + 1) = none := I1.hok.fresh (Nat.le_succ _)
  refine ⟨.ref (s1.heap.objs.size + 1), _, I1.laid (a := s1.heap.objs.size + 1) (o := .lst xs.reverse) keep (Nat.le_succ _) ⟨?_, acc'.toList, c', ?_, by simpa using hS⟩, rfl, q _ fr⟩
  · rw [List.length_reverse, sizeLine_eq]; omega
  · rw [ea]; exact r.reverse
end
end L2
set_option Elab.async false
set_option linter.all false
set_option maxRecDepth 100000
set_option maxHeartbeats 2000000
namespace L2
open PySem PySem.Spec PyProof.Rows
end L2
set_option Elab.async false
set_option linter.all false
set_option maxRecDepth 100000
set_option maxHeartbeats 2000000
namespace L2
open PySem PySem.Spec PyProof.Rows
section
variable {X : Cx} {scope : Scope} {N' : List Str}
theorem relabel_nofree {scope : Scope} {env : Env} (h : ∀ y ∈ scope.names, y.2 ≠ .free) : (relabel scope env).names = scope.names := by
  unfold relabel
  simp only
  have aux : ∀ l : List (Str × NameKind), (∀ y ∈ l, y.2 ≠ .free) → l.map (fun (n, k) => if (k == NameKind.free && env.scope.kind == .function && env.kindOf n == some .cell) then (n, NameKind.cell) else (n, k)) = l := by
    intro l
    induction l with
    | nil => intro _; rfl
    | cons y r ih =>
      intro h
      rw [List.map_cons, ih fun z hz => h z (List.mem_cons_of_mem _ hz)]
      obtain ⟨n, k⟩ := y
      have : (k == NameKind.free) = false := by simpa using h (n, k) List.mem_cons_self
      simp [this]
  exact aux _ h
theorem blk0 (hc : ∀ y ∈ scope.names, y.2 ≠ .cell) (hf : ∀ y ∈ scope.names, y.2 ≠ .free) (hk : scope.kind = .function) (hn : ∀ y ∈ scope.names, y.2 = .local → scope.names.lookup y.1 = some .local) (_ : X.Ok) : BlkOk X scope [] N' N'.length [] where
  clos := closureFor_none hf
  cell := hc
  kind := hk
  names := hn
  sub := fun _ _ h => by cases h
  has := fun x h => by
    rw [relabel_nofree hf] at h
    rcases h with h | h
    · exact absurd rfl (hc _ (PySem.mem_of_lookup h))
    · exact absurd rfl (hf _ (PySem.mem_of_lookup h))
  len := by simp
  cap := fun j i h => by simp at h
noncomputable def closL (cells : List (Str × Addr)) : List (Str × NameKind) → List (Str × Addr) → List (Str × Addr)
  | [], acc => acc
  | (n, k) :: r, acc => if k == .free then closL cells r ((n, (cells.lookup n).getD 0) :: acc) else closL cells r acc
theorem closL_eq {env : Env} : ∀ (names : List (Str × NameKind)) (acc : List (Str × Addr)), (∀ y ∈ names, y.2 = .free → ∃ c, env.cells.lookup y.1 = some c) →
    (forIn names acc fun (x : Str × NameKind) cs => (match x with | (name, kind) => if (kind == .free) = true then do let c ← cellOf env name; pure (ForInStep.yield ((name, c) :: cs)) else pure (ForInStep.yield cs) : Sem (ForInStep (List (Str × Addr))))) = pure (closL env.cells names acc)
  | [], acc, _ => rfl
  | (n, k) :: r, acc, h => by
    rw [List.forIn_cons]
    unfold closL
    by_cases hk : (k == NameKind.free) = true
    · obtain ⟨c, hc⟩ := h (n, k) List.mem_cons_self (by simpa using hk)
      have e : cellOf env n = pure c := by unfold cellOf; rw [show env.cells.lookup n = some c from hc]
      have hc' : env.cells.lookup n = some c := hc
      simp only [hk, if_true, e, pure_bind, hc', Option.getD_some]
      exact closL_eq r _ fun y hy => h y (List.mem_cons_of_mem _ hy)
    · simp only [hk, if_false, pure_bind]
      exact closL_eq r acc fun y hy => h y (List.mem_cons_of_mem _ hy)
theorem closureFor_eq {scope : Scope} {env : Env} (h : ∀ y ∈ scope.names, y.2 = .free → ∃ c, env.cells.lookup y.1 = some c) : closureFor scope env = pure (closL env.cells scope.names []) := by
  unfold closureFor
  have e := closL_eq (env := env) scope.names [] h
  simp only [bind_pure_comp] at e ⊢
  first
    | exact e
    | (rw [e]; rfl)
    | (refine Eq.trans ?_ e; rfl)
theorem closL_mem {cells : List (Str × Addr)} : ∀ {names : List (Str × NameKind)} {acc : List (Str × Addr)} {x : Str} {c : Addr}, (x, c) ∈ closL cells names acc → (x, c) ∈ acc ∨ ((x, NameKind.free) ∈ names ∧ c = (cells.lookup x).getD 0)
  | [], acc, x, c, h => .inl h
  | (n, k) :: r, acc, x, c, h => by
    unfold closL at h
    by_cases hk : (k == NameKind.free) = true
    · rw [if_pos hk] at h
      have hk' : k = .free := by simpa using hk
      rcases closL_mem h with h | ⟨h1, h2⟩
      · rcases List.mem_cons.mp h with e | h
        · cases e
          subst hk'
          exact .inr ⟨List.mem_cons_self, rfl⟩
        · exact .inl h
      · exact .inr ⟨List.mem_cons_of_mem _ h1, h2⟩
    · rw [if_neg hk] at h
      rcases closL_mem h with h | ⟨h1, h2⟩
      · exact .inl h
      · exact .inr ⟨List.mem_cons_of_mem _ h1, h2⟩
theorem closL_has {cells : List (Str × Addr)} : ∀ {names : List (Str × NameKind)} {acc : List (Str × Addr)} {x : Str}, (x, NameKind.free) ∈ names ∨ (∃ c, (x, c) ∈ acc) → ∃ c, (x, c) ∈ closL cells names acc
  | [], acc, x, h => by
    rcases h with h | h
    · cases h
    · exact h
  | (n, k) :: r, acc, x, h => by
    unfold closL
    by_cases hk : (k == NameKind.free) = true
    · rw [if_pos hk]
      refine closL_has ?_
      rcases h with h | ⟨c, h⟩
      · rcases List.mem_cons.mp h with e | h
        · cases e
          exact .inr ⟨_, List.mem_cons_self⟩
        · exact .inl h
      · exact .inr ⟨c, List.mem_cons_of_mem _ h⟩
    · rw [if_neg hk]
      refine closL_has ?_
      rcases h with h | h
      · rcases List.mem_cons.mp h with e | h
        · cases e
          exact absurd (beq_self_eq_true NameKind.free) hk
        · exact .inl h
      · exact .inr h
theorem lookup_of_mem {l : List (Str × Addr)} {x : Str} {c : Addr} (h : (x, c) ∈ l) : ∃ c', l.lookup x = some c' := by
  induction l with
  | nil => cases h
  | cons p r ih =>
    obtain ⟨n, a⟩ := p
    by_cases e : (x == n) = true
    · exact ⟨a, by simp [List.lookup_cons, e]⟩
    · have e' : (x == n) = false := by simpa using e
      rcases List.mem_cons.mp h with h | h
      · cases h; simp at e
      · obtain ⟨c', q⟩ := ih h
        exact ⟨c', by simp only [List.lookup_cons, e']; exact q⟩
theorem relabel_free {env : Env} : ∀ {names : List (Str × NameKind)} {x : Str} {k : NameKind}, (names.map fun (n, k) => if (k == NameKind.free && env.scope.kind == .function && env.kindOf n == some .cell) then (n, NameKind.cell) else (n, k)).lookup x = some k → (k = .cell ∨ k = .free) → (∀ y ∈ names, y.2 ≠ .cell) → (x, NameKind.free) ∈ names
  | [], x, k, h, _, _ => by cases h
  | (n, j) :: r, x, k, h, hk, hc => by
    rw [List.map_cons] at h
    by_cases e : (x == n) = true
    · have e' : x = n := by simpa using e
      subst e'
      have hj : j ≠ .cell := hc (x, j) List.mem_cons_self
      by_cases q : (j == NameKind.free && env.scope.kind == .function && env.kindOf x == some .cell) = true
      · have : j = .free := by
          rw [Bool.and_eq_true, Bool.and_eq_true] at q
          simpa using q.1.1
        subst this
        exact List.mem_cons_self
      · simp only [q, if_false, List.lookup_cons, beq_self_eq_true] at h
        have h' : j = k := by simpa using h
        subst h'
        rcases hk with z | z
        · exact absurd z hj
        · subst z; exact List.mem_cons_self
    · have e' : (x == n) = false := by simpa using e
      refine List.mem_cons_of_mem _ (relabel_free (env := env) (k := k) ?_ hk fun y hy => hc y (List.mem_cons_of_mem _ hy))
      have h' : List.lookup x ((if (j == NameKind.free && env.scope.kind == .function && env.kindOf n == some .cell) = true then (n, NameKind.cell) else (n, j)) :: _) = some k := h
      by_cases q : (j == NameKind.free && env.scope.kind == .function && env.kindOf n == some .cell) = true
      · rw [if_pos q, List.lookup_cons, e'] at h'; exact h'
      · rw [if_neg q, List.lookup_cons, e'] at h'; exact h'
theorem relabel_cell {env : Env} {x : Str} (h1 : env.scope.kind = .function) (h2 : env.kindOf x = some .cell) : ∀ {names : List (Str × NameKind)}, names.lookup x = some .free → (names.map fun (n, k) => if (k == NameKind.free && env.scope.kind == .function && env.kindOf n == some .cell) then (n, NameKind.cell) else (n, k)).lookup x = some .cell
  | [], h => by cases h
  | (n, j) :: r, h => by
    rw [List.map_cons]
    by_cases e : (x == n) = true
    · have e' : x = n := by simpa using e
      subst e'
      simp only [List.lookup_cons, beq_self_eq_true] at h
      have hj : j = .free := by simpa using h
      subst hj
      have q : ((NameKind.free == NameKind.free) && env.scope.kind == .function && env.kindOf x == some .cell) = true := by rw [h1, h2]; rfl
      show List.lookup x ((if ((NameKind.free == NameKind.free) && env.scope.kind == .function && env.kindOf x == some .cell) = true then (x, NameKind.cell) else (x, NameKind.free)) :: _) = _
      rw [if_pos q, List.lookup_cons, beq_self_eq_true]
    · have e' : (x == n) = false := by simpa using e
      simp only [List.lookup_cons, e'] at h
      by_cases q : (j == NameKind.free && env.scope.kind == .function && env.kindOf n == some .cell) = true
      · show List.lookup x ((if (j == NameKind.free && env.scope.kind == .function && env.kindOf n == some .cell) = true then (n, NameKind.cell) else (n, j)) :: _) = _
        rw [if_pos q, List.lookup_cons, e']; exact relabel_cell h1 h2 h
      · show List.lookup x ((if (j == NameKind.free && env.scope.kind == .function && env.kindOf n == some .cell) = true then (n, NameKind.cell) else (n, j)) :: _) = _
        rw [if_neg q, List.lookup_cons, e']; exact relabel_cell h1 h2 h
noncomputable def capOk (N' : List Str) (nt : Nat) (ci : List Nat) (Xn : List Str) (fsc scope : Scope) : Bool :=
  (List.range ci.length).all fun j => match ci[j]?, N'[nt + j]? with
    | some i, some x => Xn[i]? == some x && fsc.names.lookup x == some .cell && scope.names.lookup x == some .free
    | _, _ => false
theorem blkC {nt : Nat} {ci : List Nat} (Xn : List Str) (fsc : Scope) (hN : X.N = Xn) (hs : X.env.scope = fsc) (hc : ∀ y ∈ scope.names, y.2 ≠ .cell) (hk : scope.kind = .function) (hn : ∀ y ∈ scope.names, y.2 = .local → scope.names.lookup y.1 = some .local)
    (hfr : ∀ y ∈ scope.names, y.2 = .free → fsc.names.lookup y.1 = some .cell) (hl : N'.length = nt + ci.length) (cap : capOk N' nt ci Xn fsc scope = true) (ok : X.Ok) : BlkOk X scope (closL X.env.cells scope.names []) N' nt ci := by
  have fr : ∀ y ∈ scope.names, y.2 = .free → ∃ c, X.env.cells.lookup y.1 = some c := fun y hy e => ok.has y.1 (.inl (by show X.env.scope.names.lookup y.1 = _; rw [hs]; exact hfr y hy e))
  have sub : ∀ x c, (closL X.env.cells scope.names []).lookup x = some c → X.env.cells.lookup x = some c := fun x c h => by
    rcases closL_mem (PySem.mem_of_lookup h) with z | ⟨z1, z2⟩
    · cases z
    · obtain ⟨c', e⟩ := fr _ z1 rfl
      rw [show X.env.cells.lookup x = some c' from e] at z2 ⊢
      rw [z2]; rfl
  refine ⟨closureFor_eq fr, hc, hk, hn, sub, fun x h => ?_, hl, fun j i h => ?_⟩
  · have hm : (x, NameKind.free) ∈ scope.names := by
      rcases h with h | h
      · exact relabel_free h (.inl rfl) hc
      · exact relabel_free h (.inr rfl) hc
    obtain ⟨c, q⟩ := closL_has (cells := X.env.cells) (acc := []) (.inl hm)
    exact lookup_of_mem q
  · unfold capOk at cap
    rw [List.all_eq_true] at cap
    have hj : j < ci.length := (List.getElem?_eq_some_iff.mp h).1
    have q := cap j (List.mem_range.mpr hj)
    rw [h] at q
    cases e : N'[nt + j]? with
    | none => rw [e] at q; cases q
    | some x =>
      rw [e] at q
      simp only [Bool.and_eq_true, beq_iff_eq] at q
      refine ⟨x, rfl, by rw [hN]; exact q.1.1, by rw [hs]; exact q.1.2, .inl (relabel_cell ok.kind ?_ q.2)⟩
      show X.env.scope.names.lookup x = _
      rw [hs]; exact q.1.2
end
theorem Same.sqt {K : PySem.W.Frag} {H H' : Hp} {a : Addr} {xs : List V} (e : Same H H') (h : SqT K H a xs) : SqT K H' a xs := by
  rcases h with (h | ⟨o, h⟩) | h
  · exact .inl (.inl (e _ _ h))
  · exact .inl (.inr ⟨o, e _ _ h⟩)
  · exact .inr h
theorem same_new {H : Hp} {p : Addr} (h : H p = none) (o : HO) : Same H (upd H p o) := fun b u q => by rw [upd_ne (ne_of_none q h)]; exact q
theorem keepT_lst {K : PySem.W.Frag} {H : Hp} {l : Addr} {xs : List V} {o : HO} (h : H l = some (.lst xs)) : KeepT K H (upd H l o) := fun a ys q => by
  rcases q with (q | ⟨ob, q⟩) | q
  · exact .inl (.inl (by rw [upd_ne (ne_of q h (by intro z; cases z))]; exact q))
  · exact .inl (.inr ⟨ob, by rw [upd_ne (ne_of q h (by intro z; cases z))]; exact q⟩)
  · exact .inr q
theorem Same.write {H0 H : Hp} {l : Addr} {o : HO} (e : Same H0 H) (h : H0 l = none) : Same H0 (upd H l o) := fun b u q => by
  rw [upd_ne (ne_of_none q h)]; exact e b u q
theorem sqL_ne {K : PySem.W.Frag} {H : Hp} {l a : Addr} {xs : List V} {o : HO} (q : SqL K H a xs) (h : a ≠ l) : SqL K (upd H l o) a xs := by
  rcases q with (q | ⟨ob, q⟩) | q
  · exact .inl (.inl (by rw [upd_ne h]; exact q))
  · exact .inl (.inr ⟨ob, by rw [upd_ne h]; exact q⟩)
  · exact .inr q
theorem cxOf_K (CX : CXT) (P : Program) (w : World) (K : PySem.W.Frag) (mg : Str → Option Value) (base : Heap) (N : List Str) (qual : Str) (scope : Scope) (f : Addr) (cd : Value) (A : Around) (outer : List Env) (s : Shared) (H : Hp) (E : XK) : (cxOf CX P w K mg base N qual scope f cd A outer s H E).K = K := rfl
theorem blk_K (X : Cx) (N' : List Str) (scope : Scope) (cl : List (Str × Addr)) (s : Shared) (H : Hp) (C : Addr) (ex : List Addr) : (blk X N' scope cl s H C ex).K = X.K := rfl
theorem scal_int (a b : Int) : scal (.int a) (.int b) = true := rfl
theorem scal_str (a b : Str) : scal (.str a) (.str b) = true := rfl
theorem scal_bl (a b : Bool) : scal (.bl a) (.bl b) = true := rfl
theorem mul_left {i j : Int} (h1 : -(2 ^ 64) < i) (h2 : i < 2 ^ 64) : CMul i j := .inl ⟨h1, h2⟩
theorem mul_right {i j : Int} (h1 : -(2 ^ 64) < j) (h2 : j < 2 ^ 64) : CMul i j := .inr ⟨h1, h2⟩
theorem seq_then {t u : TS} {D : Ends} {σ : St} {H : Hp} (R : St → Hp → Prop) (rest : ∀ σ' H', R σ' H' → u D σ' H') (first : ∀ C : St → Hp → Prop, (∀ σ' H', R σ' H' → C σ' H') → t { D with nx := C } σ H) : tSeq t u D σ H := first (u D) rest
theorem lcW_range {K : PySem.W.Frag} {σ0 : St} {n : Nat} {lo : Int} {acc : Addr} {g : TG} {te : TE} {Q : VK} {H : Hp} (Pv : Nat → List V → Hp → Prop) (h0 : Pv 0 [] (upd H acc (.lst []))) (hl : ∀ i ys H2, i ≤ n → Pv i ys H2 → H2 acc = some (.lst ys) ∧ ys.length < sizeLine)
    (hs : ∀ i ys H2, i < n → Pv i ys H2 → ∀ C : VK, (∀ y H5, H5 acc = some (.lst ys) → Pv (i + 1) (ys ++ [y]) (upd H5 acc (.lst (ys ++ [y]))) → C y H5) → g (.int (lo + i)) σ0 H2 fun σ4 H4 => Wk σ0 σ4 ∧ te σ4 H4 C) (hd : ∀ ys H2, Pv n ys H2 → Q (.ref acc) H2) :
    ∃ W : Nat → Nat → List V → Hp → Prop, (∃ m, W 0 m [] (upd H acc (.lst []))) ∧ lcW K σ0 (Itr lo n) acc g te Q W := by
  refine ⟨fun i m ys H2 => m = n - i ∧ i ≤ n ∧ Pv i ys H2, ⟨n, by simp, Nat.zero_le _, h0⟩, ?_⟩
  rintro i m ys H2 ⟨rfl, hi, p⟩
  obtain ⟨a, b⟩ := hl i ys H2 hi p
  refine ⟨a, b, ?_⟩
  by_cases hlt : i < n
  · refine .inr ⟨hlt, fun x H3 y => ?_⟩
    obtain ⟨e, y⟩ := y
    subst e y
    exact hs i ys _ hlt p _ fun v H5 z1 z2 => ⟨z1, n - (i + 1), by omega, rfl, hlt, z2⟩
  · have e : i = n := by omega
    subst e
    exact .inl ⟨Nat.le_refl _, hd ys H2 p⟩
theorem lcW_list {K : PySem.W.Frag} {σ0 : St} {a : Addr} {xs : List V} {acc : Addr} {g : TG} {te : TE} {Q : VK} {H : Hp} (Pv : Nat → List V → Hp → Prop) (h0 : Pv 0 [] (upd H acc (.lst []))) (hl : ∀ i ys H2, i ≤ xs.length → Pv i ys H2 → H2 acc = some (.lst ys) ∧ ys.length < sizeLine ∧ SqL K H2 a xs)
    (hs : ∀ i x ys H2, xs[i]? = some x → Pv i ys H2 → ∀ C : VK, (∀ y H5, H5 acc = some (.lst ys) → Pv (i + 1) (ys ++ [y]) (upd H5 acc (.lst (ys ++ [y]))) → C y H5) → g x σ0 H2 fun σ4 H4 => Wk σ0 σ4 ∧ te σ4 H4 C) (hd : ∀ ys H2, Pv xs.length ys H2 → Q (.ref acc) H2) :
    ∃ W : Nat → Nat → List V → Hp → Prop, (∃ m, W 0 m [] (upd H acc (.lst []))) ∧ lcW K σ0 (Itl K a) acc g te Q W := by
  refine ⟨fun i m ys H2 => m = xs.length - i ∧ i ≤ xs.length ∧ Pv i ys H2, ⟨xs.length, by simp, Nat.zero_le _, h0⟩, ?_⟩
  rintro i m ys H2 ⟨rfl, hi, p⟩
  obtain ⟨e1, e2, q⟩ := hl i ys H2 hi p
  refine ⟨e1, e2, ?_⟩
  by_cases hlt : i < xs.length
  · refine .inr ⟨⟨xs, xs[i], q, by simp [hlt]⟩, fun x H3 y => ?_⟩
    obtain ⟨e, y⟩ := y
    subst e
    exact hs i x ys _ (y xs q) p _ fun v H5 z1 z2 => ⟨z1, xs.length - (i + 1), by omega, rfl, hlt, z2⟩
  · have e : i = xs.length := by omega
    subst e
    exact .inl ⟨⟨xs, q, Nat.le_refl _⟩, hd ys H2 p⟩
theorem str_ext {x y : Str} (h : x.cps.toList = y.cps.toList) : x = y := by
  obtain ⟨a⟩ := x
  obtain ⟨b⟩ := y
  have : a = b := by simpa using congrArg List.toArray h
  rw [this]
theorem cps_append (x y : Str) : (x ++ y).cps.toList = x.cps.toList ++ y.cps.toList := by
  show (x.cps ++ y.cps).toList = _
  simp
theorem len_cps (x : Str) : x.length = x.cps.toList.length := by simp [Str.length]
theorem slice_cps (x : Str) (a b : Nat) (hab : a ≤ b) (hb : b ≤ x.length) : (Txt.slice x (some (a : Int)) (some (b : Int))).cps.toList = (x.cps.toList.drop a).take (b - a) := by
  have e : Txt.slice x (some (a : Int)) (some (b : Int)) = StrLaws.sliceText x (some (a : Int)) (some (b : Int)) := rfl
  rw [e, StrLaws.sliceText_nat x hab hb]
end L2
set_option Elab.async false
set_option linter.all false
set_option maxRecDepth 100000
set_option maxHeartbeats 2000000
namespace Ken
open PySem L2
theorem boot_len : bootBuiltins "len" = some (.builtin "len") := by decide +kernel
theorem boot_isinstance : bootBuiltins "isinstance" = some (.builtin "isinstance") := by decide +kernel
theorem boot_max : bootBuiltins "max" = some (.builtin "max") := by decide +kernel
theorem boot_min : bootBuiltins "min" = some (.builtin "min") := by decide +kernel
theorem boot_sorted : bootBuiltins "sorted" = some (.builtin "sorted") := by decide +kernel
theorem boot_all : bootBuiltins "all" = some (.builtin "all") := by decide +kernel
theorem boot_bool : bootBuiltins "bool" = some (.type "bool") := by decide +kernel
theorem boot_list : bootBuiltins "list" = some (.type "list") := by decide +kernel
theorem boot_set : bootBuiltins "set" = some (.type "set") := by decide +kernel
noncomputable def Word (x : Str) : Prop := 1 ≤ x.cps.toList.length ∧ x.cps.toList.length ≤ 8 ∧ ∀ c ∈ x.cps.toList, 97 ≤ c ∧ c ≤ 122
theorem Word.strOk {x : Str} (h : Word x) : PySem.PyData.strOk x = true := by
  unfold PySem.PyData.strOk
  rw [Array.all_eq_true_iff_forall_mem]
  intro c hc
  have := h.2.2 c (by simpa using hc)
  exact decide_eq_true (by omega)
end Ken
set_option Elab.async false
set_option linter.all false
set_option maxRecDepth 100000
set_option maxHeartbeats 2000000
namespace Ken
open PySem L2
noncomputable def mix (c k : Int) : Int := ((c + 1) * (48271 + 118 * k) % 2147483629 / 977 * 16807 + (c + 1) * (48271 + 118 * k) % 2147483629 * (k * k + 7) + k) % 2147483587
theorem mix_nn (c k : Int) : 0 ≤ mix c k := by unfold mix; exact Int.emod_nonneg _ (by decide)
noncomputable def sp_mix : Sp := fun vs H Q _ => ∃ c k : Int, vs = [.int c, .int k] ∧ 0 ≤ k ∧ k ≤ 100000 ∧ Q (.int (mix c k)) H
noncomputable def cellOf (ns : List Int) (k : Int) : Int := mix (if k < (ns.length : Int) then (ns[k.toNat]?.getD 0) % 2147483647 else 0) (k + 101)
theorem cell_nn (ns : List Int) (k : Int) : 0 ≤ cellOf ns k := mix_nn _ _
noncomputable def sp_cell (K : PySem.W.Frag) : Sp := fun vs H Q _ => ∃ (a : Addr) (ns : List Int) (k : Int), vs = [.ref a, .int k] ∧ SqL K H a (ns.map V.int) ∧ ns.length ≤ 63 ∧ 0 ≤ k ∧ k ≤ 1000 ∧ Q (.int (cellOf ns k)) H
noncomputable def Words (ws : List Str) : Prop := 2 ≤ ws.length ∧ ws.length ≤ 6 ∧ ∀ w ∈ ws, Word w
noncomputable def sp_words : Sp := fun vs H Q _ => ∃ c m : Int, vs = [.int c, .int m] ∧ 0 ≤ c ∧ 2 ≤ m ∧ m ≤ 6 ∧
  ∀ (r : Addr) (H' : Hp) (ws : List Str), Same H H' → H r = none → H' r = some (.lst (ws.map V.str)) → Words ws → Q (.ref r) H'
theorem word_mul {c : Nat} {n : Int} (h1 : 97 ≤ c) (h2 : c ≤ 122) (h3 : 1 ≤ n) (h4 : n ≤ 8) : Word (Txt.mul ⟨#[c]⟩ n) := by
  unfold Word
  rw [PyProof.Rows.mul_one_list]
  refine ⟨by rw [List.length_replicate]; omega, by rw [List.length_replicate]; omega, fun d hd => ?_⟩
  rw [List.mem_replicate] at hd
  omega
theorem word_mid {c d : Nat} {a b : Int} (h1 : 97 ≤ c) (h2 : c ≤ 122) (h3 : 97 ≤ d) (h4 : d ≤ 122) (h5 : 0 ≤ a) (h6 : 0 ≤ b) (h7 : a + b ≤ 7) : Word (Txt.mul ⟨#[c]⟩ a ++ ⟨#[d]⟩ ++ Txt.mul ⟨#[c]⟩ b) := by
  unfold Word
  rw [cps_append, cps_append, PyProof.Rows.mul_one_list, PyProof.Rows.mul_one_list]
  refine ⟨by simp only [List.length_append, List.length_replicate, List.length_cons, List.length_nil]; omega, by simp only [List.length_append, List.length_replicate, List.length_cons, List.length_nil]; omega, fun e he => ?_⟩
  simp only [List.mem_append, List.mem_replicate, List.mem_cons, List.not_mem_nil, or_false] at he
  omega
theorem mul_len {c : Nat} {n : Int} : (Txt.mul ⟨#[c]⟩ n).length = n.toNat := by rw [len_cps, PyProof.Rows.mul_one_list, List.length_replicate]
noncomputable def wordB (x : Str) : Bool := decide (1 ≤ x.cps.toList.length) && decide (x.cps.toList.length ≤ 8) && x.cps.toList.all fun c => decide (97 ≤ c) && decide (c ≤ 122)
theorem word_of {x : Str} (h : wordB x = true) : Word x := by
  unfold wordB at h
  simp only [Bool.and_eq_true, decide_eq_true_eq, List.all_eq_true] at h
  exact ⟨h.1.1, h.1.2, fun c hc => by have := h.2 c hc; simpa using this⟩
noncomputable def Six (H0 H : Hp) (p : Addr) (ws : List Str) : Prop := Same H0 H ∧ H0 p = none ∧ H p = some (.lst (ws.map V.str)) ∧ ws.length = 6 ∧ ∀ w ∈ ws, Word w
theorem cut_map (ws : List Str) (lo hi : Option Int) : cutV (ws.map V.str) lo hi = ((ws.drop (HT.sIx ws.length 0 lo)).take (HT.sIx ws.length ws.length hi - HT.sIx ws.length 0 lo)).map V.str := by
  unfold cutV
  rw [List.length_map, ← List.map_drop, ← List.map_take]
theorem at_list {α : Type} {xs : List α} {i : Int} (h0 : 0 ≤ i) (h1 : i < (xs.length : Int)) : ∃ v, v ∈ xs ∧ atI xs i = some v := by
  obtain ⟨j, rfl⟩ := Int.eq_ofNat_of_zero_le h0
  have hj : j < xs.length := by omega
  exact ⟨xs[j], List.getElem_mem hj, atI_nat (List.getElem?_eq_getElem hj)⟩
end Ken
set_option Elab.async false
set_option linter.all false
set_option maxRecDepth 100000
set_option maxHeartbeats 2000000
namespace Ken
open PySem L2
theorem small1M {n : Nat} (h : n ≤ 1000000) : n < sizeLine := Nat.lt_of_le_of_lt h (by rw [sizeLine_eq]; decide)
theorem canLay_list {ds : List PyData} (h : ∀ d ∈ ds, d.canLay0 = true) : (PyData.list ds).canLay0 = true := by
  show PyData.canLayAll0 ds = true
  induction ds with
  | nil => rfl
  | cons d ds ih =>
    show (d.canLay0 && PyData.canLayAll0 ds) = true
    rw [h d List.mem_cons_self, ih fun e he => h e (List.mem_cons_of_mem _ he)]; rfl
end Ken
set_option Elab.async false
set_option linter.all false
set_option maxRecDepth 100000
set_option maxHeartbeats 2000000
namespace Ken
open PySem L2
noncomputable def sp_law (K : PySem.W.Frag) : Sp := fun vs H Q _ => ∃ (a : Addr) (ns : List Int), vs = [.ref a] ∧ SqL K H a (ns.map V.int) ∧ ns.length ≤ 63 ∧ ∀ H', Q (.bl true) H'
theorem paired_get {α β : Type} {F : α → β → Prop} : ∀ {l : List α} {m : List β} {i : Nat} {x : α}, Paired F l m → l[i]? = some x → ∃ y, m[i]? = some y ∧ F x y
  | _, _, 0, _, .cons h t, e => by cases e; exact ⟨_, rfl, h⟩
  | _, _, i + 1, _, .cons h t, e => paired_get (i := i) t (by simpa using e)
end Ken
set_option Elab.async false
set_option linter.all false
set_option maxRecDepth 100000
set_option maxHeartbeats 2000000
namespace L2
open PySem PySem.Spec PyProof.Rows
noncomputable def Ite (K : PySem.W.Frag) (l : Addr) : It :=
  ⟨fun i H => ∃ xs x, SqL K H l xs ∧ xs[i]? = some x,
   fun i H v H' => ∃ T x, v = .ref T ∧ H T = none ∧ H' = upd H T (.tup [.int i, x]) ∧ ∀ xs, SqL K H l xs → xs[i]? = some x,
   fun i H => ∃ xs, SqL K H l xs ∧ xs.length ≤ i⟩
noncomputable def enSt (e it l : Addr) (i : Nat) (h : Heap) : Prop := (∃ old, IsEnum h e it i old) ∧ h.IsListIter it l i
theorem turn_enum {P : Program} {w : World} {K : PySem.W.Frag} {elts : List Expr} {k0 : Nat} {tpos : Pos} (e it l : Addr) (hne : e ≠ it) :
    Turn P w K (.Tuple elts k0 tpos) (Ite K l) [e, it] e (enSt e it l) where
  mem := by simp
  obj := fun i h st b hb => by
    obtain ⟨⟨old, hz⟩, ⟨o1, e1, c1, d1⟩⟩ := st
    simp only [List.mem_cons, List.not_mem_nil, or_false] at hb
    rcases hb with rfl | rfl
    · exact ⟨_, hz, fun v q => by cases q⟩
    · exact ⟨o1, e1, fun v q => by rw [d1] at q; cases q⟩
  keep := fun i h h' st k => by
    obtain ⟨⟨old, hz⟩, h1⟩ := st
    exact ⟨⟨old, k e (by simp) _ hz⟩, h1.at fun o q => k it (by simp) o q⟩
  item := by
    intro X hP hw hK hc i pins s σ H E I hf st hg
    subst hP hw hK
    obtain ⟨⟨old, hz⟩, h1⟩ := st
    obtain ⟨xs, x, q1, hx⟩ := hg
    obtain ⟨its1, rv1, p1, _⟩ := I.list q1
    obtain ⟨u1, hu1, ru1⟩ := rv1.get hx
    refine wpAny_pyNext_enum_item hz h1 p1.isList (x := u1) (by simpa using hu1) hne fun h' a1 a2 a5 a6 kk => ?_
    have hT : H s.heap.objs.size = none := I.hok.fresh (Nat.le_refl _)
    have nch : ∀ b u, H b = some u → b ∉ [e, it] := fun b u q hb => by rw [(hf b hb).1] at q; cases q
    have kk' : ∀ b o, b ∉ [e, it] → s.heap.get? b = some o → h'.get? b = some o := fun b o hb q => by
      simp only [List.mem_cons, List.not_mem_nil, or_false, not_or] at hb
      exact kk b o hb.1 hb.2 q
    have ltT : ∀ b o, s.heap.get? b = some o → b ≠ s.heap.objs.size := fun b o q => Nat.ne_of_lt (Heap.lt_size q)
    have hokT : HOk X.prog X.w (upd H s.heap.objs.size (.tup [.int i, x])) h' := fun b ob q => by
      by_cases hb : b = s.heap.objs.size
      · subst hb
        rw [upd_same] at q
        cases q
        exact ⟨by show 2 ≤ sizeLine; decide, [.int i s.toks, u1], .cons ⟨_, rfl⟩ (.cons ru1 .nil), _, a5, rfl, _, rfl⟩
      · rw [upd_ne hb] at q
        refine (I.hok b ob q).stay (fun c v hcv q' => kk' c v ?_ q') (fun c q' => by rw [upd_ne (ne_of_none q' hT)]; exact q') fun c xs q' => by rw [upd_ne (ne_of_none q' hT)]; exact q'
        rcases hcv with rfl | hcv
        · exact nch _ _ q
        · exact nch _ _ hcv
    have I1 : Inv X pins σ (upd H s.heap.objs.size (.tup [.int i, x])) { s with heap := h', toks := s.toks + 1 } := by
      refine I.step (g' := s.gens) (d' := s.drawn) (t' := s.toks + 1) (ch := [e, it]) (fun b hb => ?_) (fun b o _ _ hb q _ => kk' b o hb q) (fun b o _ _ hb q _ => ⟨o.slots, kk' b o hb q⟩) (fun b o _ q n => by rw [upd_ne (ltT b o q)]; exact n) (fun b o hb q => ⟨o, kk' b o hb q⟩)
        (fun b xs q => by rw [upd_ne (ne_of_none q hT)]; exact q) (fun b o u q => by rw [upd_ne (ne_of_none q hT)]; exact q) (fun b ps q => ⟨#[], by rw [upd_ne (ne_of_none q hT), q]; simp⟩) (fun m hm => ?_) hokT I.bare
      · obtain ⟨f0, f1, f2, f3, f4, f5⟩ := hf b hb
        exact ⟨f3, f1, f4, f5⟩
      · obtain ⟨o, es, ep, ho, r⟩ := hm
        refine ⟨o, es, ep, kk' _ o ?_ ho, r⟩
        simp only [List.mem_cons, List.not_mem_nil, or_false, not_or]
        exact ⟨((hf e (by simp)).2.1).symm, ((hf it (by simp)).2.1).symm⟩
    refine ⟨_, rfl, wpAny_letOwnedTupleGo_enum a1 fun h'' hz'' sb => ?_⟩
    obtain ⟨f0, f1, f2, f3, f4, f5⟩ := hf e (by simp)
    have ltz : ∀ b ∈ [e, it], b ≠ s.heap.objs.size := fun b hb => by
      simp only [List.mem_cons, List.not_mem_nil, or_false] at hb
      obtain ⟨o1, e1, _⟩ := h1
      rcases hb with rfl | rfl
      · exact ltT _ _ hz
      · exact ltT _ _ e1
    have fn : ∀ b ∈ [e, it], upd H s.heap.objs.size (.tup [.int i, x]) b = none := fun b hb => by rw [upd_ne (ltz b hb)]; exact (hf b hb).1
    have I2 : Inv X pins σ (upd H s.heap.objs.size (.tup [.int i, x])) { s with heap := h'', toks := s.toks + 1 } := I1.turned (t' := s.toks + 1) (fun b o hb q => (sb.2 b hb).trans q) (fn e (by simp)) f1 f3 f4 f5
    refine ⟨.ref s.heap.objs.size, _, I2, rfl, ⟨_, x, rfl, hT, rfl, fun ys hy' => by rw [I.list_inj hy' q1]; exact hx⟩, ⟨⟨u1, ?_⟩, ?_⟩, fn⟩
    · rw [Int.natCast_add]; exact hz''
    · exact a2.extBut sb.extBut (Ne.symm hne)
  done := by
    intro X hP hw hK hc i pins s σ H E I hf st hg
    subst hP hw hK
    obtain ⟨⟨old, hz⟩, h1⟩ := st
    obtain ⟨xs, q1, hend⟩ := hg
    obtain ⟨its1, rv1, p1, _⟩ := I.list q1
    have e1 := rv1.length
    refine wpAny_pyNext_enum_end (I.ok.hd hc) hz h1 p1.isList (by simp; omega) fun h' eb => ⟨rfl, ?_⟩
    obtain ⟨f0, f1, f2, f3, f4, f5⟩ := hf it (by simp)
    exact I.turned (t' := s.toks) (fun b o hb q => eb b o hb q) f0 f1 f3 f4 f5
  self := fun _ _ _ _ _ st h => by
    obtain ⟨⟨old, hz⟩, _⟩ := st
    exact wpAny_pyIter_enum hz h
section
variable {X : Cx}
noncomputable def iEnum (K : PySem.W.Frag) (ta : TA) : TI := fun σ H R => ta σ H fun vs H1 => ∃ a, vs = [.ref a] ∧ (∃ xs, SqL K H1 a xs) ∧ R (Ite K a) H1
theorem pi_enum {a : Expr} {ta : TA} {p pos : Pos} {elts : List Expr} {k0 : Nat} {tpos : Pos} (hg : Gl X "enumerate") (hm : X.mg "enumerate" = none) (ha : PA X [a] ta) (hs : starEach [a] X.env = [(false, eval a X.env)] := by rfl) :
    PI X (.Tuple elts k0 tpos) (.Call (.Name "enumerate" p) [a] [] pos) (iEnum X.K ta) := by
  intro pins s σ H R I h
  refine Call_ (ld_blt I hg hm (by first | exact PySem.boot_enumerate | rfl) (PyProof.Rows.callWith_type1 (thn (ha pos pins s σ H _ I h) fun us s1 ⟨vs, H1, I1, r1, q1⟩ => ?_) (by rw [hs]; rfl) rfl))
  obtain ⟨l, e, ⟨xs, q1⟩, q⟩ := q1
  subst e
  obtain ⟨u1, rfl, ru1⟩ := r1.one
  cases ru1
  obtain ⟨its1, rv1, p1, _⟩ := I1.list q1
  refine call_enumerate_list p1.isList fun h' hz hi _ hk => wpAny_pyIter_enum hz ?_
  have I2 : Inv X pins σ H1 { s1 with heap := h' } := I1.kept (t' := s1.toks) hk
  refine ⟨_, _, _, _, H1, rfl, I2, turn_enum _ _ l (Nat.succ_ne_self _), ⟨⟨_, hz⟩, hi⟩, fun b hb => ?_, q⟩
  have hb' : s1.heap.objs.size ≤ b := by
    simp only [List.mem_cons, List.not_mem_nil, or_false] at hb
    rcases hb with rfl | rfl <;> omega
  exact I1.fpOk hb' (I1.hok.fresh hb')
theorem op_le_str : OpR X (compareOp .LtE) (fun x y H Q => ∃ i j, x = .str i ∧ y = .str j ∧ Q (.bl (!decide (j.cps.toList < i.cps.toList))) H) := by
  intro pins s σ H x y v u Q I rx ry h
  obtain ⟨i, j, rfl, rfl, q⟩ := h
  obtain ⟨t, rfl⟩ := rx
  obtain ⟨t', rfl⟩ := ry
  exact P.le_str (fin_bl I q rfl)
end
theorem for_enum {K : PySem.W.Frag} {a : Addr} {xs : List V} {g : TG} {tb : TS} {D : Ends} {σ : St} {H : Hp} (Pv : Nat → St → Hp → Prop) (h0 : Pv 0 σ H) (hl : ∀ i σ H, i ≤ xs.length → Pv i σ H → SqL K H a xs)
    (hs : ∀ i x σ H T, xs[i]? = some x → H T = none → Pv i σ H → g (.ref T) σ (upd H T (.tup [.int i, x])) fun σ2 H2 => tb { D with nx := Pv (i + 1), ct := Pv (i + 1), bk := D.nx } σ2 H2) (hd : ∀ σ H, Pv xs.length σ H → D.nx σ H) :
    ∃ W : Nat → Nat → St → Hp → Prop, (∃ m, W 0 m σ H) ∧ ∀ i m σ H, W i m σ H →
      ((Ite K a).stop i H ∧ D.nx σ H) ∨ ((Ite K a).go i H ∧ ∃ N : St → Hp → Prop, (∀ σ' H', N σ' H' → ∃ m', m' < m ∧ W (i + 1) m' σ' H') ∧ ∀ x H', (Ite K a).yld i H x H' → g x σ H' fun σ2 H2 => tb { D with nx := N, ct := N, bk := D.nx } σ2 H2) := by
  refine ⟨fun i m σ H => m = xs.length - i ∧ i ≤ xs.length ∧ Pv i σ H, ⟨xs.length, by simp, Nat.zero_le _, h0⟩, ?_⟩
  rintro i m σ H ⟨rfl, hi, p⟩
  have q1 := hl i σ H hi p
  by_cases hlt : i < xs.length
  · refine .inr ⟨⟨xs, xs[i], q1, by simp [hlt]⟩, Pv (i + 1), fun σ' H' p' => ⟨xs.length - (i + 1), by omega, rfl, hlt, p'⟩, fun v H' z => ?_⟩
    obtain ⟨T, x, rfl, hT, rfl, z1⟩ := z
    exact hs i x σ H T (z1 xs q1) hT p
  · have e : i = xs.length := by omega
    subst e
    exact .inl ⟨⟨xs, q1, Nat.le_refl _⟩, hd σ H p⟩
theorem pg_tupK {X : Cx} {K : PySem.W.Frag} {pos : Pos} {es : List Expr} {k : Nat} {t : TGs} {n : Nat} (hc : X.calm = true) (hK : X.K = K) (h : PGs X es t)
    (hn : (assignEach es X.env).length = n) (hst : (assignEach es X.env).findIdx? (·.1) = none) : PG X (.Tuple es k pos) (gTup K n t) := hK ▸ pg_tup hc h hn hst
end L2
set_option Elab.async false
set_option linter.all false
set_option maxRecDepth 100000
set_option maxHeartbeats 2000000
namespace Ken
open PySem L2
theorem slice1 (x : Str) (a : Nat) (ha : a ≤ x.length) : (Txt.slice x (some (a : Int)) (some ((a : Int) + 1))).cps.toList = (x.cps.toList.drop a).take 1 := by
  by_cases h : a + 1 ≤ x.length
  · have := slice_cps x a (a + 1) (by omega) h
    rw [Nat.add_sub_cancel_left] at this
    rw [← this]
    rfl
  · have e : a = x.length := by omega
    subst e
    have z : Builtin.Str.strSliceIndices (some ((x.length : Nat) : Int)) (some (((x.length : Nat) : Int) + 1)) 1 x.length = Builtin.Str.strSliceIndices (some ((x.length : Nat) : Int)) (some ((x.length : Nat) : Int)) 1 x.length := by
      unfold Builtin.Str.strSliceIndices
      have n1 : ¬ ((x.length : Nat) : Int) + 1 < 0 := by omega
      have n2 : ¬ ((x.length : Nat) : Int) < 0 := by omega
      have m : min (((x.length : Nat) : Int) + 1) ((x.length : Nat) : Int) = min ((x.length : Nat) : Int) ((x.length : Nat) : Int) := by omega
      have p1 : (1 : Int) > 0 := by decide
      simp only [if_neg n1, if_neg n2, m, if_pos p1]
    have z2 : Txt.slice x (some ((x.length : Nat) : Int)) (some (((x.length : Nat) : Int) + 1)) = Txt.slice x (some ((x.length : Nat) : Int)) (some ((x.length : Nat) : Int)) := by
      unfold Txt.slice
      rw [z]
    have e2 : x.length = x.cps.toList.length := len_cps x
    rw [z2, slice_cps x x.length x.length (Nat.le_refl _) (Nat.le_refl _), Nat.sub_self, List.take_zero, e2, List.drop_length, List.take_nil]
theorem sign_at {x : Str} {a c : Nat} {r : List Nat} (h : x.cps.toList.drop a = c :: r) : Txt.slice x (some (a : Int)) (some ((a : Int) + 1)) = ⟨#[c]⟩ := by
  have hl : a < x.cps.toList.length := by
    by_cases q : a < x.cps.toList.length
    · exact q
    · rw [List.drop_of_length_le (by omega)] at h; cases h
  refine str_ext ?_
  rw [slice1 x a (by rw [len_cps]; omega), h]
  rfl
theorem sign_end {x : Str} {a : Nat} (ha : a ≤ x.length) (h : x.cps.toList.drop a = []) : Txt.slice x (some (a : Int)) (some ((a : Int) + 1)) = Str.empty := by
  refine str_ext ?_
  rw [slice1 x a ha, h]
  rfl
theorem lt1 {c d : Nat} : (([c] : List Nat) < [d]) ↔ c < d := by
  simp [List.cons_lt_cons_iff]
theorem paired_app {α β : Type} {F : α → β → Prop} : ∀ {l l' : List α} {m m' : List β}, Paired F l m → Paired F l' m' → Paired F (l ++ l') (m ++ m')
  | _, _, _, _, .nil, q => q
  | _, _, _, _, .cons h t, q => .cons h (paired_app t q)
end Ken
set_option Elab.async false
set_option linter.all false
set_option maxRecDepth 100000
set_option maxHeartbeats 2000000
namespace Ken
open PySem L2
end Ken
set_option Elab.async false
set_option linter.all false
set_option maxRecDepth 100000
set_option maxHeartbeats 2000000
namespace L2
open PySem PySem.Spec PyProof.Rows
section
variable {X : Cx}
theorem vals_of_strs : ∀ {us : List Value} {ys : List Str}, StrsAre us ys → Vals (ys.map V.str) us
  | _, _, .nil => .nil
  | _, _, .cons _ _ t => .cons ⟨_, rfl⟩ (vals_of_strs t)
theorem call_sorted_strs : CallR X (.builtin "sorted") (fun xs H Q => ∃ a ys, xs = [.ref a] ∧ SqL X.K H a (ys.map V.str) ∧ ys.length < 64 ∧ ∀ l ys', H l = none → List.Perm ys' ys → sortedS ys' = true → Q (.ref l) (upd H l (.lst (ys'.map V.str)))) := by
  intro pins s σ H xs us Q I r h
  obtain ⟨a, ys, rfl, hq, hz, q⟩ := h
  obtain ⟨u, rfl, ru⟩ := vals1 r
  cases ru
  obtain ⟨its, r', pl, _⟩ := I.list hq
  have hlen := r'.length
  rw [List.length_map] at hlen
  refine sorted_strs pl.isList (strsAre_of r') (by omega) fun out ss' h1 h2 h3 => ?_
  obtain ⟨e, he⟩ := sortedAll_at s.heap its out
  have hl2 := h2.length_eq
  refine ⟨.ref (s.heap.objs.size + 1), _, I.laid (t' := s.toks) (fun b o q => sortedAll_old q) (Nat.le_succ _) (show ObjOk X.prog X.w _ _ _ (.lst (ss'.map V.str)) from ⟨?_, out.toList, e, vals_of_strs h1, by simpa using he⟩), rfl, q _ ss' (I.hok.fresh (Nat.le_succ _)) h2 h3⟩
  rw [List.length_map, hl2]
  exact Nat.le_trans (Nat.le_of_lt hz) (by decide)
theorem call_list_ofK {K : PySem.W.Frag} (hK : X.K = K) : CallR X (.type "list") (fun xs H Q => ∃ p ys, xs = [.ref p] ∧ (SqL K H p ys ∨ SqT K H p ys) ∧ ∀ l, H l = none → Q (.ref l) (upd H l (.lst ys))) := hK ▸ call_list_of
theorem call_len_seqK {K : PySem.W.Frag} (hK : X.K = K) : CallR X (.builtin "len") (fun xs H Q => ∃ p ys, xs = [.ref p] ∧ (SqL K H p ys ∨ SqT K H p ys) ∧ Q (.int ys.length) H) := hK ▸ call_len_seq
theorem ix_listK {K : PySem.W.Frag} (hK : X.K = K) : IxR X (rIxL K) := hK ▸ ix_list
end
end L2
set_option Elab.async false
set_option linter.all false
set_option maxRecDepth 100000
set_option maxHeartbeats 2000000
namespace L2
open PySem PySem.Spec PyProof.Rows
noncomputable abbrev TK := St → Hp → (Hp → Prop) → Prop
noncomputable def compW (σ0 : St) (J : It) (g : TG) (tk : TK) (Q : Hp → Prop) (W : Nat → Nat → Hp → Prop) : Prop :=
  ∀ i m H2, W i m H2 → (J.stop i H2 ∧ Q H2) ∨ (J.go i H2 ∧ ∀ x H3, J.yld i H2 x H3 → g x σ0 H3 fun σ4 H4 => Wk σ0 σ4 ∧ tk σ4 H4 fun H5 => ∃ m', m' < m ∧ W (i + 1) m' H5)
noncomputable def PTn (Y : Cx) (body : Sem Unit) (tk : TK) : Prop := ∀ (pins : List (Addr × Obj)) (s : Shared) (σ : St) (H : Hp) (N : Hp → Prop), Inv Y pins σ H s → tk σ H N →
  wpAny (model Y.prog Y.w) Y.A body (fun _ s' => ∃ σ' H', Inv Y pins σ' H' s' ∧ Wk σ σ' ∧ N H') Y.xe s
noncomputable def TurnIs (e : Expr) (d : Nat) (tg : Expr) (p : Pos) (acc : Value) (env : Env) (body : Sem Unit) : Prop := ∀ it, compTurn e d it acc env = (standAt p >>= fun _ => pyNext it >>= fun r => match r with
      | none => pure (.done .next)
      | some v => letOwnedTupleGo tg it v >>= fun _ => assign tg env v >>= fun _ => body >>= fun _ => again (.compLoop e d it acc env))
noncomputable def DenIs (prog : Program) (w : World) (A : Around) (e : Expr) (d : Nat) (acc : Value) (env : Env) : Prop := ∀ it,
  (model prog w).den (.compLoop e d it acc env) = (compTurn e d it acc env).onRaise (fun x => do noteFrame x env; theTreesLotGoes x) ∧ A.under (.compLoop e d it acc env) = A ∧
  (∃ p, (model prog w).den (.compStart e d it acc env) = (compStart e d it acc env).onRaise (fun x => do noteFrame x env; standAt p)) ∧ A.under (.compStart e d it acc env) = A
theorem comp_loop {Y : Cx} {e tg : Expr} {d : Nat} {p : Pos} {g : TG} {tk : TK} {it : Addr} {acc : Value} {body : Sem Unit} {fp : List Addr} {tn : Nat → Heap → Prop} {J : It} {Q : Hp → Prop} {σ0 : St} {R : Result → Shared → Prop} {s : Shared} {i0 m0 : Nat} {H1 : Hp} {W : Nat → Nat → Hp → Prop} {pins : List (Addr × Obj)}
    (hc : Y.calm = true) (hxe : Y.xe = fun _ _ => False) (hden : DenIs Y.prog Y.w Y.A e d acc Y.env) (eq : TurnIs e d tg p acc Y.env body) (hg : PG Y tg g) (hb : PTn Y body tk) (T : Turn Y.prog Y.w Y.K tg J fp it tn)
    (hfp : ∀ (H' : Hp), (∀ b ∈ fp, H' b = none) → ∀ b ∈ fp, FpOk Y pins H' b) (hW : compW σ0 J g tk Q W)
    (hR : ∀ s' H', Inv Y pins σ0 H' s' → Q H' → R (.ok .next) s')
    (I : Inv Y pins σ0 H1 s) (hst : tn i0 s.heap) (hfr : ∀ b ∈ fp, H1 b = none) (w : W i0 m0 H1) :
    codeAny (model Y.prog Y.w) Y.A (.compLoop e d (.ref it) acc Y.env) R s := by
  have nE : ∀ {M : Model} {A : Around} {env : Env} {E : Value → Shared → Prop} (x : Value) (s : Shared), Y.xe x s → notedBy M A env E x s := fun x s z => by rw [hxe] at z; exact z.elim
  refine codeAny_loop rfl (fun n s => ∃ i H2, Inv Y pins σ0 H2 s ∧ tn i s.heap ∧ (∀ b ∈ fp, H2 b = none) ∧ W i n H2) (fun n s hI => ?_) m0 ⟨i0, H1, I, hst, hfr, w⟩
  obtain ⟨i, H2, I2, st2, fr2, w2⟩ := hI
  rw [(hden (.ref it)).1, (hden (.ref it)).2.1]
  refine wpAny_noted ?_
  rw [eq]
  refine wpAny_bind (wpAny_standAt (wpAny_bind ?_))
  rcases hW i n H2 w2 with ⟨stop, q⟩ | ⟨go, step⟩
  · refine thn (T.done Y rfl rfl rfl hc i pins s σ0 H2 _ I2 (hfp H2 fr2) st2 stop) fun r s1 ⟨hr, I3⟩ => ?_
    subst hr
    exact wpAny_pure (hR s1 H2 I3 q)
  · refine thn (T.item Y rfl rfl rfl hc i pins s σ0 H2 _ I2 (hfp H2 fr2) st2 go) fun r s1 ⟨u, hr, h4⟩ => ?_
    subst hr
    refine wpAny_bind (thn h4 fun _ s5 ⟨x, H5, I5, r5, y5, st5, fr5⟩ => ?_)
    have I5' := I5.pinned (hfp H5 fr5) (T.obj _ _ st5)
    refine wpAny_bind (wpAny_mono (hg _ s5 σ0 H5 x u _ I5' r5 (step x H5 y5)) (fun _ s6 ⟨σ6, H6, I6, hw6, q6⟩ => ?_) nE)
    refine wpAny_bind (wpAny_mono (hb _ s6 σ6 H6 _ I6 q6) (fun _ s8 ⟨σ8, H8, I8, hw8, m', hm', w7⟩ => ?_) nE)
    refine wpAny_pure ⟨rfl, m', hm', i + 1, H8, ?_, ?_, fun b hb => ?_, w7⟩
    · have := hw6.trans hw8
      exact I8.unpinned.weak this.1.symm this.2
    · exact T.keep _ _ _ st5 fun b hb o e => (I8.pin (b, o) (List.mem_append_right _ (List.mem_append_right _ (mem_pinsAt hb e)))).1
    · obtain ⟨o, e, dd⟩ := T.obj _ _ st5 b hb
      exact (I8.pin (b, o) (List.mem_append_right _ (List.mem_append_right _ (mem_pinsAt hb e)))).2.1
theorem codeAny_compStart_gen {prog : Program} {w : World} {A : Around} {R : Result → Shared → Prop} {s : Shared} {e : Expr} {d : Nat} {g : Comprehension} {it acc : Value} {env : Env} (hden : DenIs prog w A e d acc env) (hcl : (clausesOf e)[d]? = some g) (ha : g.is_async = 0)
    (h0 : codeAny (model prog w) A (.compLoop e d it acc env) R s)
    (h : wpAny (model prog w) A (pyIter it) (fun it' s' => codeAny (model prog w) A (.compLoop e d it' acc env) R s') (notedBy (model prog w) A env fun x s' => R (.error x) s') s) :
    codeAny (model prog w) A (.compStart e d it acc env) R s := by
  refine codeAny_of_tree ?_
  obtain ⟨p, ep⟩ := (hden it).2.2.1
  rw [ep, (hden it).2.2.2]
  refine wpAny_notedAt ?_
  unfold compStart
  rw [hcl]
  have e1 : ((some g).elim false fun x => x.is_async != 0) = false := by show (g.is_async != 0) = false; rw [ha]; rfl
  rw [e1, if_neg Bool.false_ne_true]
  refine wpAny_bind (wpAny_askSetting ?_)
  refine wpAny_ite ?_
  split
  · exact wpAny_pure ⟨rfl, h0⟩
  · refine wpAny_bind (wpAny_rule (wpAny_bind (wpAny_standAt (wpAny_bind (wpAny_mono h (fun it' s' h' => wpAny_pure ⟨rfl, h'⟩) fun _ _ z => z)))))
theorem den_L {prog : Program} {w : World} {A : Around} {elt : Expr} {gens : List Comprehension} {scope : Scope} {pos : Pos} {d : Nat} {acc : Value} {env : Env} : DenIs prog w A (.ListComp elt gens scope pos) d acc env := fun it => ⟨rfl, rfl, ⟨_, rfl⟩, rfl⟩
noncomputable def emitL (elt : Expr) (acc : Value) (env : Env) : Sem Unit := eval elt env >>= fun x => call (.builtin "list.append") [acc, x] >>= fun _ => pure ()
noncomputable def emitS (elt : Expr) (acc : Value) (env : Env) : Sem Unit := eval elt env >>= fun v => standAt elt.pos >>= fun _ => call (.builtin "set.add") [acc, v] >>= fun _ => pure ()
noncomputable def emitD (k v : Expr) (d : Addr) (env : Env) : Sem Unit := eval k env >>= fun kv => holding [kv] (eval v env) >>= fun vv => standAt { line := k.pos.line, col := k.pos.col, endLine := v.pos.endLine, endCol := v.pos.endCol } >>= fun _ => holding [kv, vv] (dictSet d kv vv)
noncomputable def testB (c : Expr) (env : Env) (body : Sem Unit) : Sem Unit := PySem.isTrue c env (eval c env) >>= fun ok => if ok = true then body else pure ()
noncomputable def nestB (e : Expr) (d : Nat) (iter : Expr) (acc : Value) (env : Env) : Sem Unit := eval iter env >>= fun x => standAt iter.pos >>= fun _ => foldedSetIterable iter env x >>= fun x => holding [x] (pyIter x) >>= fun it => runOwn (.compStart e d it acc env) env >>= fun _ => pure ()
theorem turn_L1 {elt tg iter c tg2 iter2 : Expr} {scope : Scope} {pos : Pos} {acc : Value} {env : Env} : TurnIs (.ListComp elt [⟨tg, iter, [c], 0⟩] scope pos) 0 tg iter.pos acc env (testB c env (emitL elt acc env)) := fun it => by
  simp only [compTurn, testB, emitL, emitS, emitD, nestB, List.getElem?_cons_zero, List.getElem?_cons_succ, List.getElem?_nil, List.forIn_cons, List.forIn_nil, bind_assoc, pure_bind, if_true, bne_self_eq_false, Bool.false_eq_true, if_false, Nat.zero_add, Nat.reduceAdd]
  refine bind_congr fun _ => bind_congr fun r => ?_
  cases r with
  | none => rfl
  | some v =>
    refine bind_congr fun _ => bind_congr fun _ => ?_
    first
      | rfl
      | (refine bind_congr fun ok => ?_
         cases ok <;> simp)
      | simp
noncomputable def kApp (te : TE) (acc : Addr) : TK := fun σ H N => te σ H fun y H5 => ∃ ys, H5 acc = some (.lst ys) ∧ ys.length < sizeLine ∧ N (upd H5 acc (.lst (ys ++ [y])))
noncomputable def kTest (tc : TT) (tk : TK) : TK := fun σ H N => tc σ H fun b H1 => if b = true then tk σ H1 N else N H1
section
variable {Y : Cx}
theorem pk_emitL {elt : Expr} {te : TE} {acc : Addr} (he : PE Y elt te) : PTn Y (emitL elt (.ref acc) Y.env) (kApp te acc) := by
  intro pins s σ H N I h
  refine wpAny_bind (thn (he pins s σ H _ I h) fun v s7 ⟨y, H7, I7, r7, ys, ha7, hlen, n⟩ => ?_)
  refine wpAny_bind (thn (mt_append (X := Y) pins s7 σ H7 (.ref acc) [y] (.ref acc) [v] (fun _ H8 => H8 = upd H7 acc (.lst (ys ++ [y]))) I7 rfl (.cons r7 .nil) ⟨acc, ys, y, rfl, rfl, ha7, hlen, rfl⟩) fun _ s8 ⟨_, H8, I8, _, e8⟩ => ?_)
  subst e8
  exact wpAny_pure ⟨σ, _, I8, Wk.refl _, n⟩
theorem pk_test {c : Expr} {tc : TT} {body : Sem Unit} {tk : TK} (ht : PT Y c tc) (hb : PTn Y body tk) : PTn Y (testB c Y.env body) (kTest tc tk) := by
  intro pins s σ H N I h
  refine wpAny_bind (thn (ht pins s σ H _ I h) fun b s1 ⟨H1, I1, q1⟩ => ?_)
  cases b with
  | true =>
    rw [if_pos rfl] at q1 ⊢
    exact hb pins s1 σ H1 N I1 q1
  | false =>
    rw [if_neg Bool.false_ne_true] at q1 ⊢
    exact wpAny_pure ⟨σ, H1, I1, Wk.refl _, q1⟩
end
noncomputable def tComp (nt : Nat) (ci : List Nat) (wi : TI) (g : TG) (tk : Addr → TK) (o0 : HO) : TE := fun σ H Q => wi σ H fun J H1 => ∀ acc, H1 acc = none → ∃ W : Nat → Nat → Hp → Prop, (∃ m, W 0 m (upd H1 acc o0)) ∧ compW (capt nt ci σ) J g (tk acc) (fun H2 => Q (.ref acc) H2) W
section
variable {X : Cx} {scope : Scope} {cl : List (Str × Addr)} {N' : List Str} {nt : Nat} {ci : List Nat} {pins : List (Addr × Obj)} {σ : St} {H : Hp} {s : Shared}
theorem blk_startO {o0 : HO} (B : BlkOk X scope cl N' nt ci) (I : Inv X pins σ H s) {fp : List Addr} (hf : ∀ b ∈ fp, FpOk X pins H b) (ho : ∀ b ∈ fp, ∃ o, s.heap.get? b = some o) {C acc : Addr} {h1 : Heap} {tk : Nat}
    (hacc : acc = s.heap.objs.size) (hC : C = s.heap.objs.size + 1) (k : ∀ b u, s.heap.get? b = some u → h1.get? b = some u) (ns : h1.Ns C fun _ => none) (ha : ObjOk X.prog X.w (upd H acc o0) h1 acc o0) :
    Inv (blk X N' scope cl s H C fp) [] (capt nt ci σ) (upd H acc o0) { s with heap := h1, toks := tk } := by
  have hn : H acc = none := I.hok.fresh (by rw [hacc]; exact Nat.le_refl _)
  have hnC : H C = none := I.hok.fresh (by rw [hC]; exact Nat.le_succ _)
  have cellLt : ∀ x c, cl.lookup x = some c → c < s.heap.objs.size := fun x c e => by
    obtain ⟨v, q⟩ := I.cell x c (B.sub x c e)
    exact q.lt
  refine ⟨⟨I.ok.mod, B.kind, I.ok.glob, I.ok.blt, ?_, fun x y c e1 e2 => I.ok.inj x y c (B.sub _ _ e1) (B.sub _ _ e2), fun x hx => B.has x hx, fun x c (z : false = true) => Bool.noConfusion z, fun hc => I.ok.hd hc, I.ok.frames, .inl rfl, fun b hb => ?_, I.bs, ?_, fun b o e hb => ?_, fun b hb => ?_, I.stack, fun b hb => I.stkFree b hb⟩,
    rfl, I.bare, Un.laid (a := acc) (o := o0) k (by rw [hacc]; exact Nat.le_refl _) hn, ⟨_, ns, fun i x v e1 e2 e3 => ?_⟩, fun x c e => ?_, ?_, fun x c e => ?_, fun p hp => absurd (show p ∈ ([] : List (Addr × Obj)) from hp) (by simp), I.hok.laid k (by rw [hacc]; exact Nat.le_refl _) ha, ?_⟩
  · show s.heap.objs.size ≤ C
    rw [hC]; exact Nat.le_succ _
  · obtain ⟨f0, f1, f2, f3, f4, f5⟩ := hf b hb
    obtain ⟨o, e⟩ := ho b hb
    refine ⟨?_, fun x c e' => f4 x c (B.sub x c e')⟩
    show b ≠ C
    rw [hC]
    exact Nat.ne_of_lt (Nat.lt_succ_of_lt (Heap.lt_size e))
  · exact Nat.le_trans I.ok.bsz I.sz
  · obtain ⟨f0, f1, f2, f3, f4, f5⟩ := hf b hb
    rcases f3 with z | z
    · exact I.ok.noex b o e z
    · exact absurd (Nat.lt_of_lt_of_le (Heap.lt_size e) (Nat.le_trans I.ok.bsz z)) (Nat.lt_irrefl _)
  · intro z
    obtain ⟨f0, f1, f2, f3, f4, f5⟩ := hf b hb
    rcases List.mem_cons.mp (I.stkSub b z) with y | y
    · exact f1 y
    · exact f2 y
  · -- the names
    obtain ⟨m, hm, hl⟩ := I.loc
    unfold capt at e2
    by_cases hi : i < nt
    · rw [List.getElem?_append_left (by simpa using hi), List.getElem?_replicate] at e2
      split at e2 <;> cases e2
    · rw [List.getElem?_append_right (by simpa using hi), List.length_replicate, List.getElem?_map] at e2
      cases q : ci[i - nt]? with
      | none => rw [q] at e2; cases e2
      | some j =>
        rw [q] at e2
        have e2' : (σ[j]?).join = some v := Option.some.inj e2
        obtain ⟨y, a1, a2, a3, a4⟩ := B.cap _ j q
        have ei : nt + (i - nt) = i := by omega
        rw [ei, show N'[i]? = some x from e1] at a1
        cases a1
        have e2'' : σ[j]? = some (some v) := by
          cases z : σ[j]? with
          | none => rw [z] at e2'; cases e2'
          | some w => rw [z] at e2'; exact congrArg some e2'
        obtain ⟨u, r, l⟩ := hl j x v a2 e2'' (.inr (.inl a3))
        refine ⟨u, r, .inr ⟨a4, ?_⟩⟩
        rcases l with ⟨kk, _⟩ | ⟨_, c, c1, c2⟩
        · have kk' : X.env.scope.names.lookup x = some .local := kk
          rw [a3] at kk'; cases kk'
        · obtain ⟨c', ec⟩ := B.has x a4
          have := B.sub x c' ec
          rw [c1] at this; cases this
          exact ⟨c, ec, let ⟨o, e, d⟩ := c2; ⟨o, k _ _ e, d⟩⟩
  · obtain ⟨v, q⟩ := I.cell x c (B.sub x c e)
    exact ⟨v, let ⟨o, e, d⟩ := q; ⟨o, k _ _ e, d⟩⟩
  · show upd H acc o0 C = none
    rw [upd_ne (by rw [hacc, hC]; exact Nat.succ_ne_self _)]; exact hnC
  · have lt := cellLt x c e
    rw [upd_ne (by rw [hacc]; exact Nat.ne_of_lt lt)]
    exact I.freeC x c (B.sub x c e)
  · show (capt nt ci σ).length = N'.length
    unfold capt
    rw [List.length_append, List.length_replicate, List.length_map, B.len]
theorem cg_core {e : Expr} {gs : List Comprehension} {ifs : List Expr} {body : Addr → Env → Sem Unit} {newAcc : Sem Value} {ob : Obj} {o0 : HO} {p0 : Pos} {tk : Addr → TK} {tg iter : Expr} {pos' : Pos} {wi : TI} {g : TG} {use : Option (Value → Sem Unit)} {Q : VK} {Qf : Value → Shared → Prop} (B : BlkOk X scope cl N' nt ci) (hc : X.calm = true) (hi : PI X tg iter wi)
    (hg : ∀ s H C ex, PG (blk X N' scope cl s H C ex) tg g) (hcl : clausesOf e = ⟨tg, iter, ifs, 0⟩ :: gs) (hden : ∀ acc env, DenIs X.prog X.w X.A e 0 acc env) (htn : ∀ a env, TurnIs e 0 tg p0 (.ref a) env (body a env))
    (hb : ∀ s H C ex a, PTn (blk X N' scope cl s H C ex) (body a (blk X N' scope cl s H C ex).env) (tk a)) (hnew : ∀ {M : Model} {A : Around} {E : Value → Shared → Prop} {s : Shared} {Q : Value → Shared → Prop}, Q (.ref s.heap.objs.size) { s with heap := s.heap.push ob } → wpAny M A newAcc Q E s)
    (hfree : ob.isFreed = false) (hobj : ∀ (H : Hp) (h : Heap) (a : Addr), h.get? a = some ob → sysModules < a → ObjOk X.prog X.w (upd H a o0) h a o0) (hs : ∀ x, foldedSetIterable iter X.env x = pure x) (I : Inv X pins σ H s) (h : tComp nt ci wi g tk o0 σ H Q)
    (fin : ∀ (acc C : Addr) (s' : Shared) (H' : Hp), Inv X pins σ H' s' → Q (.ref acc) H' → (∃ m, s'.heap.Ns C m) → FpOk X pins H' C → (∃ o, s'.heap.get? C = some o ∧ ∀ v, o.data ≠ .cell v) → compPost (model X.prog X.w) X.A X.xe use Qf (.ref acc) C (.ok .next) s') :
    wpAny (model X.prog X.w) X.A (comprehension e scope X.env pos' newAcc false (eval iter X.env) use) Qf X.xe s := by
  refine wpAny_comprehension_free (use := use) hcl hs B.clos B.kind B.names (thn (hi pins s σ H _ I h) fun v s1 h1 => thn h1 fun itv s2 h2 => ?_)
  obtain ⟨it, fp, tn, J, H2, e, I2, T, st2, f2, q2⟩ := h2
  subst e
  have hacc : H2 s2.heap.objs.size = none := I2.hok.fresh (Nat.le_refl _)
  obtain ⟨W, ⟨m0, w0⟩, hW⟩ := q2 s2.heap.objs.size hacc
  refine hnew (wpAny_newFunctionEnv B.cell (by intro y hy; simp at hy) (fun h₁ hns₁ hsb₁ => ?_) B.kind)
  dsimp only at hns₁ hsb₁ ⊢
  have hCs : (s2.heap.push ob).objs.size = s2.heap.objs.size + 1 := Heap.size_push ..
  have k1 : ∀ b u, s2.heap.get? b = some u → h₁.get? b = some u := fun b u e => hsb₁.extBut b u (by rw [hCs]; exact Nat.ne_of_lt (Nat.lt_succ_of_lt (Heap.lt_size e))) (Heap.get?_push_of_some _ (Heap.get?_push_of_some _ e))
  have a1 : h₁.get? s2.heap.objs.size = some ob := hsb₁.extBut _ _ (by rw [hCs]; exact Nat.ne_of_lt (Nat.lt_succ_self _)) (Heap.get?_push_of_some _ (Heap.get?_push_size _ hfree))
  rw [hCs] at hns₁ ⊢
  have hsys : sysModules < s2.heap.objs.size := I2.big
  have I3 := blk_startO (o0 := o0) (tk := s2.toks + ([] : List (Str × Value)).length) B I2 f2 (fun b hb => let ⟨o, e, _⟩ := T.obj _ _ st2 b hb; ⟨o, e⟩) rfl rfl k1 (by simpa using hns₁) (hobj _ _ _ a1 hsys)
  have hfpB : ∀ (H' : Hp), (∀ b ∈ fp, H' b = none) → ∀ b ∈ fp, FpOk (blk X N' scope cl s2 H2 (s2.heap.objs.size + 1) fp) [] H' b := fun H' hn b hb => by
    obtain ⟨f0, f1, f3, f4, f5, f6⟩ := f2 b hb
    obtain ⟨o, e, _⟩ := T.obj _ _ st2 b hb
    refine ⟨hn b hb, ?_, fun z => ?_, .inl hb, fun x c e' => f5 x c (B.sub x c e'), fun p hp => absurd (show p ∈ ([] : List (Addr × Obj)) from hp) (by simp)⟩
    · exact Nat.ne_of_lt (Nat.lt_succ_of_lt (Heap.lt_size e))
    · rcases List.mem_cons.mp (I2.stkSub b z) with y | y
      · exact f1 y
      · exact f3 y
  have hfr3 : ∀ b ∈ fp, upd H2 s2.heap.objs.size o0 b = none := fun b hb => by
    obtain ⟨o, e, _⟩ := T.obj _ _ st2 b hb
    rw [upd_ne (Nat.ne_of_lt (Heap.lt_size e))]; exact (f2 b hb).1
  have st3 : tn 0 h₁ := T.keep _ _ _ st2 fun b _ o e => k1 b o e
  have loop : codeAny (model X.prog X.w) X.A (.compLoop e 0 (.ref it) (.ref s2.heap.objs.size) (compEnvC scope cl (s2.heap.objs.size + 1) X.env))
      (compPost (model X.prog X.w) X.A X.xe use Qf (.ref s2.heap.objs.size) (s2.heap.objs.size + 1)) { s2 with heap := h₁, toks := s2.toks + ([] : List (Str × Value)).length } := by
    refine comp_loop (Y := blk X N' scope cl s2 H2 (s2.heap.objs.size + 1) fp) (Q := fun H' => Q (.ref s2.heap.objs.size) H') hc rfl (hden _ _) (htn _ _) (hg _ _ _ _) (hb _ _ _ _ _) T hfpB hW (fun s' H' I' q => ?_) I3 st3 hfr3 w0
    have un := I'.base
    have ns := I'.loc
    have fC : H' (s2.heap.objs.size + 1) = none := I'.free
    have I4 : Inv X pins σ H' s' := I2.call' I'.os un I'.hok I'.bare fun b hb => by
      obtain ⟨f0, f1, f3, f4, f5, f6⟩ := f2 b hb
      exact ⟨f4, f1, f5, f6⟩
    obtain ⟨m, hm, _⟩ := ns
    have hm' : s'.heap.Ns (s2.heap.objs.size + 1) m := hm
    refine fin _ _ s' H' I4 q ⟨m, hm'⟩ (I2.fpOk (Nat.le_succ _) fC) ?_
    obtain ⟨o, es, ep, e, d, _⟩ := hm'
    exact ⟨o, e, fun v z => by rw [d] at z; cases z⟩
  exact codeAny_compStart_gen (hden _ _) (by rw [hcl]; rfl) rfl loop (T.self _ _ _ _ _ st3 loop)
theorem lst_obj {P : Program} {w : World} (H : Hp) (h : Heap) (a : Addr) (e : h.get? a = some { cls := .type "list", dict := none, data := .seq ([] : List Value).toArray }) (_ : sysModules < a) : ObjOk P w (upd H a (.lst [])) h a (.lst []) := ⟨Nat.zero_le _, [], 0, .nil, e⟩
theorem pe_lcG {elt tg iter : Expr} {ifs : List Expr} {gs : List Comprehension} {pos p0 : Pos} {wi : TI} {g : TG} {tk : Addr → TK} {body : Addr → Env → Sem Unit} (B : X.Ok → BlkOk X scope cl N' nt ci) (hc : X.calm = true) (hi : PI X tg iter wi)
    (hg : ∀ s H C ex, PG (blk X N' scope cl s H C ex) tg g) (htn : ∀ a env, TurnIs (.ListComp elt (⟨tg, iter, ifs, 0⟩ :: gs) scope pos) 0 tg p0 (.ref a) env (body a env))
    (hb : ∀ s H C ex a, PTn (blk X N' scope cl s H C ex) (body a (blk X N' scope cl s H C ex).env) (tk a)) (hs : ∀ x, foldedSetIterable iter X.env x = pure x := by intro _; rfl) :
    PE X (.ListComp elt (⟨tg, iter, ifs, 0⟩ :: gs) scope pos) (tComp nt ci wi g tk (.lst [])) := by
  intro pins s σ H Q I h
  rw [eval_ListComp]
  refine cg_core (B I.ok) hc hi hg rfl (fun _ _ => den_L) htn hb (fun h => wpAny_newObj_type h) rfl lst_obj hs I h fun acc C s' H' I' q hm hf ho => ?_
  obtain ⟨m, hm⟩ := hm
  obtain ⟨f0, f1, f2, f3, f4, f5⟩ := hf
  exact ⟨m, hm, fun h' sb => ⟨.ref acc, H', I'.turned (t' := s'.toks) (fun b o hb e => (sb.2 b hb).trans e) f0 f1 f3 f4 f5, rfl, q⟩⟩
end
end L2
set_option Elab.async false
set_option linter.all false
set_option maxRecDepth 100000
set_option maxHeartbeats 2000000
namespace Ken
open PySem L2
end Ken
set_option Elab.async false
set_option linter.all false
set_option maxRecDepth 100000
set_option maxHeartbeats 2000000
namespace L2
open PySem PySem.Spec PyProof.Rows
end L2
set_option Elab.async false
set_option linter.all false
set_option maxRecDepth 100000
set_option maxHeartbeats 2000000
namespace L2
open PySem PySem.Spec PyProof.Rows
noncomputable def sLt (x y : Str) : Bool := decide (x.cps.toList < y.cps.toList)
theorem sLt_irr (x : Str) : sLt x x = false := decide_eq_false (List.lt_irrefl _)
theorem sLt_trans {x y z : Str} (h : sLt x y = true) (g : sLt y z = true) : sLt x z = true := decide_eq_true (List.lt_trans (of_decide_eq_true h) (of_decide_eq_true g))
theorem sLt_asym {x y : Str} (h : sLt x y = true) : sLt y x = false := decide_eq_false (List.lt_asymm (of_decide_eq_true h))
theorem sLt_tot {x y : Str} (h : x ≠ y) : sLt x y = true ∨ sLt y x = true := by
  rcases Std.lt_trichotomy x.cps.toList y.cps.toList with z | z | z
  · exact .inl (decide_eq_true z)
  · exact absurd (str_ext z) h
  · exact .inr (decide_eq_true z)
end L2
set_option Elab.async false
set_option linter.all false
set_option maxRecDepth 100000
set_option maxHeartbeats 2000000
namespace L2
open PySem PySem.Spec PyProof.Rows
theorem comp_list {K : PySem.W.Frag} {a : Addr} {xs : List V} {σ0 : St} {g : TG} {tk : TK} {Q : Hp → Prop} {H : Hp} (Pv : Nat → Hp → Prop) (h0 : Pv 0 H) (hl : ∀ i H, i ≤ xs.length → Pv i H → SqL K H a xs)
    (hs : ∀ i x H (N : Hp → Prop), xs[i]? = some x → Pv i H → (∀ H', Pv (i + 1) H' → N H') → g x σ0 H fun σ4 H4 => Wk σ0 σ4 ∧ tk σ4 H4 N) (hd : ∀ H, Pv xs.length H → Q H) :
    ∃ W : Nat → Nat → Hp → Prop, (∃ m, W 0 m H) ∧ compW σ0 (Itl K a) g tk Q W := by
  refine ⟨fun i m H => m = xs.length - i ∧ i ≤ xs.length ∧ Pv i H, ⟨xs.length, by simp, Nat.zero_le _, h0⟩, ?_⟩
  rintro i m H ⟨rfl, hi, p⟩
  have q := hl i H hi p
  by_cases hlt : i < xs.length
  · refine .inr ⟨⟨xs, xs[i], q, by simp [hlt]⟩, fun x H' y => ?_⟩
    obtain ⟨e, y⟩ := y
    subst e
    exact hs i x H' _ (y xs q) p fun H5 p5 => ⟨xs.length - (i + 1), by omega, rfl, hlt, p5⟩
  · have e : i = xs.length := by omega
    subst e
    exact .inl ⟨⟨xs, q, Nat.le_refl _⟩, hd _ p⟩
end L2
set_option Elab.async false
set_option linter.all false
set_option maxRecDepth 100000
set_option maxHeartbeats 2000000
namespace Ken
open PySem L2
end Ken
set_option Elab.async false
set_option linter.all false
set_option maxRecDepth 100000
set_option maxHeartbeats 2000000
namespace L2
open PySem PySem.Spec PyProof.Rows Ken
theorem orStandIn_led (t : SetTable) (n : Nat) : (t.orStandIn n).led = t.led := by
  unfold SetTable.orStandIn; split <;> rfl
theorem orStandIn_plain (t : SetTable) (n : Nat) (h : t.plain = false) : (t.orStandIn n).plain = false := by
  unfold SetTable.orStandIn; split
  · exact h
  · rfl
theorem layNew_led (t : SetTable) (es : Array (Int × Value)) (h : Int) (x : Value) : (layNew t es h x).2.1.led = t.led := by
  unfold layNew
  split
  · show ((t.put _).1.orStandIn _).led = t.led
    rw [orStandIn_led]; rfl
  · rfl
theorem layNew_plain (t : SetTable) (es : Array (Int × Value)) (h : Int) (x : Value) (hp : t.plain = false) : (layNew t es h x).2.1.plain = false := by
  unfold layNew
  split
  · exact orStandIn_plain _ _ hp
  · rfl
theorem laid_flags {mask finger moves : Nat} {led plain : Bool} {hashes : Array Int} {t : SetTable} {o : Array Nat} (h : SetTable.laid mask finger moves led plain hashes = some (t, o)) : t.led = led ∧ t.plain = plain := by
  unfold SetTable.laid at h
  cases z : SetTable.layClean mask hashes with
  | none => rw [z] at h; cases h
  | some ow =>
    rw [z] at h
    cases h
    exact ⟨rfl, rfl⟩
theorem relayAll_led (t : SetTable) (es : Array (Int × Value)) (n : Nat) : (relayAll t es n).2.1.led = t.led := by
  unfold relayAll
  split
  · rename_i t' o e
    have f := laid_flags (show SetTable.laid _ _ _ t.led t.plain _ = some (t', o) from e)
    dsimp only
    split
    · exact f.1
    · rfl
  · rfl
theorem relayAll_plain (t : SetTable) (es : Array (Int × Value)) (n : Nat) (hp : t.plain = false) : (relayAll t es n).2.1.plain = false := by
  unfold relayAll
  split
  · rename_i t' o e
    have f := laid_flags (show SetTable.laid _ _ _ t.led t.plain _ = some (t', o) from e)
    dsimp only
    split
    · exact f.2.trans hp
    · rfl
  · rfl
noncomputable def SetAt (P : Program) (w : World) (h : Heap) (a : Addr) (xs : List Str) : Prop :=
  ∃ o es ep t ys, h.get? a = some o ∧ o.ExactSet ∧ o.data = Data.set es ep t ∧ ElemsOf (PySem.strKind P w) es.toList ∧ Paired (fun (e : Int × Value) (x : Str) => ∃ tk, e.2 = .str x tk) es.toList ys ∧ List.Perm ys xs ∧ xs.Nodup ∧ es.size < scanBound ∧ t.fits es.size = true ∧
    t.led = !(w.params.followText "set-order") ∧ (t.plain = false ∨ xs = [])
theorem SetAt.at {P : Program} {w : World} {h h' : Heap} {a : Addr} {xs : List Str} (s : SetAt P w h a xs) (k : ∀ o, h.get? a = some o → h'.get? a = some o) : SetAt P w h' a xs := by
  obtain ⟨o, es, ep, t, ys, h1, r⟩ := s
  exact ⟨o, es, ep, t, ys, k o h1, r⟩
theorem paired_perm {α β : Type} {F : α → β → Prop} {l l' : List α} {m : List β} (p : List.Perm l l') (h : Paired F l m) : ∃ m', List.Perm m m' ∧ Paired F l' m' := by
  induction p generalizing m with
  | nil => cases h; exact ⟨[], .nil, .nil⟩
  | cons x _ ih =>
    cases h with
    | cons hx t =>
      obtain ⟨m', p', q'⟩ := ih t
      exact ⟨_ :: m', .cons _ p', .cons hx q'⟩
  | swap x y l =>
    cases h with
    | cons hx t =>
      cases t with
      | cons hy t => exact ⟨_, .swap _ _ _, .cons hy (.cons hx t)⟩
  | trans _ _ ih1 ih2 =>
    obtain ⟨m1, p1, q1⟩ := ih1 h
    obtain ⟨m2, p2, q2⟩ := ih2 q1
    exact ⟨m2, p1.trans p2, q2⟩
section
variable {P : Program} {w : World} {A : Around} {E : Value → Shared → Prop} {s : Shared}
theorem addTailS {g : Bool → Sem Unit} (hg : ∀ (b : Bool) (s₁ : Shared) (Q' : Unit → Shared → Prop), Q' () s₁ → wpAny (model P w) A (g b) Q' E s₁) {a : Addr} {o : Obj} {es : Array (Int × Value)} {ep : Nat} {t : SetTable} (ho : s.heap.get? a = some o) (hx : o.ExactSet) (hd : o.data = .set es ep t)
    {es1 : Array (Int × Value)} {t2 : SetTable} {zs ys : List Str} (he : ElemsOf (PySem.strKind P w) es1.toList) (hp : Paired (fun (e : Int × Value) (x : Str) => ∃ tk, e.2 = .str x tk) es1.toList ys) (hq : List.Perm ys zs) (hn : zs.Nodup) (hz : es1.size < scanBound) (hf : t2.fits es1.size = true) (hl : t2.led = !(w.params.followText "set-order")) (hpl : t2.plain = false)
    {wasDummy : Bool} {R : Option Bool → Shared → Prop} (hR : ∀ h', Heap.SameBut a s.heap h' → SetAt P w h' a zs → R (some true) { s with heap := h' }) :
    wpAny (model P w) A (do
      storeSet a es1 t2
      if (!wasDummy && t2.tooFull) = true then do
        g (relayAll t2 es1 (SetTable.grown es1.size)).2.2
        storeSet a (relayAll t2 es1 (SetTable.grown es1.size)).1 (relayAll t2 es1 (SetTable.grown es1.size)).2.1
        pure (some true)
      else pure (some true)) R E s := by
  have S1 := SetOf_store (knd := PySem.strKind P w) (S' := fun k => es1.toList.any fun e => (PySem.strKind P w).is k e.2) ho hx hd he (fun k => by rw [List.any_eq_true]) hz hf
  refine wpAny_bind (wpAny_storeSet_of ho hd ?_ (Nat.le_trans (Nat.le_of_lt hz) (show scanBound ≤ sizeLine by decide)))
  split
  · refine wpAny_bind (hg _ _ _ ?_)
    have rp := relayAll_perm t2 es1 (SetTable.grown es1.size)
    have rf := relayAll_fits t2 es1 (SetTable.grown es1.size)
    have rl := relayAll_led t2 es1 (SetTable.grown es1.size)
    have rpl := relayAll_plain t2 es1 (SetTable.grown es1.size) hpl
    generalize relayAll t2 es1 (SetTable.grown es1.size) = rr at rp rf rl rpl
    have he2 := he.perm rp
    obtain ⟨ys2, p2, q2⟩ := paired_perm rp.symm hp
    have hsz : rr.1.size = es1.size := by have := rp.length_eq; simpa using this
    have hz2 : rr.1.size < scanBound := by rw [hsz]; exact hz
    have S2 := SetOf_store (knd := PySem.strKind P w) (S' := fun k => rr.1.toList.any fun e => (PySem.strKind P w).is k e.2) S1.1 hx rfl he2 (fun k => by rw [List.any_eq_true]) hz2 rf
    refine wpAny_bind (wpAny_storeSet_of S1.1 rfl (wpAny_pure ?_) (Nat.le_trans (Nat.le_of_lt hz2) (show scanBound ≤ sizeLine by decide)))
    refine hR _ ((Heap.SameBut.update _ _ _).trans (Heap.SameBut.update _ _ _)) ⟨_, rr.1, _, rr.2.1, ys2, S2.1, hx, rfl, he2, q2, p2.symm.trans hq, hn, hz2, rf, rl.trans hl, .inl rpl⟩
  · refine wpAny_pure (hR _ (Heap.SameBut.update _ _ _) ⟨_, es1, _, t2, ys, S1.1, hx, rfl, he, hp, hq, hn, hz, hf, hl, .inl hpl⟩)
theorem setAdd_str {a : Addr} {x : Str} {tk : Tok} {xs : List Str} {Q : Bool → Shared → Prop} (hs : SetAt P w s.heap a xs) (hz : xs.length + 1 < scanBound)
    (hQ : ∀ h', Heap.SameBut a s.heap h' → SetAt P w h' a (if x ∈ xs then xs else xs ++ [x]) → ∀ b, Q b { s with heap := h' }) :
    wpAny (model P w) A (setAddHashed a (.str x tk) ((PySem.strKind P w).hash x)) Q E s := by
  obtain ⟨o, es, ep, t, ys, h1, h2, h3, h4, h5, h6, h7, h8, h9, h10, h11⟩ := hs
  have hlen : es.size = xs.length := by have := Paired.length h5; have := h6.length_eq; rw [← Array.length_toList]; omega
  have hscan : byScan (.str x tk) es = true := by
    unfold byScan
    rw [Bool.and_eq_true, Bool.and_eq_true]
    refine ⟨⟨rfl, decide_eq_true h8⟩, ?_⟩
    rw [Array.all_eq_true_iff_forall_mem]
    intro e he
    exact (h4 e (by simpa using he)).2
  have his : (PySem.strKind P w).is x (.str x tk) = true := by
    show Value.isStrOf x (.str x tk) = true
    simp [Value.isStrOf]
  unfold setAddHashed
  refine wpAny_holding ?_
  rw [setAddHashedIn.eq_def]
  refine wpAny_bind (wpAny_setState_of h1 h3 h9 ?_)
  dsimp only
  rw [if_pos hscan]
  unfold setAddByScan
  refine wpAny_bind (wpAny_bind (wpAny_rule (wpAny_bind (wpAny_setScan_of his h1 h3 h9 h4 ?_))))
  have mem_iff : ∀ e ∈ es.toList, (PySem.strKind P w).is x e.2 = true → x ∈ xs := fun e he hi => by
    obtain ⟨j, hj, rfl⟩ := List.getElem_of_mem he
    obtain ⟨y, hy, tk', ey⟩ := paired_get h5 (List.getElem?_eq_getElem hj)
    rw [ey] at hi
    have hxy : x = y := by
      have hi : Value.isStrOf x (.str y tk') = true := hi
      exact (show y = x by simpa [Value.isStrOf] using hi).symm
    rw [hxy]
    exact h6.mem_iff.mp (List.mem_of_getElem? hy)
  have mem_of : x ∈ xs → ∃ e ∈ es.toList, (PySem.strKind P w).is x e.2 = true := fun hx => by
    have hy : x ∈ ys := h6.mem_iff.mpr hx
    obtain ⟨j, hj, e⟩ := List.getElem_of_mem hy
    have hj' : j < es.toList.length := by rw [Paired.length h5]; exact hj
    obtain ⟨y, hy2, tk', ey⟩ := paired_get h5 (List.getElem?_eq_getElem hj')
    rw [List.getElem?_eq_getElem hj] at hy2
    cases hy2
    refine ⟨_, List.getElem_mem hj', ?_⟩
    rw [ey, e]
    show Value.isStrOf x (.str x tk') = true
    simp [Value.isStrOf]
  cases hf : List.findIdx? (fun e => (PySem.strKind P w).is x e.2) es.toList with
  | some j =>
    dsimp only
    refine wpAny_pure (wpAny_pure ?_)
    have hx : x ∈ xs := by
      obtain ⟨hj, hp, _⟩ := List.findIdx?_eq_some_iff_getElem.mp hf
      exact mem_iff _ (List.getElem_mem hj) hp
    have q := hQ s.heap (Heap.SameBut.refl _ _) (by rw [if_pos hx]; exact ⟨o, es, ep, t, ys, h1, h2, h3, h4, h5, h6, h7, h8, h9, h10, h11⟩) false
    exact q
  | none =>
    dsimp only
    have hx : x ∉ xs := fun z => by
      obtain ⟨e, he, hi⟩ := mem_of z
      have := List.findIdx?_eq_none_iff.mp hf e he
      rw [hi] at this
      cases this
    rw [if_neg hx] at hQ
    have lp := layNew_perm t es ((PySem.strKind P w).hash x) (.str x tk)
    have lf := layNew_fits t es ((PySem.strKind P w).hash x) (.str x tk)
    have ll := layNew_led t es ((PySem.strKind P w).hash x) (.str x tk)
    have lpl := layNew_plain t es ((PySem.strKind P w).hash x) (.str x tk)
    generalize layNew t es ((PySem.strKind P w).hash x) (.str x tk) = r at lp lf ll lpl
    obtain ⟨es1, t1, wd, gv⟩ := r
    dsimp only at lp lf ll lpl ⊢
    have hpush : (es.push ((PySem.strKind P w).hash x, Value.str x tk)).toList = es.toList ++ [((PySem.strKind P w).hash x, Value.str x tk)] := by simp
    rw [hpush] at lp
    have he1 : ElemsOf (PySem.strKind P w) es1.toList := ElemsOf.perm (l := es.toList ++ [((PySem.strKind P w).hash x, Value.str x tk)]) (fun e he => by
      rcases List.mem_append.mp he with he | he
      · exact h4 e he
      · rw [List.mem_singleton.mp he]
        exact ⟨⟨x, his, rfl⟩, rfl⟩) lp
    have hp1 : Paired (fun (e : Int × Value) (x : Str) => ∃ tk, e.2 = .str x tk) (es.toList ++ [((PySem.strKind P w).hash x, Value.str x tk)]) (ys ++ [x]) := paired_app h5 (.cons ⟨tk, rfl⟩ .nil)
    obtain ⟨ys1, p1, q1⟩ := paired_perm lp.symm hp1
    have hsz : es1.size = xs.length + 1 := by
      have := lp.length_eq
      rw [List.length_append, List.length_singleton, Array.length_toList, Array.length_toList] at this
      omega
    have nd : (xs ++ [x]).Nodup := by
      rw [List.nodup_append]
      refine ⟨h7, by simp, fun a ha b hb => ?_⟩
      rw [List.mem_singleton.mp hb]
      exact fun z => hx (z ▸ ha)
    have tl : ∀ (t2 : SetTable), t2.fits es1.size = true → t2.led = t1.led → t2.plain = false → ∀ h' : Heap, Heap.SameBut a s.heap h' → SetAt P w h' a (xs ++ [x]) → wpAny (model P w) A (pure true : Sem Bool) Q E { s with heap := h' } := fun t2 _ _ _ h' sb st => wpAny_pure (hQ h' sb st true)
    refine wpAny_bind ?_
    cases gv
    all_goals first | refine wpAny_pure ?_ | refine wpAny_rule ?_
    all_goals (
      by_cases hpl : t1.plain = true
      · rw [if_pos hpl]
        refine wpAny_bind (wpAny_of_eq (hashByValue.eq_5 _ _ _) ?_)
        simp only [Bool.false_eq_true, if_false]
        refine addTailS (P := P) (w := w) (fun b s₁ Q' q' => by cases b <;> first | exact wpAny_pure q' | exact wpAny_rule q') h1 h2 h3 he1 q1 (p1.symm.trans (h6.append_right _)) nd (by rw [hsz]; exact hz) (SetTable.fits_plain_off lf) (ll.trans h10) rfl fun h' sb st => wpAny_pure (hQ h' sb st true)
      · rw [if_neg hpl]
        refine wpAny_bind (wpAny_pure ?_)
        simp only [if_true]
        refine addTailS (P := P) (w := w) (fun b s₁ Q' q' => by cases b <;> first | exact wpAny_pure q' | exact wpAny_rule q') h1 h2 h3 he1 q1 (p1.symm.trans (h6.append_right _)) nd (by rw [hsz]; exact hz) lf (ll.trans h10) (by simpa using hpl) fun h' sb st => wpAny_pure (hQ h' sb st true))
end
end L2
set_option Elab.async false
set_option linter.all false
set_option maxRecDepth 100000
set_option maxHeartbeats 2000000
namespace L2
open PySem PySem.Spec PyProof.Rows Ken
noncomputable def setO (P : Program) (w : World) (a : Addr) (xs : List Str) : HO := .ext fun h => SetAt P w h a xs
theorem setO_ok {P : Program} {w : World} {H : Hp} {h : Heap} {a : Addr} {xs : List Str} (s : SetAt P w h a xs) : ObjOk P w H h a (setO P w a xs) := by
  obtain ⟨o, es, ep, t, ys, h1, r⟩ := id s
  exact ⟨s, ⟨o, h1⟩, fun h1 h2 z k => SetAt.at z k⟩
theorem setO_at {P : Program} {w : World} {H : Hp} {h : Heap} {a : Addr} {xs : List Str} (ok : HOk P w H h) (e : H a = some (setO P w a xs)) : SetAt P w h a xs := (ok a _ e).1
noncomputable def setObj0 (w : World) : Obj := { cls := .type "set", data := .set #[] 0 (SetTable.fresh 0 0 !(w.params.followText "set-order")) }
theorem setAt_new {P : Program} {w : World} {h : Heap} {a : Addr} (e : h.get? a = some (setObj0 w)) : SetAt P w h a [] :=
  ⟨_, #[], 0, _, [], e, ⟨rfl, rfl, rfl⟩, rfl, fun e he => by simp at he, .nil, .nil, List.nodup_nil, by decide, rfl, rfl, .inr rfl⟩
section
variable {P : Program} {w : World} {A : Around} {E : Value → Shared → Prop} {s : Shared}
theorem newSetS {Q : Value → Shared → Prop} (h : Q (.ref s.heap.objs.size) { s with heap := s.heap.push (setObj0 w) }) : wpAny (model P w) A (newSet (.type "set")) Q E s := by
  unfold newSet
  refine wpAny_bind (wpAny_bind (wpAny_askSetting (wpAny_pure ?_)))
  exact wpAny_newObj_type h (hd := by show (0 : Nat) ≤ sizeLine; decide)
end
end L2
set_option Elab.async false
set_option linter.all false
set_option maxRecDepth 100000
set_option maxHeartbeats 2000000
namespace Ken
open PySem L2
end Ken
set_option Elab.async false
set_option linter.all false
set_option maxRecDepth 100000
set_option maxHeartbeats 2000000
namespace L2
open PySem PySem.Spec PyProof.Rows
end L2
set_option Elab.async false
set_option linter.all false
set_option maxRecDepth 100000
set_option maxHeartbeats 2000000
namespace L2
open PySem PySem.Spec PyProof.Rows
theorem bls_get : ∀ {bs : List Bool} {us : List Value}, Vals (bs.map V.bl) us → us = bs.map Value.bool
  | [], us, h => by cases h; rfl
  | b :: bs, us, h => by
    cases h with
    | cons r t =>
      have r : _ = Value.bool b := r
      rw [r, bls_get t]; rfl
theorem all_range : ∀ (bs : List Bool) (f : Nat → Bool), (∀ i b, bs[i]? = some b → f i = b) → (List.range bs.length).all f = bs.all id := fun bs f h => by
  rw [Bool.eq_iff_iff, List.all_eq_true, List.all_eq_true]
  constructor
  · intro g b hb
    obtain ⟨i, hi, e⟩ := List.getElem_of_mem hb
    have := g i (List.mem_range.mpr hi)
    rw [h i b (by rw [List.getElem?_eq_getElem hi, e])] at this
    exact this
  · intro g i hi
    have hi' := List.mem_range.mp hi
    rw [h i bs[i] (List.getElem?_eq_getElem hi')]
    exact g _ (List.getElem_mem hi')
section
variable {X : Cx}
theorem call_allB (hc : X.calm = true) : CallR X (.builtin "all") (fun vs H Q => ∃ (a : Addr) (bs : List Bool), vs = [.ref a] ∧ SqL X.K H a (bs.map V.bl) ∧ Q (.bl (bs.all id)) H) := by
  intro pins s σ H xs us Q I r h
  obtain ⟨a, bs, rfl, ha, q⟩ := h
  obtain ⟨u, rfl, ru⟩ := vals1 r
  cases ru
  obtain ⟨its, rv, p, hz⟩ := I.list ha
  have hi := bls_get rv
  have hl : s.heap.IsList a its.toArray := p.isList
  have hne : a ≠ s.heap.objs.size := by obtain ⟨o, e, _⟩ := hl; exact Nat.ne_of_lt (Heap.lt_size e)
  have W := Walks.list (prog := X.prog) (w := X.w) (A := X.A.in1) (I.ok.hd hc) s.heap.objs.size a hne its.toArray
  refine call_all_walk (wpAny_pyIter_list hl ?_)
  refine ⟨s.heap.objs.size, _, _, _, _, _, fun i => (bs[i]?).getD true, rfl, W, ⟨⟨_, Heap.get?_push_size _ rfl, rfl, rfl⟩, hl.at fun o e => Heap.get?_push_of_some _ e⟩, fun i v s' Q' E' hP hQ => ?_, fun h' tk hk => ?_⟩
  · have hQ : Q' ((bs[i]?).getD true) s' := hQ
    have hP : its.toArray[i]? = some v := hP
    rw [hi] at hP
    simp only [List.getElem?_toArray, List.getElem?_map] at hP
    cases e : bs[i]? with
    | none => rw [e] at hP; cases hP
    | some b =>
      rw [e] at hP hQ
      cases hP
      exact wpAny_truthy_bool hQ
  · have kk : ∀ b o, s.heap.get? b = some o → h'.get? b = some o := fun b o e => hk b o (fun hb => absurd (Heap.lt_size e) ((List.mem_singleton.mp hb) ▸ Nat.lt_irrefl _)) (Heap.get?_push_of_some _ e)
    have hsz : its.toArray.size = bs.length := by rw [hi]; simp
    rw [hsz, all_range bs _ fun i b e => by rw [e]; rfl]
    exact ⟨.bl (bs.all id), H, I.kept (t' := tk) kk, rfl, q⟩
end
end L2
set_option Elab.async false
set_option linter.all false
set_option maxRecDepth 100000
set_option maxHeartbeats 2000000
namespace L2
open PySem PySem.Spec PyProof.Rows
section
variable {prog : Program} {w : World} {A : Around} {E : Value → Shared → Prop} {s : Shared}
theorem stop_it {α : Type} {Q : α → Shared → Prop} (hh : A.handled = none) (hE : ∀ h' e, (∀ b o, s.heap.get? b = some o → h'.get? b = some o) → (∃ o, h'.get? e = some o ∧ o.cls = .type "StopIteration") → E (.ref e) { s with heap := h' }) :
    wpAny (model prog w) A (Builtin.SmallTypes.stopIteration : Sem α) Q E s := by
  show wpAny _ _ (newExc (Value.type "StopIteration") [] >>= _) _ _ _
  refine wpAny_bind ?_
  unfold newExc
  refine wpAny_bind (wpAny_newObj_type ?_)
  refine wpAny_bind (wpAny_of_eq (Eq.refl (firstArgMember (Value.type "StopIteration") [])) (wpAny_newObj_type ?_))
  unfold raiseNew
  refine wpAny_bind (wpAny_handled ?_)
  rw [hh]
  refine wpAny_throw ?_
  exact hE _ _ (fun b o e => Heap.get?_push_of_some _ (Heap.get?_push_of_some _ e)) ⟨_, Heap.get?_push_size _ rfl, rfl⟩
end
end L2
set_option Elab.async false
set_option linter.all false
set_option maxRecDepth 100000
set_option maxHeartbeats 2000000
namespace L2
open PySem PySem.Spec PyProof.Rows Ken
theorem slot_si_next : Slot "set_iterator" (Str.ofString "__next__") "set_iterator.__next__" :=
  Slot.of (owner := "set_iterator") (n := "__next__") (by rw [typeLookup_type, builtinLookup_eq_fast]; rfl) (by decide +kernel) (by decide +kernel) (by decide +kernel) (Or.inl (by decide +kernel)) (by rw [isSubtype_type]; rfl) (by decide +kernel)
theorem entry_si_next : entryFor table "set_iterator.__next__" = some Builtin.«set_iterator.__next__» := entryFor_of_tree rfl
theorem owner_si : List.lookup (String.ofList ("set_iterator".toList)) Manifest.owners = some Manifest.sig_set_iterator := rfl
theorem args_si_next (a : Value) : argsOk "set_iterator.__next__" { pos := [a] } := by
  show (match Manifest.signature? "set_iterator.__next__" with | some sig => Bind.checkArgs "set_iterator.__next__" sig { pos := [a] } | none => pure ()) = pure ()
  rw [signature?_of (id := "set_iterator.__next__") (n := "__next__".toList.reverse) (o := "set_iterator".toList.reverse) rfl owner_si]
  rfl
theorem entry_set_iter : entryFor table "set.__iter__" = some Builtin.«frozenset.__iter__» :=
  entryFor_alias (id' := "frozenset.__iter__") (by rw [fastTable_eq_tree]; rfl) (by decide +kernel) (by decide +kernel) (by rw [fastTable_eq_tree]; rfl)
theorem slot_si_iter : Slot "set_iterator" (Str.ofString "__iter__") "set_iterator.__iter__" :=
  Slot.of (owner := "set_iterator") (n := "__iter__") (by rw [typeLookup_type, builtinLookup_eq_fast]; rfl) (by decide +kernel) (by decide +kernel) (by decide +kernel) (Or.inl (by decide +kernel)) (by rw [isSubtype_type]; rfl) (by decide +kernel)
theorem entry_si_iter : entryFor table "set_iterator.__iter__" = some Builtin.«dict_keyiterator.__iter__» :=
  entryFor_alias (id' := "dict_keyiterator.__iter__") (by rw [fastTable_eq_tree]; rfl) (by decide +kernel) (by decide +kernel) (by rw [fastTable_eq_tree]; rfl)
theorem args_si_iter (a : Value) : argsOk "set_iterator.__iter__" { pos := [a] } := by
  show (match Manifest.signature? "set_iterator.__iter__" with | some sig => Bind.checkArgs "set_iterator.__iter__" sig { pos := [a] } | none => pure ()) = pure ()
  rw [signature?_of (id := "set_iterator.__iter__") (n := "__iter__".toList.reverse) (o := "set_iterator".toList.reverse) rfl owner_si]
  rfl
noncomputable abbrev siObj (first : Value) (i : Nat) (a : Addr) (n ep : Nat) : Obj := { cls := .type "set_iterator", data := .fields #[first, .int i 0, .ref a, .int n 0, .int ep 0] }
section
variable {P : Program} {w : World} {A : Around} {E : Value → Shared → Prop} {s : Shared}
theorem chooseS {α : Type} {src : Source} {n : Nat} {k : Nat → Sem α} {Q : α → Shared → Prop} (hn : n ≠ 0) (h : ∀ i d, i < n → wpAny (model P w) A (k i) Q E { s with drawn := d }) : wpAny (model P w) A (Sem.choose src n k) Q E s := by
  intro Γ p hΓ
  rw [Sem.wp_choose]
  exact ⟨hn, h _ _ (Nat.mod_lt _ (Nat.pos_of_ne_zero hn)) Γ p hΓ⟩
theorem si_start {I a : Addr} {first : Value} {i n ep : Nat} {o : Obj} {es : Array (Int × Value)} {t : SetTable} {Q : Option Value → Shared → Prop} (hI : s.heap.get? I = some (siObj first i a es.size ep)) (ha : s.heap.get? a = some o) (hd : o.data = .set es ep t) (hf : t.fits es.size = true)
    (h : wpAny (model P w) A.in1 (match first with
          | Value.int slot tok => do
            let __do_lift ← setNext a slot.toNat i ep
            match __do_lift with
              | some (x, next) => do
                setField (.ref I) 0 (rawInt ↑next)
                setField (.ref I) 1 (rawInt (i + 1))
                ret x
              | none => do
                setField (.ref I) 2 Value.none
                Builtin.SmallTypes.stopIteration
          | x => do
            let __x ← seqItems? first
            match __x with
              | some places =>
                match places[i]? with
                | some (Value.int place tok) => do
                  let x ← setNextDrawn a place.toNat ep
                  setField (.ref I) 1 (rawInt (i + 1))
                  ret x
                | some val => unsupported "internal:set_iterator"
                | none => do
                  setField (.ref I) 0 (rawInt 0)
                  setField (.ref I) 2 Value.none
                  Builtin.SmallTypes.stopIteration
              | x => unsupported "internal:set_iterator")
      (fun fin s' => ∃ v, fin = Fin.done (Flow.ret v) ∧ Q (some v) s') (fun e s' => wpAny (model P w) A (isInstance e (Value.type "StopIteration") >>= fun b => if b = true then pure none else throw e) Q E s') s) : wpAny (model P w) A (pyNext (.ref I)) Q E s := by
  have hTy : s.TypeIs (.ref I) "set_iterator" := ⟨_, hI, rfl⟩
  refine wpAny_bind (wpAny_attempt (wpAny_callSpecial?_slot hTy slot_si_next (wpAny_call_entry slot_si_next hTy entry_si_next ?_ (args_si_next _))))
  show wpAny _ _ (fieldsOf (.ref I) >>= _) _ _ _
  refine wpAny_bind (wpAny_fieldsOf hI rfl ?_)
  refine wpAny_bind (wpAny_setEntries_of ha hd hf ?_)
  dsimp only
  rw [if_neg (by simp)]
  refine wpAny_mono h (fun fin s' ⟨v, e, q⟩ => ⟨v, e, wpAny_pure q⟩) fun e s' q => q
theorem si_next_drawn {I a T : Addr} {i ep : Nat} {o : Obj} {es : Array (Int × Value)} {t : SetTable} {places : List Nat} {pl : Nat} {hx : Int} {x : Value} {Q : Option Value → Shared → Prop} (hI : s.heap.get? I = some (siObj (.ref T) i a es.size ep)) (ha : s.heap.get? a = some o) (hd : o.data = .set es ep t) (hf : t.fits es.size = true)
    (hT : s.heap.get? T = some { cls := .type "tuple", data := .seq (places.map fun (k : Nat) => rawInt (k : Int)).toArray }) (hp : places[i]? = some pl) (he : es[pl]? = some (hx, x))
    (hQ : ∀ h', h'.get? I = some (siObj (.ref T) (i + 1) a es.size ep) → Heap.SameBut I s.heap h' → Q (some x) { s with heap := h' }) : wpAny (model P w) A (pyNext (.ref I)) Q E s := by
  refine si_start (n := es.size) hI ha hd hf ?_
  dsimp only
  refine wpAny_bind (wpAny_seqItems hT rfl ?_)
  dsimp only
  rw [show (places.map fun (k : Nat) => rawInt (k : Int)).toArray[i]? = some (rawInt (pl : Int)) from by simp [hp]]
  unfold rawInt
  dsimp only
  refine wpAny_bind ?_
  unfold setNextDrawn
  refine wpAny_bind (wpAny_setState_of ha hd hf ?_)
  dsimp only
  rw [if_neg (by simp), Int.toNat_natCast, he]
  refine wpAny_pure (wpAny_bind (wpAny_setField_rec hI (by simp) fun h' hI' sb => wpAny_pure ⟨x, rfl, hQ h' ?_ sb⟩))
  exact hI'
theorem si_end_drawn {I a T : Addr} {i ep : Nat} {o : Obj} {es : Array (Int × Value)} {t : SetTable} {places : List Nat} {Q : Option Value → Shared → Prop} (hh : A.handled = none) (hI : s.heap.get? I = some (siObj (.ref T) i a es.size ep)) (ha : s.heap.get? a = some o) (hd : o.data = .set es ep t) (hf : t.fits es.size = true)
    (hT : s.heap.get? T = some { cls := .type "tuple", data := .seq (places.map fun (k : Nat) => rawInt (k : Int)).toArray }) (hp : places[i]? = none)
    (hQ : ∀ h', Heap.ExtBut I s.heap h' → Q none { s with heap := h' }) : wpAny (model P w) A (pyNext (.ref I)) Q E s := by
  refine si_start (n := es.size) hI ha hd hf ?_
  dsimp only
  refine wpAny_bind (wpAny_seqItems hT rfl ?_)
  dsimp only
  rw [show (places.map fun (k : Nat) => rawInt (k : Int)).toArray[i]? = none from by simp [hp]]
  dsimp only
  refine wpAny_bind (wpAny_setField_rec hI (by simp) fun h1 hI1 sb1 => wpAny_bind (wpAny_setField_rec hI1 (by simp) fun h2 hI2 sb2 => ?_))
  refine stop_it (A := A.in1) hh fun h' e k ⟨oe, he, hc⟩ => wpAny_bind (wpAny_isInstance ⟨oe, he, hc⟩ isSubtype_stop ?_)
  rw [if_pos rfl]
  exact wpAny_pure (hQ h' fun b ob hb eb => k b ob ((sb2.2 b hb).trans ((sb1.2 b hb).trans eb)))
theorem si_next_text {I a : Addr} {i ep : Nat} {o : Obj} {es : Array (Int × Value)} {t : SetTable} {e : Int × Value} {Q : Option Value → Shared → Prop} (hb : w.params.followText "set-order" = true) (hI : s.heap.get? I = some (siObj (.int 0 0) i a es.size ep)) (ha : s.heap.get? a = some o) (hd : o.data = .set es ep t) (hf : t.fits es.size = true)
    (he : (pickOrder (w.params.setOrder a ep) es)[i]? = some e)
    (hQ : ∀ h', h'.get? I = some (siObj (.int 0 0) (i + 1) a es.size ep) → Heap.SameBut I s.heap h' → Q (some e.2) { s with heap := h' }) : wpAny (model P w) A (pyNext (.ref I)) Q E s := by
  refine si_start (n := es.size) hI ha hd hf ?_
  dsimp only
  refine wpAny_bind ?_
  unfold setNext
  refine wpAny_bind (wpAny_setState_of ha hd hf ?_)
  dsimp only
  refine wpAny_bind (wpAny_bind (wpAny_askSetting (wpAny_pure ?_)))
  rw [if_pos (show (model P w).w.params.followText "set-order" = true from hb), if_neg (by simp)]
  refine wpAny_bind ?_
  unfold setWalk
  refine wpAny_bind (wpAny_setState_of ha hd hf ?_)
  dsimp only
  refine wpAny_bind (wpAny_bind (wpAny_askSetting (wpAny_pure ?_)))
  rw [if_pos (show (model P w).w.params.followText "set-order" = true from hb)]
  refine wpAny_bind (wpAny_askSetting (wpAny_pure (wpAny_pure ?_)))
  rw [show (pickOrder ((model P w).w.params.setOrder a ep) es)[i]? = some e from he]
  dsimp only [Option.map_some]
  refine wpAny_bind (wpAny_setField_rec hI (by simp) fun h1 hI1 sb1 => wpAny_bind (wpAny_setField_rec hI1 (by simp) fun h2 hI2 sb2 => wpAny_pure ⟨_, rfl, hQ h2 ?_ (sb1.trans sb2)⟩))
  exact hI2
theorem si_end_text {I a : Addr} {i ep : Nat} {o : Obj} {es : Array (Int × Value)} {t : SetTable} {Q : Option Value → Shared → Prop} (hh : A.handled = none) (hb : w.params.followText "set-order" = true) (hI : s.heap.get? I = some (siObj (.int 0 0) i a es.size ep)) (ha : s.heap.get? a = some o) (hd : o.data = .set es ep t) (hf : t.fits es.size = true)
    (he : (pickOrder (w.params.setOrder a ep) es)[i]? = none)
    (hQ : ∀ h', Heap.ExtBut I s.heap h' → Q none { s with heap := h' }) : wpAny (model P w) A (pyNext (.ref I)) Q E s := by
  refine si_start (n := es.size) hI ha hd hf ?_
  dsimp only
  refine wpAny_bind ?_
  unfold setNext
  refine wpAny_bind (wpAny_setState_of ha hd hf ?_)
  dsimp only
  refine wpAny_bind (wpAny_bind (wpAny_askSetting (wpAny_pure ?_)))
  rw [if_pos (show (model P w).w.params.followText "set-order" = true from hb), if_neg (by simp)]
  refine wpAny_bind ?_
  unfold setWalk
  refine wpAny_bind (wpAny_setState_of ha hd hf ?_)
  dsimp only
  refine wpAny_bind (wpAny_bind (wpAny_askSetting (wpAny_pure ?_)))
  rw [if_pos (show (model P w).w.params.followText "set-order" = true from hb)]
  refine wpAny_bind (wpAny_askSetting (wpAny_pure (wpAny_pure ?_)))
  rw [show (pickOrder ((model P w).w.params.setOrder a ep) es)[i]? = none from he]
  dsimp only [Option.map_none]
  refine wpAny_bind (wpAny_setField_rec hI (by simp) fun h1 hI1 sb1 => ?_)
  refine stop_it (A := A.in1) hh fun h' e k ⟨oe, he, hc⟩ => wpAny_bind (wpAny_isInstance ⟨oe, he, hc⟩ isSubtype_stop ?_)
  rw [if_pos rfl]
  exact wpAny_pure (hQ h' fun b ob hb eb => k b ob ((sb1.2 b hb).trans eb))
theorem below_one (j k : Nat) : SetTable.below #[j] k = if j < k then 1 else 0 := by
  unfold SetTable.below
  show SetTable.below.go #[j] k 1 0 1 = _
  rw [SetTable.below.go.eq_def]
  by_cases h : j < k
  · simp [h, SetTable.below.go.eq_def]
  · simp [h, SetTable.below.go.eq_def]
theorem si_slot {I a : Addr} {i ep slot : Nat} {o : Obj} {es : Array (Int × Value)} {t : SetTable} {Q : Option Value → Shared → Prop} (hb : w.params.followText "set-order" = false) (hI : s.heap.get? I = some (siObj (.int slot 0) i a es.size ep)) (ha : s.heap.get? a = some o) (hd : o.data = .set es ep t) (hf : t.fits es.size = true) (hl : t.led = true) (h1 : es.size ≤ 1)
    (h : wpAny (model P w) A.in1 (match (match es[SetTable.below t.place slot]?, t.place[SetTable.below t.place slot]? with
              | some (_, x), some j => some (x, j + 1)
              | _, _ => none) with
              | some (x, next) => do
                setField (.ref I) 0 (rawInt ↑(next : Nat))
                setField (.ref I) 1 (rawInt (i + 1))
                ret x
              | none => do
                setField (.ref I) 2 Value.none
                Builtin.SmallTypes.stopIteration)
      (fun fin s' => ∃ v, fin = Fin.done (Flow.ret v) ∧ Q (some v) s') (fun e s' => wpAny (model P w) A (isInstance e (Value.type "StopIteration") >>= fun b => if b = true then pure none else throw e) Q E s') s) : wpAny (model P w) A (pyNext (.ref I)) Q E s := by
  refine si_start (n := es.size) hI ha hd hf ?_
  dsimp only
  refine wpAny_bind ?_
  unfold setNext
  refine wpAny_bind (wpAny_setState_of ha hd hf ?_)
  dsimp only
  refine wpAny_bind (wpAny_bind (wpAny_askSetting (wpAny_pure ?_)))
  rw [if_neg (show ¬ ((model P w).w.params.followText "set-order" = true) from fun z => by rw [show (model P w).w.params.followText "set-order" = false from hb] at z; cases z)]
  split
  · rename_i hz
    have hz : (!t.plain && decide (es.size > 1)) = true := hz
    rw [Bool.and_eq_true] at hz
    have := of_decide_eq_true hz.2
    omega
  refine wpAny_bind ?_
  show wpAny _ _ (if (!t.led && !es.isEmpty) = true then unsupported "set:maker-not-led" else pure ()) _ _ _
  rw [if_neg (by rw [hl]; simp)]
  refine wpAny_pure (wpAny_pure ?_)
  exact h
theorem perm_erase {α : Type} : ∀ (l : List α) (i : Nat) (h : i < l.length), List.Perm (l[i] :: l.eraseIdx i) l
  | [], i, h => absurd h (by simp)
  | x :: l, 0, h => .refl _
  | x :: l, i + 1, h => by
    have ih := perm_erase l i (by simpa using h)
    rw [List.eraseIdx_cons_succ, List.getElem_cons_succ]
    exact (List.Perm.swap _ _ _).trans (.cons _ ih)
theorem drawOrderS {α : Type} : ∀ (n : Nat) (xs : List α) {s : Shared} {Q : List α → Shared → Prop}, xs.length ≤ n → (∀ ys d, List.Perm ys xs → Q ys { s with drawn := d }) → wpAny (model P w) A (drawOrder n xs) Q E s
  | 0, xs, s, Q, hn, hQ => by
    have : xs = [] := List.length_eq_zero_iff.mp (Nat.le_zero.mp hn)
    subst this
    rw [drawOrder.eq_def]
    exact wpAny_pure (hQ [] s.drawn .nil)
  | n + 1, [], s, Q, hn, hQ => by
    rw [drawOrder.eq_def]
    exact wpAny_pure (hQ [] s.drawn .nil)
  | n + 1, x :: xs, s, Q, hn, hQ => by
    rw [drawOrder.eq_def]
    dsimp only
    refine wpAny_bind (chooseS (by simp) fun i d hi => wpAny_pure ?_)
    rw [List.getElem?_eq_getElem hi]
    dsimp only
    refine wpAny_bind (drawOrderS n ((x :: xs).eraseIdx i) (by rw [List.length_eraseIdx_of_lt hi]; omega) fun ys d' hp => wpAny_pure (hQ _ _ ?_))
    exact (List.Perm.cons _ hp).trans (perm_erase _ _ hi)
theorem pickOrder_perm {α : Type} (next : Nat → Nat) (xs : Array α) : List.Perm (pickOrder next xs).toList xs.toList := by
  have gen : ∀ (f k : Nat) (left : List α) (out : Array α), left.length = f → List.Perm (pickOrder.go next f k left out).toList (out.toList ++ left) := by
    intro f
    induction f with
    | zero =>
      intro k left out h
      rw [List.length_eq_zero_iff.mp h, List.append_nil, pickOrder.go.eq_def]
    | succ f ih =>
      intro k left out h
      rw [pickOrder.go.eq_def]
      dsimp only
      have hi : next k % left.length < left.length := Nat.mod_lt _ (by omega)
      rw [List.getElem?_eq_getElem hi]
      dsimp only
      refine (ih (k + 1) _ _ (by rw [List.length_eraseIdx_of_lt hi]; omega)).trans ?_
      rw [Array.toList_push, List.append_assoc]
      exact List.Perm.append_left _ (perm_erase _ _ hi)
  unfold pickOrder
  have := gen xs.size 0 xs.toList #[] (by simp)
  simpa using this
noncomputable def SiAt (w : World) (I a : Addr) (es : Array (Int × Value)) (ep : Nat) (t : SetTable) (ord : List Value) (fs : List Addr) (i : Nat) (h : Heap) : Prop :=
  (∃ o, h.get? a = some o ∧ o.data = .set es ep t) ∧
  ((∃ (T : Addr) (places : List Nat), fs = [T] ∧ h.get? I = some (siObj (.ref T) i a es.size ep) ∧ h.get? T = some { cls := .type "tuple", data := .seq (places.map fun (k : Nat) => rawInt (k : Int)).toArray } ∧ ord = places.map (fun k => ((es[k]?).getD (0, .none)).2) ∧ places.length = es.size ∧ ∀ k ∈ places, k < es.size) ∨
   (fs = [] ∧ w.params.followText "set-order" = true ∧ h.get? I = some (siObj (.int 0 0) i a es.size ep) ∧ ord = (pickOrder (w.params.setOrder a ep) es).toList.map (·.2)) ∨
   (fs = [] ∧ w.params.followText "set-order" = false ∧ es.size ≤ 1 ∧ t.led = true ∧ ord = es.toList.map (·.2) ∧ ∃ slot : Nat, h.get? I = some (siObj (.int slot 0) i a es.size ep) ∧ (i = 0 → slot = 0) ∧ (i = 1 → ∃ j, t.place = #[j] ∧ slot = j + 1)))
theorem SiAt.keep {w : World} {I a : Addr} {es : Array (Int × Value)} {ep : Nat} {t : SetTable} {ord : List Value} {fs : List Addr} {i : Nat} {h h' : Heap} (x : SiAt w I a es ep t ord fs i h) (k : ∀ b ∈ I :: a :: fs, ∀ o, h.get? b = some o → h'.get? b = some o) : SiAt w I a es ep t ord fs i h' := by
  obtain ⟨⟨o, h1, h2⟩, x⟩ := x
  refine ⟨⟨o, k a (by simp) o h1, h2⟩, ?_⟩
  rcases x with ⟨T, places, e, x1, x2, r⟩ | ⟨e, b, x1, r⟩ | ⟨e, b, z, l, r, slot, x1, r2⟩
  · exact .inl ⟨T, places, e, k I (by simp) _ x1, k T (by rw [e]; simp) _ x2, r⟩
  · exact .inr (.inl ⟨e, b, k I (by simp) _ x1, r⟩)
  · exact .inr (.inr ⟨e, b, z, l, r, slot, k I (by simp) _ x1, r2⟩)
theorem arr_one {α : Type} : ∀ {x : Array α}, x.size = 1 → ∃ j, x = #[j]
  | ⟨[j]⟩, _ => ⟨j, rfl⟩
theorem walks_set {I a : Addr} {es : Array (Int × Value)} {ep : Nat} {t : SetTable} {ord : List Value} {fs : List Addr} (hh : A.handled = none) (hf : t.fits es.size = true) (haI : a ≠ I) (hfI : ∀ T ∈ fs, T ≠ I) :
    Walks P w A I (I :: a :: fs) [I] es.size (fun i v => ord[i]? = some v) (SiAt w I a es ep t ord fs) := by
  have upd1 : ∀ {h h' : Heap} {b : Addr}, Heap.SameBut I h h' → b ≠ I → ∀ o, h.get? b = some o → h'.get? b = some o := fun sb hb o e => (sb.2 _ hb).trans e
  refine ⟨fun b hb => by rw [List.mem_singleton.mp hb]; simp, fun i h h' x k => x.keep k, fun i s Q E hi x q => ?_, fun s Q E x q => ?_, fun i s Q E x q => ?_⟩
  · obtain ⟨⟨o, h1, h2⟩, x⟩ := x
    rcases x with ⟨T, places, e, x1, x2, r1, r2, r3⟩ | ⟨e, b, x1, r⟩ | ⟨e, b, z, l, r, slot, x1, r2, r3⟩
    · have hp : places[i]? = some (places[i]'(by omega)) := List.getElem?_eq_getElem _
      have hk := r3 _ (List.getElem_mem (by omega : i < places.length))
      refine si_next_drawn x1 h1 h2 hf x2 hp (hx := (es[places[i]'(by omega)]'hk).1) (x := (es[places[i]'(by omega)]'hk).2) (by rw [Array.getElem?_eq_getElem hk]) fun h' hI' sb => ?_
      refine q _ h' s.toks ?_ ⟨⟨o, upd1 sb haI _ h1, h2⟩, .inl ⟨T, places, e, hI', upd1 sb (hfI T (by rw [e]; simp)) _ x2, r1, r2, r3⟩⟩ fun b o hb e => upd1 sb (by simpa using hb) _ e
      rw [r1, List.getElem?_map, hp]
      simp [Array.getElem?_eq_getElem hk]
    · have hsz : (pickOrder (w.params.setOrder a ep) es).size = es.size := by have := (pickOrder_perm (w.params.setOrder a ep) es).length_eq; simpa using this
      have he : (pickOrder (w.params.setOrder a ep) es)[i]? = some ((pickOrder (w.params.setOrder a ep) es)[i]'(by omega)) := Array.getElem?_eq_getElem _
      refine si_next_text b x1 h1 h2 hf he fun h' hI' sb => ?_
      refine q _ h' s.toks ?_ ⟨⟨o, upd1 sb haI _ h1, h2⟩, .inr (.inl ⟨e, b, hI', r⟩)⟩ fun b o hb e => upd1 sb (by simpa using hb) _ e
      rw [r, List.getElem?_map, Array.getElem?_toList, he]
      rfl
    · have i0 : i = 0 := by omega
      subst i0
      have n1 : es.size = 1 := by omega
      have hs := r2 rfl
      subst hs
      have hpl : t.place.size = 1 := by
        unfold SetTable.fits at hf
        rw [Bool.and_eq_true, beq_iff_eq] at hf
        omega
      obtain ⟨j, hj⟩ := arr_one hpl
      obtain ⟨e0, he0⟩ := arr_one n1
      refine si_slot b x1 h1 h2 hf l z ?_
      rw [hj, below_one, if_neg (Nat.not_lt_zero _), he0]
      refine wpAny_bind (wpAny_setField_rec x1 (by simp) fun g1 hI1 sb1 => wpAny_bind (wpAny_setField_rec hI1 (by simp) fun g2 hI2 sb2 => wpAny_pure ⟨_, rfl, ?_⟩))
      have sb := sb1.trans sb2
      refine q _ g2 s.toks ?_ ⟨⟨o, upd1 sb haI _ h1, h2⟩, .inr (.inr ⟨e, b, z, l, r, j + 1, ?_, (fun z => absurd z (Nat.succ_ne_zero 0)), fun _ => ⟨j, hj, rfl⟩⟩)⟩ fun b o hb e => upd1 sb (by simpa using hb) _ e
      · rw [r, he0]; rfl
      · exact hI2
  · obtain ⟨⟨o, h1, h2⟩, x⟩ := x
    rcases x with ⟨T, places, e, x1, x2, r1, r2, r3⟩ | ⟨e, b, x1, r⟩ | ⟨e, b, z, l, r, slot, x1, r2, r3⟩
    · exact si_end_drawn hh x1 h1 h2 hf x2 (List.getElem?_eq_none (by omega)) fun h' eb => q h' s.toks fun b o hb e => eb b o (by simpa using hb) e
    · have hsz : (pickOrder (w.params.setOrder a ep) es).size = es.size := by have := (pickOrder_perm (w.params.setOrder a ep) es).length_eq; simpa using this
      exact si_end_text hh b x1 h1 h2 hf (Array.getElem?_eq_none (by omega)) fun h' eb => q h' s.toks fun b o hb e => eb b o (by simpa using hb) e
    · refine si_slot b x1 h1 h2 hf l z ?_
      have hnone : es[SetTable.below t.place slot]? = none := by
        by_cases n1 : es.size = 1
        · obtain ⟨j, hj, hs⟩ := r3 n1
          rw [hj, below_one, if_pos (by omega)]
          exact Array.getElem?_eq_none (by omega)
        · exact Array.getElem?_eq_none (by omega)
      rw [hnone]
      dsimp only
      refine wpAny_bind (wpAny_setField_rec x1 (by simp) fun g1 hI1 sb1 => ?_)
      refine stop_it (A := A.in1) hh fun h' e k ⟨oe, he, hc⟩ => wpAny_bind (wpAny_isInstance ⟨oe, he, hc⟩ isSubtype_stop ?_)
      rw [if_pos rfl]
      exact wpAny_pure (q h' s.toks fun b ob hb eb => k b ob ((sb1.2 b (by simpa using hb)).trans eb))
  · have hT : s.TypeIs (.ref I) "set_iterator" := by
      obtain ⟨_, x⟩ := x
      rcases x with ⟨T, places, e, x1, _⟩ | ⟨e, b, x1, r⟩ | ⟨e, b, z, l, r, slot, x1, r2, r3⟩
      · exact ⟨_, x1, rfl⟩
      · exact ⟨_, x1, rfl⟩
      · exact ⟨_, x1, rfl⟩
    exact wpAny_pyIter_slot hT slot_si_iter (wpAny_call_entry slot_si_iter hT entry_si_iter (id (wpAny_pure ⟨.ref I, rfl, "set_iterator", .builtin "set_iterator.__next__", hT, slot_si_next.lookup, q⟩)) (args_si_iter (.ref I)))
theorem iter_set {a : Addr} {o : Obj} {es : Array (Int × Value)} {ep : Nat} {t : SetTable} {Q : Value → Shared → Prop} (ha : s.heap.get? a = some o) (hx : o.ExactSet) (hd : o.data = .set es ep t) (hf : t.fits es.size = true) (hl : t.led = !(w.params.followText "set-order")) (hp : t.plain = false ∨ es.size ≤ 1) (hz : es.size ≤ sizeLine)
    (hQ : ∀ (I : Addr) (fs : List Addr) (ord : List Value) (h' : Heap) (d : Drawn), s.heap.objs.size ≤ I → (∀ T ∈ fs, s.heap.objs.size ≤ T ∧ T ≠ I) → (∀ b ∈ I :: fs, b < h'.objs.size) → (∀ b o, s.heap.get? b = some o → h'.get? b = some o) → List.Perm ord (es.toList.map (·.2)) → SiAt w I a es ep t ord fs 0 h' → Q (.ref I) { s with heap := h', drawn := d }) :
    wpAny (model P w) A (pyIter (.ref a)) Q E s := by
  have hT : s.TypeIs (.ref a) "set" := ⟨o, ha, hx.1⟩
  refine wpAny_pyIter_slot hT F.slot_set_iter (wpAny_call_entry F.slot_set_iter hT entry_set_iter ?_ (F.args_set_iter_1 (.ref a)))
  show wpAny _ _ (Builtin.Frozenset.slot0 "__iter__" { pos := [.ref a] } >>= _) _ _ _
  refine wpAny_bind ?_
  show wpAny _ _ (Builtin.Frozenset.addrOf (.ref a)) _ _ _
  refine wpAny_pure ?_
  refine wpAny_bind (wpAny_bind (wpAny_setEntries_of ha hd hf (wpAny_pure ?_)))
  refine wpAny_bind ?_
  unfold setDrawn
  refine wpAny_bind (wpAny_setState_of ha hd hf ?_)
  dsimp only
  refine wpAny_bind (wpAny_bind (wpAny_askSetting (wpAny_pure (wpAny_pure ?_))))
  dsimp only
  split
  · rename_i hc
    have hc : (!(w.params.followText "set-order") && (!t.plain && decide (es.size > 1))) = true := hc
    refine wpAny_bind (drawOrderS es.size (List.range es.size) (by simp) fun ys d hy => ?_)
    have hyl : ys.length = es.size := by have := hy.length_eq; simpa using this
    refine wpAny_bind (wpAny_newTuple (s := { s with drawn := d }) ?_ (by rw [List.length_map, hyl]; exact hz))
    dsimp only
    have ha1 : (s.heap.push { cls := Value.type "tuple", data := Data.seq (List.map (fun (i : Nat) => rawInt ↑i) ys).toArray }).get? a = some o := Heap.get?_push_of_some _ ha
    refine wpAny_bind (wpAny_bind (wpAny_setState_of (s := { s with heap := s.heap.push { cls := Value.type "tuple", data := Data.seq (List.map (fun (i : Nat) => rawInt ↑i) ys).toArray }, drawn := d }) ha1 hd hf (wpAny_pure ?_)))
    dsimp only
    refine wpAny_bind (wpAny_newObj_type ?_ (hd := by show 5 ≤ sizeLine + 2; decide))
    generalize hp1 : s.heap.push { cls := Value.type "tuple", data := Data.seq (List.map (fun (i : Nat) => rawInt ↑i) ys).toArray } = g1 at ha1
    have z1 : g1.objs.size = s.heap.objs.size + 1 := by rw [← hp1]; exact Heap.size_push _ _
    have eT : g1.get? s.heap.objs.size = some { cls := Value.type "tuple", data := Data.seq (List.map (fun (i : Nat) => rawInt ↑i) ys).toArray } := by rw [← hp1]; exact Heap.get?_push_size _ rfl
    have k1 : ∀ b o, s.heap.get? b = some o → g1.get? b = some o := fun b o e => by rw [← hp1]; exact Heap.get?_push_of_some _ e
    have eI : (g1.push (siObj (.ref s.heap.objs.size) 0 a es.size ep)).get? g1.objs.size = some (siObj (.ref s.heap.objs.size) 0 a es.size ep) := Heap.get?_push_size _ rfl
    refine wpAny_pure ⟨_, rfl, "set_iterator", _, ⟨_, eI, rfl⟩, slot_si_next.lookup, ?_⟩
    have szE : (g1.push (siObj (.ref s.heap.objs.size) 0 a es.size ep)).objs.size = s.heap.objs.size + 2 := by rw [Heap.size_push, z1]
    refine hQ g1.objs.size [s.heap.objs.size] (ys.map fun k => ((es[k]?).getD (0, .none)).2) _ d (by rw [z1]; exact Nat.le_succ _) (fun T hT => by rw [List.mem_singleton.mp hT, z1]; exact ⟨Nat.le_refl _, Nat.ne_of_lt (Nat.lt_succ_self _)⟩) (fun b hb => ?_) (fun b o e => Heap.get?_push_of_some _ (k1 b o e)) ?_ ⟨⟨o, Heap.get?_push_of_some _ ha1, hd⟩, .inl ⟨_, ys, rfl, eI, Heap.get?_push_of_some _ eT, rfl, hyl, fun k hk => by have := hy.mem_iff.mp hk; simpa using this⟩⟩
    · rw [Heap.size_push]
      rcases List.mem_cons.mp hb with rfl | hb
      · exact Nat.lt_succ_self _
      · rw [List.mem_singleton.mp hb]
        show s.heap.objs.size < g1.objs.size + 1
        rw [z1]; exact Nat.lt_succ_of_lt (Nat.lt_succ_self _)
    · refine (hy.map _).trans ?_
      have e : List.map (fun k => ((es[k]?).getD (0, Value.none)).2) (List.range es.size) = es.toList.map (·.2) := by
        apply List.ext_getElem
        · simp
        · intro i h1 h2
          simp only [List.length_map, List.length_range] at h1
          simp [Array.getElem?_eq_getElem h1]
      rw [e]
  · rename_i hc
    have hc : ¬ ((!(w.params.followText "set-order") && (!t.plain && decide (es.size > 1))) = true) := hc
    refine wpAny_bind (wpAny_pure ?_)
    refine wpAny_bind (wpAny_bind (wpAny_setState_of ha hd hf (wpAny_pure ?_)))
    dsimp only
    refine wpAny_bind (wpAny_newObj_type ?_ (hd := by show 5 ≤ sizeLine + 2; decide))
    have eI : (s.heap.push (siObj (.int 0 0) 0 a es.size ep)).get? s.heap.objs.size = some (siObj (.int 0 0) 0 a es.size ep) := Heap.get?_push_size _ rfl
    refine wpAny_pure ⟨_, rfl, "set_iterator", _, ⟨_, eI, rfl⟩, slot_si_next.lookup, ?_⟩
    have szE : (s.heap.push (siObj (.int 0 0) 0 a es.size ep)).objs.size = s.heap.objs.size + 1 := Heap.size_push _ _
    by_cases hb : w.params.followText "set-order" = true
    · refine hQ s.heap.objs.size [] ((pickOrder (w.params.setOrder a ep) es).toList.map (·.2)) _ s.drawn (Nat.le_refl _) (fun T hT => absurd hT (by simp)) (fun b hb => by rw [List.mem_singleton.mp hb, Heap.size_push]; exact Nat.lt_succ_self _) (fun b o e => Heap.get?_push_of_some _ e) ((pickOrder_perm _ _).map _) ⟨⟨o, Heap.get?_push_of_some _ ha, hd⟩, .inr (.inl ⟨rfl, hb, eI, rfl⟩)⟩
    · have hb' : w.params.followText "set-order" = false := by simpa using hb
      have hsz : es.size ≤ 1 := by
        rcases hp with hp | hp
        · rw [hb', hp] at hc
          simp at hc
          exact hc
        · exact hp
      refine hQ s.heap.objs.size [] (es.toList.map (·.2)) _ s.drawn (Nat.le_refl _) (fun T hT => absurd hT (by simp)) (fun b hb => by rw [List.mem_singleton.mp hb, Heap.size_push]; exact Nat.lt_succ_self _) (fun b o e => Heap.get?_push_of_some _ e) (.refl _) ⟨⟨o, Heap.get?_push_of_some _ ha, hd⟩, .inr (.inr ⟨rfl, hb', hsz, by rw [hl, hb']; rfl, rfl, 0, eI, fun _ => rfl, fun z => absurd z (by decide)⟩)⟩
end
end L2
set_option Elab.async false
set_option linter.all false
set_option maxRecDepth 100000
set_option maxHeartbeats 2000000
namespace L2
open PySem PySem.Spec PyProof.Rows Ken
section
variable {P : Program} {w : World} {A : Around} {E : Value → Shared → Prop} {s : Shared}
theorem split_set_len : splitId "set.__len__" = some ("set", "__len__") := by decide +kernel
theorem hint_set {a : Addr} {Q : Bool → Shared → Prop} (hT : s.TypeIs (.ref a) "set") (h : Q false s) : wpAny (model P w) A (Builtin.List.listLengthHint (.ref a)) Q E s := by
  unfold Builtin.List.listLengthHint
  refine wpAny_bind (wpAny_specialOf hT F.slot_set_len.lookup ?_)
  dsimp only
  rw [split_set_len]
  dsimp only
  refine wpAny_bind (wpAny_isInstance hT sub_set_self ?_)
  rw [if_neg (by decide)]
  refine wpAny_ite_split (fun _ => wpAny_bind (wpAny_typeOf hT (wpAny_pure h))) fun hz => absurd (by first | rfl | decide +kernel) hz
theorem extend_set {a S : Addr} {o : Obj} {es : Array (Int × Value)} {ep : Nat} {t : SetTable} {R : Result → Shared → Prop} {res : Value} {c₀ : Nat} (hh : A.handled = none) (ha : s.heap.get? a = some o) (hx : o.ExactSet) (hd : o.data = .set es ep t) (hf : t.fits es.size = true) (hl : t.led = !(w.params.followText "set-order")) (hp : t.plain = false ∨ es.size ≤ 1) (hz : es.size ≤ sizeLine)
    (hS : s.heap.get? S = some { cls := .type "list", data := .seq #[] c₀ })
    (hR : ∀ (h' : Heap) (tk : Nat) (d : Drawn) (vs : List Value) (c' : Nat), (∀ b o, b ≠ S → s.heap.get? b = some o → h'.get? b = some o) → h'.get? S = some { cls := .type "list", data := .seq vs.toArray c' } → List.Perm vs (es.toList.map (·.2)) → R (.ok (.ret res)) { s with heap := h', toks := tk, drawn := d }) :
    wpAny (model P w) A.in1 (Builtin.List.listExtendWith (.ref S) (.ref a) res) (fun fin s' => match fin with
      | Fin.done f => R (.ok f) s'
      | Fin.again c' => c'.quiet = true ∧ codeAny (model P w) A c' R s') (fun e s' => R (.error e) s') s := by
  have hT : s.TypeIs (.ref a) "set" := ⟨o, ha, hx.1⟩
  have hSa : S ≠ a := fun z => by
    rw [z, ha] at hS
    cases hS
    cases hd
  unfold Builtin.List.listExtendWith
  refine wpAny_bind (wpAny_typeOf hT ?_)
  rw [if_neg (show ¬ ((Builtin.List.listSameRef (.ref S) (.ref a) || Value.type "set" == Value.type "list" || Value.type "set" == Value.type "tuple") = true) from by
    rw [show Builtin.List.listSameRef (.ref S) (.ref a) = false from by
      show (S == a) = false
      simpa using hSa]
    decide)]
  refine wpAny_bind (iter_set ha hx hd hf hl hp hz fun I fs ord h1 d hI hfs hlt k1 hperm st => ?_)
  have ol : ord.length = es.size := by have := hperm.length_eq; simpa using this
  have haI : a ≠ I := Nat.ne_of_lt (Nat.lt_of_lt_of_le (Heap.lt_size ha) hI)
  have hSI : S ≠ I := Nat.ne_of_lt (Nat.lt_of_lt_of_le (Heap.lt_size hS) hI)
  have hSf : S ∉ I :: a :: fs := fun z => by
    rcases List.mem_cons.mp z with z | z
    · exact hSI z
    rcases List.mem_cons.mp z with z | z
    · exact hSa z
    · exact Nat.ne_of_lt (Nat.lt_of_lt_of_le (Heap.lt_size hS) (hfs S z).1) rfl
  have hS1 := k1 S _ hS
  have hT1 : ({ s with heap := h1, drawn := d } : Shared).TypeIs (.ref a) "set" := ⟨o, k1 a _ ha, hx.1⟩
  have W := walks_set (P := P) (w := w) (A := A.in1) (I := I) (a := a) (es := es) (ep := ep) (t := t) (ord := ord) (fs := fs) hh hf haI fun T hT' => (hfs T hT').2
  have key : ∀ (h : Heap) (c₁ tk : Nat), SiAt w I a es ep t ord fs 0 h → (∀ b o, b ≠ S → s.heap.get? b = some o → h.get? b = some o) → h.get? S = some { cls := .type "list", data := .seq #[] c₁ } →
      codeAny (model P w) A (Code.builtin "list.extend.loop" { pos := [.ref S, .ref I, res] }) R { s with heap := h, toks := tk, drawn := d } := fun h c₁ tk hst hk hS₁ =>
    codeAny_extend_loopS (Walks.toS W) hz S hSf res es.size 0 { s with heap := h, toks := tk, drawn := d } #[] c₁ rfl (Nat.zero_le _) hst hS₁ (ItemsOf.nil _) fun s' acc' c' hm hS' hacc => by
      rw [Moved.eq_with hm]
      refine hR s'.heap s'.toks d acc'.toList c' (fun b o hb e => hm.heap b o (fun hmem => ?_) (hk b o hb e)) (by simpa using hS') ?_
      · rcases List.mem_cons.mp hmem with z | z
        · exact hb z
        · have z' : b = I := List.mem_singleton.mp z
          exact absurd (Heap.lt_size e) (by rw [z']; exact Nat.not_lt.mpr hI)
      · have e : acc'.toList = ord := by
          apply List.ext_getElem?
          intro j
          cases q : acc'.toList[j]? with
          | none =>
            have : acc'.toList.length ≤ j := List.getElem?_eq_none_iff.mp q
            rw [List.getElem?_eq_none (by rw [ol]; have := hacc.1; rw [Array.length_toList] at *; omega)]
          | some v => exact (hacc.2 j v (by simpa using q)).symm
        rw [e]
        exact hperm
  refine wpAny_bind (wpAny_holding (hint_set hT1 ?_))
  refine wpAny_ite_split (fun _ => ?_) fun _ => ?_
  · refine wpAny_bind (wpAny_rule (wpAny_bind ?_))
    have hS2 := Heap.get?_update_self (Obj.mapSeq fun x => x.push Value.none) hS1 rfl
    have hS3 := Heap.get?_update_self (Obj.mapSeq fun x => x.pop) hS2 rfl
    have k3 : ∀ b ob, b ≠ S → h1.get? b = some ob → ((h1.update S (Obj.mapSeq fun x => x.push Value.none)).update S (Obj.mapSeq fun x => x.pop)).get? b = some ob := fun b ob hb e =>
      ((Heap.SameBut.update _ S _).2 b hb).trans (((Heap.SameBut.update _ S _).2 b hb).trans e)
    refine wpAny_bind (wpAny_updateSeq hS1 rfl ?_)
    refine wpAny_updateSeq hS2 rfl ?_
    exact wpAny_pure ⟨plainId_quiet F.plain_extend_loop _, key _ _ s.toks (st.keep fun b hb ob e => k3 b ob (fun z => hSf (z ▸ hb)) e) (fun b ob hb e => k3 b ob hb (k1 b ob e)) hS3⟩
  · exact wpAny_pure ⟨plainId_quiet F.plain_extend_loop _, key h1 c₀ s.toks st (fun b o _ e => k1 b o e) hS1⟩
theorem collect_set {a : Addr} {o : Obj} {es : Array (Int × Value)} {ep : Nat} {t : SetTable} {Q : List Value → Shared → Prop} (hh : A.handled = none) (ha : s.heap.get? a = some o) (hx : o.ExactSet) (hd : o.data = .set es ep t) (hf : t.fits es.size = true) (hl : t.led = !(w.params.followText "set-order")) (hp : t.plain = false ∨ es.size ≤ 1) (hz : es.size ≤ sizeLine)
    (hQ : ∀ (h' : Heap) (tk : Nat) (d : Drawn) (vs : List Value), s.heap.objs.size < h'.objs.size → (∀ b o, s.heap.get? b = some o → h'.get? b = some o) → List.Perm vs (es.toList.map (·.2)) → Q vs { s with heap := h', toks := tk, drawn := d }) :
    wpAny (model P w) A (collect (.ref a)) Q E s := by
  refine wpAny_bind (wpAny_runValue (codeAny_builtin entry_proto_collect' ?_))
  rw [Around.under_plainId F.plain_proto_collect { pos := [Value.ref a] }]
  refine wpAny_bind (wpAny_newObj_type (wpAny_pure ⟨plainId_quiet F.plain_list_iadd _, codeAny_builtin entry_list_iadd' ?_⟩))
  rw [Around.under_plainId F.plain_list_iadd { pos := [Value.ref s.heap.objs.size, Value.ref a] }]
  show wpAny _ _ (Builtin.List.listExtendWith (.ref s.heap.objs.size) (.ref a) (.ref s.heap.objs.size)) _ _ _
  have hS : (s.heap.push { cls := Value.type "list", data := Data.seq ([] : List Value).toArray }).get? s.heap.objs.size = some { cls := Value.type "list", data := Data.seq #[] 0 } := Heap.get?_push_size _ rfl
  refine extend_set (P := P) (w := w) (s := { s with heap := s.heap.push { cls := Value.type "list", data := Data.seq ([] : List Value).toArray } }) (R := fun r s' => match r with
    | .ok (.ret v) => wpAny (model P w) A (match v with
      | .ref a => do
        let o ← load a
        match o.data with
          | .seq xs _ => pure xs.toList
          | _ => unsupported "internal:collect"
      | _ => unsupported "internal:collect") Q E s'
    | .ok _ => False
    | .error e => E e s') hh (Heap.get?_push_of_some _ ha) hx hd hf hl hp hz hS fun h' tk d vs c' k hv hperm => ?_
  refine wpAny_bind (wpAny_load hv (wpAny_pure ?_))
  exact hQ h' tk d vs (Heap.lt_size hv) (fun b ob e => k b ob (Nat.ne_of_lt (Heap.lt_size e)) (Heap.get?_push_of_some _ e)) hperm
theorem strs_paired {es : List (Int × Value)} {ys : List Str} (h : Paired (fun (e : Int × Value) (x : Str) => ∃ tk, e.2 = .str x tk) es ys) : StrsAre (es.map (·.2)) ys := by
  induction h with
  | nil => exact .nil
  | cons hx _ ih =>
    obtain ⟨tk, e⟩ := hx
    rw [List.map_cons, e]
    exact .cons _ tk ih
theorem strs_perm {us vs : List Value} {ys : List Str} (p : List.Perm us vs) (h : StrsAre us ys) : ∃ zs, List.Perm ys zs ∧ StrsAre vs zs := by
  induction p generalizing ys with
  | nil => cases h; exact ⟨[], .nil, .nil⟩
  | cons x _ ih =>
    cases h with
    | cons n tk t =>
      obtain ⟨zs, p', q'⟩ := ih t
      exact ⟨_ :: zs, .cons _ p', .cons _ tk q'⟩
  | swap x y l =>
    cases h with
    | cons n tk t =>
      cases t with
      | cons n2 tk2 t => exact ⟨_, .swap _ _ _, .cons _ tk2 (.cons _ tk t)⟩
  | trans _ _ ih1 ih2 =>
    obtain ⟨m1, p1, q1⟩ := ih1 h
    obtain ⟨m2, p2, q2⟩ := ih2 q1
    exact ⟨m2, p1.trans p2, q2⟩
theorem sorted_set {a : Addr} {xs : List Str} {Q : Value → Shared → Prop} (hh : A.handled = none) (st : SetAt P w s.heap a xs) (h64 : xs.length < 64)
    (hQ : ∀ (D : Addr) (h' : Heap) (tk : Nat) (d : Drawn) (out : List Value) (c : Nat) (ys : List Str), s.heap.objs.size ≤ D → (∀ b o, s.heap.get? b = some o → h'.get? b = some o) → h'.get? D = some { cls := .type "list", data := .seq out.toArray c } → StrsAre out ys → List.Perm ys xs → sortedS ys = true → Q (.ref D) { s with heap := h', toks := tk, drawn := d }) :
    wpAny (model P w) A (call (.builtin "sorted") [.ref a]) Q E s := by
  obtain ⟨o, es, ep, t, ys, h1, h2, h3, h4, h5, h6, h7, h8, h9, h10, h11⟩ := st
  have hlen : es.size = xs.length := by have := Paired.length h5; have := h6.length_eq; rw [← Array.length_toList]; omega
  refine Calls.call_function_entry kind_sorted plain_sorted entry_sorted (args_sorted1 (.ref a)) ?_
  show wpAny _ _ (pure () >>= _) _ _ _
  refine wpAny_bind (wpAny_pure (wpAny_bind (collect_set (A := A.in1) hh h1 h2 h3 h9 h10 (h11.imp id fun z => by rw [hlen, z]; exact Nat.zero_le _) (by rw [hlen]; exact Nat.le_trans (Nat.le_of_lt h64) (by decide)) fun h' tk d vs hlt k hperm => ?_)))
  obtain ⟨zs, pz, sz⟩ := strs_perm hperm.symm (strs_paired h5)
  have hvl : vs.length = xs.length := by have := hperm.length_eq; rw [List.length_map] at this; have e := Array.length_toList (xs := es); omega
  refine wpAny_bind (wpAny_newList ?_ (by rw [hvl]; exact Nat.le_trans (Nat.le_of_lt h64) (by decide)))
  have hoL : (h'.push (seqObj "list" vs.toArray 0)).get? h'.objs.size = some (seqObj "list" vs.toArray 0) := Heap.get?_push_size _ rfl
  refine wpAny_bind (wpAny_holding (wpAny_call_entry slot_list_sort ⟨_, hoL, rfl⟩ entry_list_sort ?_ (args_list_sort (.ref h'.objs.size))))
  refine list_sort_treeK strKind_oneLt hoL (StrsAre.keysOf sz) (fun v₁ v₂ rest e => keyKind_strs (e ▸ sz)) (by rw [hvl]; exact h64) fun st' a1 a2 => ?_
  obtain ⟨ss', b1, b2, b3⟩ := sorted_out_str sz a1 a2
  obtain ⟨c, hc⟩ := sortedHeap_at (out := Array.map (fun x => x.snd) (arrOf st')) hoL
  refine ⟨.none, rfl, wpAny_pure ⟨_, rfl, ?_⟩⟩
  have hsz : s.heap.objs.size ≤ h'.objs.size := Nat.le_of_lt hlt
  exact hQ h'.objs.size _ tk d _ c ss' hsz (fun b ob e => by
    have hb := k b ob e
    rw [sortedHeap_old (Nat.ne_of_lt (Heap.lt_size hb)) (by rw [Heap.size_push]; exact Nat.lt_succ_of_lt (Heap.lt_size hb))]
    exact Heap.get?_push_of_some _ hb) (hc.trans (by rw [Array.toArray_toList])) b1 (b2.trans (pz.symm.trans h6)) b3
end
end L2
set_option Elab.async false
set_option linter.all false
set_option maxRecDepth 100000
set_option maxHeartbeats 2000000
namespace L2
open PySem PySem.Spec PyProof.Rows Ken
theorem cxOf_prog (CX : CXT) (P : Program) (w : World) (K : PySem.W.Frag) (mg : Str → Option Value) (base : Heap) (N : List Str) (qual : Str) (scope : Scope) (f : Addr) (cd : Value) (A : Around) (outer : List Env) (s : Shared) (H : Hp) (E : XK) : (cxOf CX P w K mg base N qual scope f cd A outer s H E).prog = P := rfl
theorem cxOf_w (CX : CXT) (P : Program) (w : World) (K : PySem.W.Frag) (mg : Str → Option Value) (base : Heap) (N : List Str) (qual : Str) (scope : Scope) (f : Addr) (cd : Value) (A : Around) (outer : List Env) (s : Shared) (H : Hp) (E : XK) : (cxOf CX P w K mg base N qual scope f cd A outer s H E).w = w := rfl
theorem blk_prog (X : Cx) (N' : List Str) (scope : Scope) (cl : List (Str × Addr)) (s : Shared) (H : Hp) (C : Addr) (ex : List Addr) : (blk X N' scope cl s H C ex).prog = X.prog := rfl
theorem blk_w (X : Cx) (N' : List Str) (scope : Scope) (cl : List (Str × Addr)) (s : Shared) (H : Hp) (C : Addr) (ex : List Addr) : (blk X N' scope cl s H C ex).w = X.w := rfl
section
variable {X : Cx}
theorem call_sortedS {P : Program} {w : World} (hP : X.prog = P) (hw : X.w = w) (hc : X.calm = true) : CallR X (.builtin "sorted") (fun vs H Q => ∃ (a : Addr) (xs : List Str), vs = [.ref a] ∧ H a = some (setO P w a xs) ∧ xs.length < 64 ∧ ∀ l ys, H l = none → List.Perm ys xs → sortedS ys = true → Q (.ref l) (upd H l (.lst (ys.map V.str)))) := by
  subst hP hw
  intro pins s σ H vs us Q I r h
  obtain ⟨a, xs, rfl, ha, hn, q⟩ := h
  obtain ⟨u, rfl, ru⟩ := vals1 r
  cases ru
  refine sorted_set (I.ok.hd hc) (setO_at I.hok ha) hn fun D h' tk d out c ys hD k hD' hs hp hso => ?_
  have hl : H D = none := I.hok.fresh hD
  have yl : ys.length < 64 := by rw [hp.length_eq]; exact hn
  have ok : ObjOk X.prog X.w (upd H D (.lst (ys.map V.str))) h' D (.lst (ys.map V.str)) := ⟨by rw [List.length_map]; exact Nat.le_trans (Nat.le_of_lt yl) (by decide), out, c, vals_of_strs hs, hD'⟩
  exact ⟨.ref D, _, I.call (g' := s.gens) (t' := tk) (d' := d) (ch := []) (Un.laid k hD hl) (I.hok.laid k hD ok) I.bare (fun b z => absurd z (by simp)), rfl, q D ys hl hp hso⟩
end
end L2
namespace Ken
open PySem L2 PyProof.Rows
end Ken
set_option Elab.async false
set_option linter.all false
set_option maxRecDepth 100000
set_option maxHeartbeats 4000000
namespace L2
open PySem PySem.Spec PyProof.Rows Ken
noncomputable def metS (xs : List Str) : Nat → List Str
  | 0 => []
  | i + 1 => match xs[i]? with
    | some x => if x ∈ metS xs i then metS xs i else metS xs i ++ [x]
    | none => metS xs i
theorem metS_succ {xs : List Str} {i : Nat} {x : Str} (h : xs[i]? = some x) : metS xs (i + 1) = if x ∈ metS xs i then metS xs i else metS xs i ++ [x] := by
  show (match xs[i]? with | some x => if x ∈ metS xs i then metS xs i else metS xs i ++ [x] | none => metS xs i) = _
  rw [h]
theorem metS_len {xs : List Str} : ∀ i, (metS xs i).length ≤ i
  | 0 => Nat.le_refl _
  | i + 1 => by
    have := metS_len (xs := xs) i
    cases h : xs[i]? with
    | none =>
      show (match xs[i]? with | some x => if x ∈ metS xs i then metS xs i else metS xs i ++ [x] | none => metS xs i).length ≤ _
      rw [h]
      show (metS xs i).length ≤ i + 1
      omega
    | some x =>
      rw [metS_succ h]
      split
      · omega
      · rw [List.length_append, List.length_singleton]; omega
theorem metS_mem {xs : List Str} (x : Str) : ∀ i, i ≤ xs.length → (x ∈ metS xs i ↔ x ∈ xs.take i)
  | 0, _ => by simp [metS]
  | i + 1, hi => by
    have ih := metS_mem (xs := xs) x i (by omega)
    have hx : xs[i]? = some (xs[i]'(by omega)) := List.getElem?_eq_getElem _
    rw [metS_succ hx, List.take_add_one, hx]
    show _ ↔ x ∈ xs.take i ++ [xs[i]'(by omega)]
    rw [List.mem_append, List.mem_singleton, ← ih]
    split
    · rename_i hm
      exact ⟨.inl, fun z => z.elim id fun e => e ▸ hm⟩
    · rw [List.mem_append, List.mem_singleton]
theorem metS_nodup {xs : List Str} : ∀ i, (metS xs i).Nodup
  | 0 => List.nodup_nil
  | i + 1 => by
    have ih := metS_nodup (xs := xs) i
    cases h : xs[i]? with
    | none =>
      show (match xs[i]? with | some x => if x ∈ metS xs i then metS xs i else metS xs i ++ [x] | none => metS xs i).Nodup
      rw [h]; exact ih
    | some x =>
      rw [metS_succ h]
      split
      · exact ih
      · rename_i hm
        rw [List.nodup_append]
        exact ⟨ih, List.pairwise_singleton _ _, fun a ha b hb e => hm (by rw [List.mem_singleton] at hb; rw [← hb, ← e]; exact ha)⟩
section
variable {P : Program} {w : World} {A : Around} {RR : Result → Shared → Prop} {J : Addr} {fps ws : List Addr} {GG : Array GenState → Array GenState → Prop} {n : Nat} {PP : Nat → Value → Prop} {SS : Nat → Shared → Prop}
theorem loop_texts (W : WalksS P w A.in1 J fps ws GG n PP SS) (a : Addr) (haf : a ∉ fps) (xs : List Str) (hval : ∀ i v, PP i v → ∃ x t, xs[i]? = some x ∧ v = .str x t) (hb : n + 1 < scanBound) :
    ∀ (k i : Nat) (s : Shared), n - i = k → i ≤ n → SS i s → SetAt P w s.heap a (metS xs i) → (∀ s', Moved (a :: ws) GG s s' → SetAt P w s'.heap a (metS xs n) → RR (.ok (.ret .none)) s') →
      codeAny (model P w) A (.builtin "set.update.loop" ⟨[.ref a, .ref J], []⟩) RR s := by
  have haw : a ∉ ws := fun z => haf (W.sub _ z)
  have sub : ∀ b ∈ ws, b ∈ a :: ws := fun b z => List.mem_cons_of_mem _ z
  intro k
  induction k with
  | zero =>
    intro i s e1 e2 st hs hR
    obtain rfl : i = n := by omega
    refine codeAny_builtin F.entry_set_update_loop ?_
    rw [Around.under_plainId F.plain_set_update_loop _]
    show wpAny _ A.in1 (pyNext (.ref J) >>= _) _ _ s
    refine wpAny_bind (W.done s _ _ st fun s' mv => ?_)
    exact wpAny_pure (hR s' (mv.mono sub) (hs.at fun o e => mv.heap a _ haw e))
  | succ k ih =>
    intro i s e1 e2 st hs hR
    have hlt : i < n := by omega
    refine codeAny_builtin F.entry_set_update_loop ?_
    rw [Around.under_plainId F.plain_set_update_loop _]
    show wpAny _ A.in1 (pyNext (.ref J) >>= _) _ _ s
    refine wpAny_bind (W.item i s _ _ hlt st fun v s' hp st' mv => ?_)
    obtain ⟨x, t, hx, rfl⟩ := hval i v hp
    have hs' : SetAt P w s'.heap a (metS xs i) := hs.at fun o e => mv.heap a _ haw e
    have his : (PySem.strKind P w).is x (.str x t) = true := by
      show Value.isStrOf x (.str x t) = true
      simp [Value.isStrOf]
    show wpAny _ A.in1 (holding [Value.str x t] (setAdd a (.str x t)) >>= _) _ _ s'
    refine wpAny_bind (wpAny_holding (wpAny_holding (wpAny_bind ((PySem.strKind P w).pyHash his ?_))))
    have hl := metS_len (xs := xs) i
    refine setAdd_str (s := { s' with toks := s'.toks + 1 }) hs' (by omega) fun h' sb sa b => ?_
    rw [← metS_succ hx] at sa
    refine wpAny_pure ⟨plainId_quiet F.plain_set_update_loop _, ih (i + 1) _ (by omega) hlt (W.frame _ s' _ _ st' (Nat.le_succ _) fun c hc o e => ?_) sa fun s2 mv2 hs2 => ?_⟩
    · rw [sb.2 c (fun z : c = a => haf (by rw [← z]; exact hc))]; exact e
    · refine hR s2 (Moved.trans W.gtrans ((mv.mono sub).then_heap (Nat.le_succ _) fun c o hc e => ?_) mv2) hs2
      rw [sb.2 c (fun z : c = a => hc (by rw [z]; exact List.mem_cons_self))]; exact e
end
section
variable {P : Program} {w : World} {A : Around} {E : Value → Shared → Prop} {s : Shared}
theorem new_texts (v : Value) {Q1 : Value → Shared → Prop} (hq : Q1 (.ref s.heap.objs.size) { s with heap := s.heap.push (setObj0 w) }) : codeAny (model P w) A (.call (.builtin "set.__new__") ⟨[.type "set", v], []⟩) (wants Q1 E) s := by
  refine codeAny_of_tree ?_
  show wpAny _ A.in1 (checkBuiltinCall "set.__new__" ⟨[.type "set", v], []⟩ >>= fun _ => again (.builtin "set.__new__" ⟨[.type "set", v], []⟩)) _ _ s
  refine wpAny_bind (wpAny_of_eq (F.newCall_set_1 v) (wpAny_pure ⟨plainId_quiet F.plain_set_new _, codeAny_builtin F.entry_set_new ?_⟩))
  rw [Around.under_plainId F.plain_set_new _]
  unfold Builtin.«set.__new__» Builtin.Frozenset.newClass
  have sb := sub_set_self
  obtain ⟨hp, g, d, tk, os⟩ := s
  dsimp only
  wp_walk
  refine wpAny_askSetting (wpAny_pure ?_)
  dsimp only [newObj]
  exact wpAny_bind (wpAny_alloc (wpAny_pure (wpAny_pure hq)))
theorem call_texts {l : Addr} {its : Array Value} {xs : List Str} {Q : Value → Shared → Prop} (hh : A.handled = none) (hl : s.heap.IsList l its) (hi : ∀ (i : Nat) (v : Value), its[i]? = some v → ∃ x t, xs[i]? = some x ∧ v = .str x t) (hb : its.size + 1 < scanBound)
    (hq : ∀ (h' : Heap) (tk : Nat), SetAt P w h' s.heap.objs.size (metS xs its.size) → (∀ b o, b < s.heap.objs.size → s.heap.get? b = some o → h'.get? b = some o) → Q (.ref s.heap.objs.size) { s with heap := h', toks := tk }) :
    wpAny (model P w) A (call (.type "set") [.ref l]) Q E s := by
  obtain ⟨c, tl, hmro⟩ := F.called_set.mro
  have u1 := F.called_set.made
  have u2 := F.called_set.sub
  refine wpAny_call (codeAny_of_tree ?_)
  show wpAny _ _ (callAny (.type "set") _) _ _ _
  refine wpAny_pure ⟨Code.quiet_builtin _ (by decide +kernel), codeAny_builtin F.entry_type_call ?_⟩
  rw [Around.under_plain (weight_type_call_type "set" [.ref l] []) rfl]
  have u3 := F.called_set.notType
  have u4 := F.called_set.canCreate
  have u5 := F.typeCall_set_1 (.ref l)
  repeat any_goals first | wp_step | assumption
  refine codeAny_mono (new_texts (.ref l) (E := E) (Q1 := fun ob s1 => ob = .ref s.heap.objs.size ∧ s1 = { s with heap := s.heap.push (setObj0 w) }) ⟨rfl, rfl⟩) fun r s1 hr => ?_
  cases r with
  | error e => exact hr
  | ok fl =>
    cases fl with
    | ret ob =>
      obtain ⟨rfl, rfl⟩ := hr
      have g0 : (s.heap.push (setObj0 w)).get? s.heap.objs.size = some (setObj0 w) := Heap.get?_push_size _ rfl
      have hT : Shared.TypeIs { s with heap := s.heap.push (setObj0 w) } (.ref s.heap.objs.size) "set" := ⟨_, g0, rfl⟩
      have u6 := F.called_set.init.lookup
      have u7 := F.called_set.init.bind (.ref s.heap.objs.size)
      repeat any_goals first | wp_step | assumption
      refine codeAny_mono (codeAny_call_builtin (R := wants (fun r s2 => r = .none ∧ ∃ h' tk, s2 = { s with heap := h', toks := tk } ∧ SetAt P w h' s.heap.objs.size (metS xs its.size) ∧ (∀ b o, b < s.heap.objs.size → s.heap.get? b = some o → h'.get? b = some o)) E) F.called_set.init.plain F.entry_set_init (check_set_init_1 hT ?_)) fun r2 s2 hr2 => ?_
      · obtain ⟨ol, hol, hcl, nl, hdl⟩ := hl
        obtain ⟨k1, k2, k3, k4⟩ := ol
        simp only at hcl hdl
        subst hcl hdl
        have hol1 : (s.heap.push (setObj0 w)).get? l = some ⟨.type "list", k2, .seq its nl, k4⟩ := Heap.get?_push_of_some _ hol
        have v1 := F.sub_list_set
        have v2 := F.sub_list_frozenset
        have v3 : (Value.type "list" == Value.type "dict") = false := by decide
        have hl1 : (s.heap.push (setObj0 w)).IsList l its := ⟨_, hol1, rfl, nl, rfl⟩
        unfold Builtin.«set.__init__» noKeywords Builtin.Frozenset.updateFrom
        generalize hPI : pyIter = PI
        wp_walk
        subst hPI
        refine wpAny_pyIter_list hl1 (wpAny_bind (wpAny_runValue ?_))
        have hls : l < s.heap.objs.size := Heap.lt_size hol
        have h3 : A.in1.in1.in1.handled = none := by simp [hh]
        have sz : (s.heap.push (setObj0 w)).objs.size = s.heap.objs.size + 1 := Heap.size_push ..
        refine loop_texts ((Walks.list h3 _ l (by rw [sz]; exact Nat.ne_of_lt (Nat.lt_succ_of_lt hls)) its).toS) s.heap.objs.size (by
          rw [sz]
          intro z
          rcases List.mem_cons.mp z with z | z
          · exact absurd z (Nat.ne_of_lt (Nat.lt_succ_self _))
          · exact absurd (List.mem_singleton.mp z) (Nat.ne_of_gt hls)) xs hi hb (its.size - 0) 0 _ (by omega) (Nat.zero_le _) ⟨⟨_, Heap.get?_push_size _ rfl, rfl, rfl⟩, hl1.push _⟩ ?_ ?_
        · exact setAt_new (Heap.get?_push_of_some _ g0)
        · intro s' mv st
          obtain ⟨h', g', d', tk', os'⟩ := s'
          have e1 : g' = s.gens := mv.gens
          have e2 : d' = s.drawn := mv.drawn
          have e3 : os' = s.os := mv.os
          subst e1 e2 e3
          refine wpAny_pure (wpAny_pure ⟨rfl, h', tk', rfl, st, fun b o hb e => ?_⟩)
          refine mv.heap b o ?_ (Heap.get?_push_of_some _ (Heap.get?_push_of_some _ e))
          rw [sz]
          intro z
          rcases List.mem_cons.mp z with z | z
          · exact absurd z (Nat.ne_of_lt hb)
          · exact absurd (List.mem_singleton.mp z) (Nat.ne_of_lt (Nat.lt_succ_of_lt hb))
      · cases r2 with
        | error e => exact hr2
        | ok fl2 =>
          cases fl2 with
          | ret r =>
            obtain ⟨rfl, h', tk, rfl, st, kk⟩ := hr2
            repeat any_goals first | wp_step | assumption
            exact hq _ _ st kk
          | _ => exact hr2.elim
    | _ => exact hr.elim
end
section
variable {X : Cx}
noncomputable def rSetOf (K : PySem.W.Frag) (P : Program) (w : World) : List V → Hp → VK → Prop := fun vs H Q => ∃ (l : Addr) (xs : List Str), vs = [.ref l] ∧ SqL K H l (xs.map V.str) ∧ xs.length < 4000 ∧ ∀ a, H a = none → Q (.ref a) (upd H a (setO P w a (metS xs xs.length)))
theorem call_setL {P : Program} {w : World} (hP : X.prog = P) (hw : X.w = w) (hc : X.calm = true) : CallR X (.type "set") (rSetOf X.K P w) := by
  subst hP hw
  intro pins s σ H vs us Q I r h
  obtain ⟨l, xs, rfl, hq, hn, q⟩ := h
  obtain ⟨u, rfl, ru⟩ := vals1 r
  cases ru
  obtain ⟨its, rv, pl, hz⟩ := I.list hq
  have hlen := rv.length
  rw [List.length_map] at hlen
  refine call_texts (xs := xs) (I.ok.hd hc) pl.isList (fun i v hv => ?_) (by rw [List.size_toArray, ← hlen]; exact Nat.lt_of_le_of_lt hn (by decide)) fun h' tk st kk => ?_
  · have hv' : its[i]? = some v := by simpa using hv
    have hi : i < xs.length := by rw [hlen]; exact (List.getElem?_eq_some_iff.mp hv').1
    obtain ⟨u, hu, ru⟩ := rv.get (i := i) (x := V.str xs[i]) (by rw [List.getElem?_map, List.getElem?_eq_getElem hi]; rfl)
    rw [hv'] at hu
    cases hu
    obtain ⟨t, rfl⟩ := ru
    exact ⟨_, t, List.getElem?_eq_getElem hi, rfl⟩
  · rw [show its.toArray.size = xs.length by rw [List.size_toArray, hlen]] at st
    have hn0 : H s.heap.objs.size = none := I.hok.fresh (Nat.le_refl _)
    exact ⟨.ref s.heap.objs.size, _, I.laid (t' := tk) (fun b o e => kk b o (Heap.lt_size e) e) (Nat.le_refl _) (setO_ok st), rfl, q _ hn0⟩
end
end L2
set_option Elab.async false
set_option linter.all false
set_option maxRecDepth 100000
set_option maxHeartbeats 4000000
namespace L2
open PySem PySem.Spec PyProof.Rows Ken
noncomputable def EntsOf (P : Program) (w : World) (l : List (Int × Value)) (xs : List Str) : Prop := ElemsOf (PySem.strKind P w) l ∧ ∃ ys, Paired (fun (e : Int × Value) (x : Str) => ∃ tk, e.2 = .str x tk) l ys ∧ List.Perm ys xs
section
variable {P : Program} {w : World} {A : Around} {E : Value → Shared → Prop} {s : Shared} {a r o : Addr} {xs ys : List Str}
theorem ents_perm {l l' : List (Int × Value)} (p : List.Perm l' l) (h : EntsOf P w l xs) : EntsOf P w l' xs := by
  obtain ⟨h1, ys, h2, h3⟩ := h
  obtain ⟨zs, p2, h4⟩ := paired_perm p.symm h2
  exact ⟨fun e he => h1 e (p.mem_iff.mp he), zs, h4, p2.symm.trans h3⟩
theorem walk_set {Q : Array (Int × Value) → Shared → Prop} (hs : SetAt P w s.heap a xs) (hQ : ∀ arr d, EntsOf P w arr.toList xs → Q arr { s with drawn := d }) : wpAny (model P w) A (setWalk a) Q E s := by
  obtain ⟨ob, es, ep, t, ys', a1, a2, a3, a4, a5, a6, a7, a8, a9, a10, a11⟩ := id hs
  have he : EntsOf P w es.toList xs := ⟨a4, ys', a5, a6⟩
  have hlen : es.size = xs.length := by have := Paired.length a5; have := a6.length_eq; rw [← Array.length_toList]; omega
  unfold setWalk
  refine wpAny_bind (wpAny_setState_of a1 a3 a9 ?_)
  dsimp only
  refine wpAny_bind (wpAny_bind (wpAny_askSetting (wpAny_pure ?_)))
  split
  · rename_i hb
    refine wpAny_bind (wpAny_askSetting (wpAny_pure ?_))
    exact hQ _ s.drawn (ents_perm (pickOrder_perm _ _) he)
  · rename_i hb
    have hb : ¬ w.params.followText "set-order" = true := hb
    split
    · refine wpAny_bind (drawOrderS es.size es.toList (by simp) fun zs d hp => wpAny_pure (hQ _ d (ents_perm (by simpa using hp) he)))
    · have led : t.led = true := by rw [a10]; simp [hb]
      refine wpAny_bind (wpAny_of_eq (a := ()) ?_ (wpAny_pure (hQ es s.drawn he)))
      show (if (!t.led && decide (es.size > 1)) = true then _ else pure ()) = pure ()
      rw [led]; rfl
theorem quiet_in {f : (Int × Value) → Option Bool × Unit → Sem (ForInStep (Option Bool × Unit))} : ∀ (l : List (Int × Value)), (∀ e ∈ l, f e (none, ()) = pure (ForInStep.yield (none, ()))) → (forIn l ((none : Option Bool), ()) f : Sem _) = pure (none, ())
  | [], _ => rfl
  | e :: l, h => by
    rw [List.forIn_cons, h e List.mem_cons_self, pure_bind]
    exact quiet_in l fun e' he => h e' (List.mem_cons_of_mem _ he)
theorem ents_str {l : List (Int × Value)} (h : EntsOf P w l xs) : ∀ e ∈ l, ∃ x tk, e.2 = .str x tk := by
  obtain ⟨-, ys, h2, -⟩ := h
  induction h2 with
  | nil => intro e he; cases he
  | cons r t ih =>
    intro e he
    rcases List.mem_cons.mp he with z | z
    · rw [z]; obtain ⟨tk, q⟩ := r; exact ⟨_, tk, q⟩
    · exact ih e z
theorem quiet_all (zs : List Addr) (hz : ∀ z ∈ zs, ∃ us, SetAt P w s.heap z us) : wpAny (model P w) A (setsQuiet zs) (fun b s' => b = true ∧ s' = s) E s := by
  unfold setsQuiet
  refine wpAny_bind (wpAny_mono (Q := fun b s' => b = (none, ()) ∧ s' = s) (E := E) ?_ (fun b s' ⟨h1, h2⟩ => by subst h1 h2; exact wpAny_pure ⟨rfl, rfl⟩) fun _ _ z => z)
  induction zs with
  | nil => exact wpAny_pure ⟨rfl, rfl⟩
  | cons z zs ih =>
    obtain ⟨us, hu⟩ := hz z List.mem_cons_self
    obtain ⟨ob, es, ep, t, ys', a1, a2, a3, a4, a5, a6, a7, a8, a9, a10, a11⟩ := id hu
    rw [List.forIn_cons]
    refine wpAny_bind (wpAny_bind (wpAny_bind (wpAny_setState_of a1 a3 a9 (wpAny_pure (wpAny_bind (wpAny_of_eq (a := ((none : Option Bool), ())) ?_ (wpAny_pure (ih fun z' h' => hz z' (List.mem_cons_of_mem _ h')))))))))
    rw [← Array.forIn_toList]
    refine quiet_in es.toList fun e he => ?_
    obtain ⟨x, tk, hx⟩ := ents_str (P := P) (w := w) (xs := us) ⟨a4, ys', a5, a6⟩ e he
    obtain ⟨e1, e2⟩ := e
    have hx : e2 = .str x tk := hx
    subst hx
    rfl
theorem walk_unseen {Q : Array (Int × Value) → Shared → Prop} (hs : SetAt P w s.heap a xs) (ho : SetAt P w s.heap o ys) (hr : SetAt P w s.heap r []) (hra : a ≠ r) (hro : o ≠ r)
    (hQ : ∀ arr h' d, EntsOf P w arr.toList xs → Heap.SameBut r s.heap h' → SetAt P w h' r [] → Q arr { s with heap := h', drawn := d }) : wpAny (model P w) A (setWalkUnseen a [o, r] (some r)) Q E s := by
  obtain ⟨ob, es, ep, t, ys', a1, a2, a3, a4, a5, a6, a7, a8, a9, a10, a11⟩ := id hs
  have he : EntsOf P w es.toList xs := ⟨a4, ys', a5, a6⟩
  have hw : ∀ s', s' = s → wpAny (model P w) A (setWalk a) Q E s' := fun s' e => by subst e; exact walk_set hs fun arr d h => hQ arr _ d h (.refl ..) hr
  unfold setWalkUnseen
  refine wpAny_bind (wpAny_setState_of a1 a3 a9 ?_)
  dsimp only
  refine wpAny_bind (wpAny_bind (wpAny_askSetting (wpAny_pure ?_)))
  split
  · exact hw _ rfl
  rename_i hn
  have hn : ¬ (w.params.followText "set-order" || t.led && t.plain || decide (es.size ≤ 1)) = true := hn
  have hnt : ¬ w.params.followText "set-order" = true := fun z => hn (by rw [z]; rfl)
  have hsz : ¬ es.size ≤ 1 := fun z => hn (by rw [decide_eq_true z, Bool.or_true])
  refine wpAny_bind (wpAny_mono (quiet_all [a, o, r] fun z hz => ?_) (fun b s' ⟨hb, es'⟩ => ?_) fun _ _ z => z)
  · simp only [List.mem_cons, List.not_mem_nil, or_false] at hz
    rcases hz with rfl | rfl | rfl
    · exact ⟨_, hs⟩
    · exact ⟨_, ho⟩
    · exact ⟨_, hr⟩
  subst hb es'
  simp only [Bool.not_true, Bool.false_eq_true, if_false]
  refine wpAny_bind (wpAny_rule ?_)
  obtain ⟨or, er, epr, tr, yr, b1, b2, b3, b4, b5, b6, b7, b8, b9, b10, b11⟩ := id hr
  refine wpAny_bind (wpAny_setState_of b1 b3 b9 ?_)
  dsimp only
  have done : ∀ h', Heap.SameBut r s'.heap h' → SetAt P w h' r [] → Q es { s' with heap := h' } := fun h' h1 h2 => hQ es h' s'.drawn he h1 h2
  split
  · refine wpAny_bind (wpAny_storeSet_of b1 b3 (wpAny_pure (done _ (Heap.SameBut.update ..) ?_)) (Nat.le_trans (Nat.le_of_lt b8) (show scanBound ≤ sizeLine by decide)))
    have S1 := SetOf_store (knd := PySem.strKind P w) (t' := { tr with led := tr.led && t.led, plain := tr.plain && t.plain }) (S' := fun k => er.toList.any fun e => (PySem.strKind P w).is k e.2) b1 b2 b3 b4 (fun k => by rw [List.any_eq_true]) b8 b9
    exact ⟨_, er, _, _, yr, S1.1, b2, rfl, b4, b5, b6, b7, b8, b9, by show (tr.led && t.led) = _; rw [b10, a10, Bool.and_self], .inr rfl⟩
  · exact wpAny_bind (wpAny_pure (wpAny_pure (done _ (.refl ..) hr)))
theorem entry_set_sub : entryFor table "set.__sub__" = some Builtin.«frozenset.__sub__» :=
  entryFor_alias (id' := "frozenset.__sub__") (by rw [fastTable_eq_tree]; rfl) (by decide +kernel) (by decide +kernel) (by rw [fastTable_eq_tree]; rfl)
theorem set_type (h : SetAt P w s.heap a xs) : s.TypeIs (.ref a) "set" := by
  obtain ⟨ob, es, ep, t, ys', a1, a2, _⟩ := h
  exact ⟨ob, a1, a2.1⟩
theorem isany {Q : Bool → Shared → Prop} (h : SetAt P w s.heap a xs) (q : Q true s) : wpAny (model P w) A (Builtin.Frozenset.isAnySet (.ref a)) Q E s := by
  refine wpAny_bind (wpAny_isInstance (b := true) (set_type h) (by rw [isSubtype_type]; kernel_rfl) ?_)
  exact wpAny_pure q
theorem set_find {x : Str} {tk : Tok} {Q : Option Nat → Shared → Prop} (h : SetAt P w s.heap a xs) (q : ∀ r : Option Nat, r.isSome = decide (x ∈ xs) → Q r s) : wpAny (model P w) A (setFind a (.str x tk) ((PySem.strKind P w).hash x)) Q E s := by
  obtain ⟨ob, es, ep, t, ys', a1, a2, a3, a4, a5, a6, a7, a8, a9, a10, a11⟩ := h
  have his : ∀ (y : Str) (tk : Tok) (x : Str), (PySem.strKind P w).is x (.str y tk) = decide (y = x) := fun y tk x => by
    show Value.isStrOf x (.str y tk) = _
    by_cases e : y = x
    · subst e; rw [decide_eq_true rfl]; simp [Value.isStrOf]
    · rw [decide_eq_false e]; simp [Value.isStrOf, e]
  refine wpAny_setFind_of (knd := PySem.strKind P w) (k := x) (S := fun k => decide (k ∈ xs)) (n := es.size) (by rw [his]; simp) rfl ⟨ob, es, ep, t, a1, a2, a3, a4, fun k => ?_, a8, a9, rfl⟩ q
  rw [decide_eq_true_eq, ← a6.mem_iff]
  constructor
  · intro hk
    obtain ⟨i, hi, e⟩ := List.getElem_of_mem hk
    have lp := Paired.length a5
    obtain ⟨y, hy, ⟨tk, z⟩⟩ := paired_get a5 (List.getElem?_eq_getElem (show i < es.toList.length by omega))
    rw [List.getElem?_eq_getElem hi, e] at hy
    cases hy
    exact ⟨_, List.getElem_mem _, by rw [z, his]; simp⟩
  · rintro ⟨e, he, hk⟩
    obtain ⟨i, hi, rfl⟩ := List.getElem_of_mem he
    obtain ⟨y, hy, ⟨tk, z⟩⟩ := paired_get a5 (List.getElem?_eq_getElem hi)
    rw [z, his, decide_eq_true_eq] at hk
    rw [← hk]
    exact List.mem_of_getElem? hy
end
section
variable {P : Program} {w : World} {A : Around} {E : Value → Shared → Prop} {s : Shared} {a r b : Addr} {xs ys : List Str}
theorem size_of {Q : Nat → Shared → Prop} (h : SetAt P w s.heap a xs) (q : Q xs.length s) : wpAny (model P w) A (Builtin.Frozenset.sizeOf a) Q E s := by
  obtain ⟨ob, es, ep, t, ys', a1, a2, a3, a4, a5, a6, a7, a8, a9, a10, a11⟩ := h
  have hlen : es.size = xs.length := by have := Paired.length a5; have := a6.length_eq; rw [← Array.length_toList]; omega
  refine wpAny_bind (wpAny_bind (wpAny_setState_of a1 a3 a9 (wpAny_pure (wpAny_pure ?_))))
  show Q es.size s
  rw [hlen]; exact q
theorem diff_ok {nm : String} {Q : Value → Shared → Prop} (ha : SetAt P w s.heap a xs) (hb : SetAt P w s.heap b ys) (hz : xs.length / 4 ≤ ys.length) (hx : xs.length < 900)
    (hQ : ∀ r h' d t' zs, s.heap.get? r = none → (∀ c o, s.heap.get? c = some o → h'.get? c = some o) → SetAt P w h' r zs → (∀ x, x ∈ zs ↔ x ∈ xs ∧ ¬ x ∈ ys) → Q (.ref r) { s with heap := h', drawn := d, toks := t' }) :
    wpAny (model P w) A (Builtin.Frozenset.difference nm a (.ref b)) Q E s := by
  unfold Builtin.Frozenset.difference
  refine wpAny_bind (isany hb ?_)
  simp only [Bool.not_true, Bool.false_eq_true, if_false, Bool.false_and, if_true]
  refine wpAny_bind (wpAny_pure (wpAny_bind (size_of hb (wpAny_bind (size_of ha ?_)))))
  rw [if_neg (by omega)]
  refine wpAny_bind (wpAny_bind (wpAny_isInstance (b := true) (set_type ha) (by rw [isSubtype_type]; kernel_rfl) (wpAny_pure ?_)))
  refine wpAny_bind (newSetS ?_)
  have kp : ∀ c o, s.heap.get? c = some o → (s.heap.push (setObj0 w)).get? c = some o := fun c o z => Heap.get?_push_of_some _ z
  have hr : SetAt P w (s.heap.push (setObj0 w)) s.heap.objs.size [] := setAt_new (Heap.get?_push_size _ rfl)
  have hn : s.heap.get? s.heap.objs.size = none := Heap.get?_none_of_le (Nat.le_refl _)
  have ha1 := ha.at fun o z => kp a o z
  have hb1 := hb.at fun o z => kp b o z
  have nar : a ≠ s.heap.objs.size := fun z => by obtain ⟨_, _, _, _, _, q, _⟩ := ha; rw [z, hn] at q; cases q
  have nbr : b ≠ s.heap.objs.size := fun z => by obtain ⟨_, _, _, _, _, q, _⟩ := hb; rw [z, hn] at q; cases q
  obtain ⟨ob, es, ep, t, ys', a1, a2, a3, a4, a5, a6, a7, a8, a9, a10, a11⟩ := id ha1
  refine wpAny_bind (wpAny_pure (wpAny_bind (wpAny_bind (wpAny_setState_of a1 a3 a9 (wpAny_pure ?_)))))
  refine wpAny_bind (wpAny_holding (wpAny_bind (walk_unseen ha1 hb1 hr nar nbr fun arr h' d he hs hr' => ?_)))
  generalize s.heap.objs.size = r at hr hn nar nbr hs hr' ⊢
  have hQ2 : ∀ h2 t' zs, (∀ c o, s.heap.get? c = some o → h2.get? c = some o) → SetAt P w h2 r zs → (∀ x, x ∈ zs ↔ x ∈ xs ∧ ¬ x ∈ ys) → Q (.ref r) { s with heap := h2, drawn := d, toks := t' } := fun h2 t' zs k1 k2 k3 => hQ r h2 d t' zs hn k1 k2 k3
  have nk : ∀ c o, s.heap.get? c = some o → c ≠ r := fun c o q z => by rw [z, hn] at q; cases q
  have k0 : ∀ c o, s.heap.get? c = some o → h'.get? c = some o := fun c o q => by rw [hs.2 c (nk c o q)]; exact kp c o q
  obtain ⟨el, us, ep1, pm⟩ := he
  have fin : ∀ h2 zs, (∀ c o, s.heap.get? c = some o → h2.get? c = some o) → SetAt P w h2 r zs → (∀ x, x ∈ zs ↔ x ∈ us ∧ ¬ x ∈ ys) → Q (.ref r) { s with heap := h2, drawn := d } := fun h2 zs k1 k2 k3 => hQ2 h2 s.toks zs k1 k2 fun x => by rw [k3, pm.mem_iff]
  have hul : us.length < 900 := by rw [pm.length_eq]; exact hx
  refine wpAny_bind ?_
  rw [← Array.forIn_toList]
  generalize arr.toList = l at el ep1 ⊢
  clear hQ hQ2 hr hs pm
  have gen : ∀ (l : List (Int × Value)) (us vs : List Str) (h2 : Heap) (zs : List Str), ElemsOf (PySem.strKind P w) l → Paired (fun (e : Int × Value) (x : Str) => ∃ tk, e.2 = .str x tk) l us → zs.length + us.length < 900 → (∀ c o, s.heap.get? c = some o → h2.get? c = some o) → SetAt P w h2 r zs → (∀ x, x ∈ zs ↔ x ∈ vs ∧ ¬ x ∈ ys) →
      (∀ h3 zs', (∀ c o, s.heap.get? c = some o → h3.get? c = some o) → SetAt P w h3 r zs' → (∀ x, x ∈ zs' ↔ x ∈ vs ++ us ∧ ¬ x ∈ ys) → Q (.ref r) { s with heap := h3, drawn := d }) →
      wpAny (model P w) A (forIn l PUnit.unit fun x __s => do
          holding [x.snd] do
              let __do_lift ← setFind b x.snd x.fst
              let there ← pure __do_lift.isSome
              if (!there) = true then do
                  let _ ← setAddHashed r x.snd x.fst
                  pure ()
                else pure ()
          Builtin.Frozenset.unchanged nm a ep
          pure (ForInStep.yield PUnit.unit)) (fun _ s' => wpAny (model P w) A (pure ()) (fun _ s' => wpAny (model P w) A (pure (Value.ref r)) Q E s') E s') E { s with heap := h2, drawn := d } := by
    intro l
    induction l with
    | nil =>
      intro us vs h2 zs _ hp _ k1 k2 k3 kq
      cases hp
      exact wpAny_pure (wpAny_pure (wpAny_pure (kq h2 zs k1 k2 (by rw [List.append_nil]; exact k3))))
    | cons e l ih =>
      intro us vs h2 zs he hp hlen k1 k2 k3 kq
      cases hp with
      | @cons _ y _ us' hr1 hrest =>
      obtain ⟨tk, hy⟩ := hr1
      obtain ⟨e1, e2⟩ := e
      have hy : e2 = .str y tk := hy
      subst hy
      have hh : e1 = (PySem.strKind P w).hash y := by
        obtain ⟨⟨k, hk, hh⟩, _⟩ := he _ List.mem_cons_self
        obtain ⟨_, z⟩ := Value.isStrOf_shape (show Value.isStrOf k (.str y tk) = true from hk)
        cases z
        exact hh
      subst hh
      have ha2 := ha.at fun o z => k1 a o z
      have hb2 := hb.at fun o z => k1 b o z
      have ob2 : h2.get? a = some ob := by
        obtain ⟨o', _, _, _, _, z, _⟩ := ha
        have z1 := kp a o' z
        rw [a1] at z1; cases z1
        exact k1 a _ z
      rw [List.forIn_cons]
      have lm : us'.length + 1 = (y :: us').length := rfl
      refine wpAny_bind (wpAny_bind (wpAny_holding (wpAny_bind (set_find (s := { s with heap := h2, drawn := d }) hb2 fun q hq => wpAny_bind (wpAny_pure ?_)))))
      dsimp only
      have unch : ∀ h3 : Heap, (∀ c o, s.heap.get? c = some o → h3.get? c = some o) → wpAny (model P w) A (do
          Builtin.Frozenset.unchanged nm a ep
          pure (ForInStep.yield PUnit.unit)) (fun x s' => x = ForInStep.yield PUnit.unit ∧ s' = { s with heap := h3, drawn := d }) E { s with heap := h3, drawn := d } := by
        intro h3 j1
        have oa : h3.get? a = some ob := by
          obtain ⟨o', _, _, _, _, z, _⟩ := ha
          have z1 := kp a o' z
          rw [a1] at z1; cases z1
          exact j1 a _ z
        unfold Builtin.Frozenset.unchanged setEpoch
        refine wpAny_bind (wpAny_bind (wpAny_bind (wpAny_setState_of (s := { s with heap := h3, drawn := d }) oa a3 a9 (wpAny_pure ?_))))
        rw [if_neg (by simp)]
        exact wpAny_pure (wpAny_pure ⟨rfl, rfl⟩)
      have go := fun (h3 : Heap) (zs' : List Str) (j1 : ∀ c o, s.heap.get? c = some o → h3.get? c = some o) (jl : zs'.length ≤ zs.length + 1) (j2 : SetAt P w h3 r zs') (j3 : ∀ x, x ∈ zs' ↔ x ∈ vs ++ [y] ∧ ¬ x ∈ ys) =>
        ih us' (vs ++ [y]) h3 zs' (fun e he' => he e (List.mem_cons_of_mem _ he')) hrest (by rw [List.length_cons] at hlen; omega) j1 j2 j3 fun h4 zs4 q1 q2 q3 => kq h4 zs4 q1 q2 fun x => by rw [q3, List.append_assoc]; rfl
      by_cases hin : y ∈ ys
      · rw [if_neg (by rw [hq, decide_eq_true hin]; decide)]
        refine wpAny_pure (wpAny_mono (unch h2 k1) (fun x s' ⟨hx', hs'⟩ => ?_) fun _ _ z => z)
        subst hx' hs'
        refine go h2 zs k1 (Nat.le_succ _) k2 fun x => ?_
        rw [k3, List.mem_append, List.mem_singleton]
        constructor
        · exact fun z => ⟨.inl z.1, z.2⟩
        · rintro ⟨z | z, n⟩
          · exact ⟨z, n⟩
          · rw [z] at n; exact absurd hin n
      · rw [if_pos (by rw [hq, decide_eq_false hin]; rfl)]
        have zb : zs.length + 1 < scanBound := Nat.lt_of_lt_of_le (show zs.length + 1 < 1000 by omega) (by decide)
        refine wpAny_bind (setAdd_str (s := { s with heap := h2, drawn := d }) k2 zb fun h3 sb sa _ => wpAny_pure ?_)
        have k4 : ∀ c o, s.heap.get? c = some o → h3.get? c = some o := fun c o z => by rw [sb.2 c (nk c o z)]; exact k1 c o z
        refine wpAny_mono (unch h3 k4) (fun x s' ⟨hx', hs'⟩ => ?_) fun _ _ z => z
        subst hx' hs'
        refine go h3 _ k4 ?_ sa fun x => ?_
        · split
          · exact Nat.le_succ _
          · rw [List.length_append]; exact Nat.le_refl _
        · rw [List.mem_append, List.mem_singleton]
          split
          · rename_i hm
            rw [k3]
            constructor
            · exact fun z => ⟨.inl z.1, z.2⟩
            · rintro ⟨z | z, n⟩
              · exact ⟨z, n⟩
              · rw [z]; exact (k3 y).mp hm
          · rw [List.mem_append, List.mem_singleton, k3]
            constructor
            · rintro (z | z)
              · exact ⟨.inl z.1, z.2⟩
              · exact ⟨.inr z, by rw [z]; exact hin⟩
            · rintro ⟨z | z, n⟩
              · exact .inl ⟨z, n⟩
              · exact .inr z
  exact gen l us [] h' [] el ep1 (by simpa using hul) k0 hr' (by simp) fun h3 zs q1 q2 q3 => fin h3 zs q1 q2 (by simpa using q3)
theorem call_subS {Q : Value → Shared → Prop} (ha : SetAt P w s.heap a xs) (hb : SetAt P w s.heap b ys) (hz : xs.length / 4 ≤ ys.length) (hx : xs.length < 900)
    (hQ : ∀ r h' d t' zs, s.heap.get? r = none → (∀ c o, s.heap.get? c = some o → h'.get? c = some o) → SetAt P w h' r zs → (∀ x, x ∈ zs ↔ x ∈ xs ∧ ¬ x ∈ ys) → Q (.ref r) { s with heap := h', drawn := d, toks := t' }) :
    wpAny (model P w) A (call (.builtin "set.__sub__") [.ref a, .ref b]) Q E s := by
  refine wpAny_call (codeAny_call_builtin F.slot_set_sub.plain entry_set_sub (F.slot_set_sub.check _ _ _ _ _ _ _ _ (set_type ha) (F.args_set_sub_2 _ _) ?_))
  refine wpAny_bind (wpAny_bind (wpAny_pure (wpAny_pure ?_)))
  dsimp only
  refine wpAny_bind (wpAny_bind (isany ha (show wpAny _ _ (Builtin.Frozenset.isAnySet (.ref b)) _ _ _ from isany hb ?_)))
  rw [if_neg (by decide)]
  refine wpAny_bind (wpAny_pure (wpAny_bind (diff_ok ha hb hz hx fun r h' d t' zs h1 h2 h3 h4 => wpAny_pure (hQ r h' d t' zs h1 h2 h3 h4))))
end
end L2
set_option Elab.async false
set_option linter.all false
set_option maxRecDepth 100000
set_option maxHeartbeats 4000000
namespace L2
open PySem PySem.Spec PyProof.Rows
noncomputable def ExcO (e : Addr) (C : Value) (dd T : Option Addr) : HO := .ext fun h => ∃ vs sl, h.get? e = some ⟨C, dd, .fields vs, sl⟩ ∧ vs.size = 6 ∧ vs[1]? = some (T.elim Value.none Value.ref)
noncomputable def TbO (t : Addr) (fl : Value) : HO := .ext fun h => ∃ c d ts sl, h.get? t = some ⟨c, d, .fields ts, sl⟩ ∧ ts[3]? = some fl
section
variable {P : Program} {w : World} {H : Hp} {h : Heap} {e t : Addr} {C fl : Value} {dd T : Option Addr}
theorem exc_get (hok : HOk P w H h) (q : H e = some (ExcO e C dd T)) : ∃ vs sl, h.get? e = some ⟨C, dd, .fields vs, sl⟩ ∧ vs.size = 6 ∧ vs[1]? = some (T.elim Value.none Value.ref) := (hok e _ q).1
theorem exc_mk (z : ∃ vs sl, h.get? e = some ⟨C, dd, .fields vs, sl⟩ ∧ vs.size = 6 ∧ vs[1]? = some (T.elim Value.none Value.ref)) : ObjOk P w H h e (ExcO e C dd T) :=
  ⟨z, let ⟨_, _, q, _⟩ := z; ⟨_, q⟩, fun _ _ ⟨vs, sl, a, b⟩ k => ⟨vs, sl, k _ a, b⟩⟩
theorem tb_get (hok : HOk P w H h) (q : H t = some (TbO t fl)) : ∃ c d ts sl, h.get? t = some ⟨c, d, .fields ts, sl⟩ ∧ ts[3]? = some fl := (hok t _ q).1
theorem tb_mk (z : ∃ c d ts sl, h.get? t = some ⟨c, d, .fields ts, sl⟩ ∧ ts[3]? = some fl) : ObjOk P w H h t (TbO t fl) :=
  ⟨z, let ⟨_, _, _, _, q, _⟩ := z; ⟨_, q⟩, fun _ _ ⟨c, d, ts, sl, a, b⟩ k => ⟨c, d, ts, sl, k _ a, b⟩⟩
end
noncomputable def FlyAt (fl : Value) (H : Hp) (e : Addr) (C : Value) (dd T : Option Addr) : Prop := H e = some (ExcO e C dd T) ∧ ∀ t, T = some t → t ≠ e ∧ H t = some (TbO t fl)
noncomputable abbrev FlyT := FlyAt .none
noncomputable def XStep (e : Addr) (T : Option Addr) (H : Hp) (T' : Option Addr) (H' : Hp) : Prop :=
  (∀ b o, H b = some o → b ≠ e → T ≠ some b → H' b = some o) ∧ ∀ t, T' = some t → t ≠ e ∧ (T = some t ∨ H t = none)
theorem XStep.refl {e : Addr} {T : Option Addr} {H : Hp} (h : ∀ t, T = some t → t ≠ e) : XStep e T H T H := ⟨fun _ _ q _ _ => q, fun t q => ⟨h t q, .inl q⟩⟩
theorem XStep.trans {e : Addr} {T T' T'' : Option Addr} {H H' H'' : Hp} (a : XStep e T H T' H') (b : XStep e T' H' T'' H'') : XStep e T H T'' H'' := by
  refine ⟨fun c o q n1 n2 => b.1 c o (a.1 c o q n1 n2) n1 fun z => ?_, fun t q => ⟨(b.2 t q).1, ?_⟩⟩
  · rcases (a.2 c z).2 with y | y
    · exact n2 y
    · rw [q] at y; cases y
  · rcases (b.2 t q).2 with z | z
    · exact (a.2 t z).2
    · by_cases hT : T = some t
      · exact .inl hT
      · cases e1 : H t with
        | none => exact .inr rfl
        | some o => rw [a.1 t o e1 (b.2 t q).1 hT] at z; cases z
section
variable {X : Cx} {pins : List (Addr × Obj)} {σ : St} {H : Hp} {s : Shared} {M : Model} {A : Around} {E : Value → Shared → Prop} {e L : Addr} {C : Value} {dd T : Option Addr}
theorem Inv.noted {s' : Shared} {t : Addr} {fl : Value} (I : Inv X pins σ H s) (F : FlyT H e C dd T) (hos : s'.os = s.os) (hg : s'.gens = s.gens)
    (hn : s.heap.objs.size ≤ t)
    (keep : ∀ b o, s.heap.get? b = some o → b ∉ frs X.stack → b ≠ e → T ≠ some b → s'.heap.get? b = some o)
    (slot : ∀ b o, s.heap.get? b = some o → b ∈ frs X.stack → ∃ sl, s'.heap.get? b = some { o with slots := sl })
    (old : ∀ b, T = some b → ∃ c d ts sl, s'.heap.get? b = some ⟨c, d, .fields ts, sl⟩ ∧ ts[3]? = some Value.none)
    (exc : ∃ vs sl, s'.heap.get? e = some ⟨C, dd, .fields vs, sl⟩ ∧ vs.size = 6 ∧ vs[1]? = some (Value.ref t))
    (tb : ∃ c d ts sl, s'.heap.get? t = some ⟨c, d, .fields ts, sl⟩ ∧ ts[3]? = some fl) :
    Inv X pins σ (upd (upd H t (TbO t fl)) e (ExcO e C dd (some t))) s' := by
  have hnt : H t = none := I.hok.fresh hn
  have het : e ≠ t := ne_of_none F.1 hnt
  have hfe : e ∉ frs X.stack := fun z => by have := I.stkFree e z; rw [F.1] at this; cases this
  have nx : ∀ b o, H b = some o → (∀ φ, o ≠ .ext φ) → b ≠ e ∧ b ≠ t ∧ T ≠ some b := fun b o q n => by
    refine ⟨fun z => ?_, ne_of_none q hnt, fun z => ?_⟩
    · subst z; rw [F.1] at q; cases q; exact n _ rfl
    · have := (F.2 b z).2; rw [q] at this; cases this; exact n _ rfl
  have up : ∀ b o, H b = some o → b ≠ e → upd (upd H t (TbO t fl)) e (ExcO e C dd (some t)) b = some o := fun b o q n => by
    rw [upd_ne n, upd_ne (ne_of_none q hnt)]; exact q
  have upn : ∀ b, H b = none → b ≠ t → upd (upd H t (TbO t fl)) e (ExcO e C dd (some t)) b = none := fun b q n => by
    rw [upd_ne (ne_of_none F.1 q).symm, upd_ne n]; exact q
  refine I.call' (ch := []) hos ⟨fun b o q n hb _ => ?_, fun b o q n hb _ => slot b o q hb, fun b o q n _ => upn b n (Nat.ne_of_lt (Nat.lt_of_lt_of_le (Heap.lt_size q) hn)), fun b o q _ => ?_, fun b xs q => up b _ q (nx b _ q fun φ z => nomatch z).1, fun b o u q => up b _ q (nx b _ q fun φ z => nomatch z).1,
    fun b ps q => ⟨#[], by rw [up b _ q (nx b _ q fun φ z => nomatch z).1]; simp⟩⟩ (fun b o q => ?_) (by rw [hg]; exact I.bare) (fun b z => nomatch z)
  · exact keep b o q hb (ne_of_none F.1 n).symm fun z => by have := (F.2 b z).2; rw [n] at this; cases this
  · by_cases hb : b ∈ frs X.stack
    · obtain ⟨sl, z⟩ := slot b o q hb; exact ⟨_, z⟩
    · by_cases he : b = e
      · subst he; obtain ⟨_, _, z, _⟩ := exc; exact ⟨_, z⟩
      · by_cases hT : T = some b
        · obtain ⟨_, _, _, _, z, _⟩ := old b hT; exact ⟨_, z⟩
        · exact ⟨o, keep b o q hb he hT⟩
  · by_cases he : b = e
    · subst he; rw [upd_same] at q; cases q; exact exc_mk exc
    · rw [upd_ne he] at q
      by_cases ht : b = t
      · subst ht; rw [upd_same] at q; cases q; exact tb_mk tb
      · rw [upd_ne ht] at q
        by_cases hT : T = some b
        · have q2 := (F.2 b hT).2
          rw [q] at q2; cases q2
          exact tb_mk (old b hT)
        · refine (I.hok b o q).stay (fun c u hc z => keep c u z ?_ ?_ ?_) (fun c z => up c _ z (nx c _ z fun φ y => nomatch y).1) fun c xs z => up c _ z (nx c _ z fun φ y => nomatch y).1
          · intro y
            have y2 := I.stkFree c y
            rcases hc with hc | hc
            · subst hc; rw [q] at y2; cases y2
            · rw [hc] at y2; cases y2
          · rcases hc with hc | hc
            · rw [hc]; exact he
            · exact (nx c _ hc fun φ y => nomatch y).1
          · rcases hc with hc | hc
            · rw [hc]; exact hT
            · exact (nx c _ hc fun φ y => nomatch y).2.2
theorem entry_ok {head : Value} {hadNext : Bool} {Q : Unit → Shared → Prop} (I : Inv X pins σ H s) (F : FlyT H e C dd T) (hA : A.frames = some X.stack) (hst : X.stack = X.env :: X.outer) (hf : X.env.frame = some L)
    (h : ∀ s' t, H t = none → Inv X pins σ (upd (upd H t (TbO t (rawInt L))) e (ExcO e C dd (some t))) s' → Q () s') :
    wpAny M A (do let a ← frameOf X.env; let pl ← entryPlaceOf L hadNext; let b ← EntryCells.newEntry head a .none (rawInt L) .none pl; setField (.ref e) 1 b) Q E s := by
  obtain ⟨vs, sl, he, hz, h1⟩ := exc_get I.hok F.1
  have hfe : e ∉ frs X.stack := fun z => by have := I.stkFree e z; rw [F.1] at this; cases this
  have FF := I.stack
  rw [hst] at FF hA
  refine wpAny_bind (wpAny_frameOf_fun hA FF hf fun h₁ hs₁ => ?_)
  refine wpAny_bind (wpAny_entryPlaceOf fun pl hpl => ?_)
  unfold EntryCells.newEntry newFields
  refine wpAny_bind (wpAny_newObj_type ?_ (hpl.sizeOk5 _ _ _ _ _))
  have hs2 : ∀ b, b ∉ frs X.stack → h₁.get? b = s.heap.get? b := fun b hb => hs₁.2.1 b (by rw [hst] at hb; exact hb)
  have he₁ : h₁.get? e = some ⟨C, dd, .fields vs, sl⟩ := (hs2 e hfe).trans he
  have he₂ := Heap.get?_push_of_some (h := h₁) { cls := .type "traceback", dict := none, data := .fields ([head, .ref L, .none, rawInt L, .none] ++ (if pl.isEmpty then List.replicate 6 Value.none else pl)).toArray } he₁
  refine wpAny_setField he₂ rfl (by rw [hz]; decide) ?_
  have hTe : h₁.objs.size ≠ e := Nat.ne_of_gt (Heap.lt_size he₁)
  have hsz : s.heap.objs.size ≤ h₁.objs.size := Nat.le_of_eq hs₁.1.symm
  refine h _ h₁.objs.size (I.hok.fresh hsz) (Inv.noted I F rfl rfl hsz (fun b o q hb hbe hT => ?_) (fun b o q hb => ?_) (fun b hT => ?_) ?_ ?_)
  · show (Heap.update _ e _).get? b = some o
    rw [Heap.get?_update_other _ _ (Ne.symm hbe)]
    exact Heap.get?_push_of_some _ ((hs2 b hb).trans q)
  · obtain ⟨sl', z⟩ := hs₁.2.2 b o q
    refine ⟨sl', ?_⟩
    show (Heap.update _ e _).get? b = _
    rw [Heap.get?_update_other _ _ (fun y => hfe (by rw [y]; exact hb))]
    exact Heap.get?_push_of_some _ z
  · obtain ⟨c, d, ts, sl', z, z3⟩ := tb_get I.hok (F.2 b hT).2
    have hb : b ∉ frs X.stack := fun y => by have := I.stkFree b y; rw [(F.2 b hT).2] at this; cases this
    refine ⟨c, d, ts, sl', ?_, z3⟩
    show (Heap.update _ e _).get? b = _
    rw [Heap.get?_update_other _ _ (Ne.symm (F.2 b hT).1)]
    exact Heap.get?_push_of_some _ ((hs2 b hb).trans z)
  · refine ⟨vs.setIfInBounds 1 (.ref h₁.objs.size), sl, ?_, by simp [hz], by simp [hz]⟩
    show (Heap.update _ e _).get? e = _
    rw [Heap.get?_update_self _ he₂ rfl]
    rfl
  · exact ⟨_, _, _, _, (Heap.get?_update_other _ _ (Ne.symm hTe)).trans (Heap.get?_push_size h₁ rfl), by simp⟩
theorem note_ok {Q : Unit → Shared → Prop} (I : Inv X pins σ H s) (F : FlyT H e C dd T) (hA : A.frames = some X.stack) (hst : X.stack = X.env :: X.outer) (hf : X.env.frame = some L)
    (h : ∀ s' H' t, Inv X pins σ H' s' → FlyAt (rawInt L) H' e C dd (some t) → XStep e T H (some t) H' → Q () s') : wpAny M A (noteFrame (.ref e) X.env) Q E s := by
  obtain ⟨vs, sl, he, hz, h1⟩ := exc_get I.hok F.1
  have fin : ∀ s' t, H t = none → Inv X pins σ (upd (upd H t (TbO t (rawInt L))) e (ExcO e C dd (some t))) s' → Q () s' := fun s' t hn J => by
    have het : e ≠ t := ne_of_none F.1 hn
    refine h s' _ t J ⟨upd_same, fun u q => ?_⟩ ⟨fun b o q n1 n2 => ?_, fun u q => ?_⟩
    · cases q; exact ⟨het.symm, by rw [upd_ne het.symm, upd_same]⟩
    · rw [upd_ne n1, upd_ne (ne_of_none q hn)]; exact q
    · cases q; exact ⟨het.symm, .inr hn⟩
  unfold noteFrame
  simp only [hf]
  refine wpAny_bind (wpAny_field he rfl h1 ?_)
  cases hT : T with
  | none =>
    subst hT
    rw [if_neg (by decide)]
    exact entry_ok I F hA hst hf fin
  | some t =>
    subst hT
    obtain ⟨hte, ht⟩ := F.2 t rfl
    obtain ⟨c, d, ts, sl', z, z3⟩ := tb_get I.hok ht
    rw [if_pos (show ((Option.some t).elim Value.none Value.ref != Value.none) = true from by simp)]
    refine wpAny_bind (wpAny_field z rfl z3 ?_)
    rw [if_neg (by simp [rawInt])]
    refine wpAny_bind (wpAny_setField z rfl (Array.getElem?_eq_some_iff.mp z3).1 ?_)
    refine entry_ok (T := some t) ?_ F hA hst hf fin
    have I2 := I.write (o := TbO t .none) (h' := s.heap.update t (Obj.mapFields (·.setIfInBounds 3 .none))) (x := t) (e := t) (t' := s.toks) (by rw [ht]; trivial) (.inl rfl) (fun b u n q => by rw [Heap.get?_update_other _ _ (Ne.symm n)]; exact q)
      ⟨_, Heap.get?_update_self _ z rfl⟩ (tb_mk ⟨c, d, ts.setIfInBounds 3 .none, sl', by rw [Heap.get?_update_self _ z rfl]; rfl, by simp [(Array.getElem?_eq_some_iff.mp z3).1]⟩)
    have : upd H t (TbO t .none) = H := by
      funext b
      by_cases hb : b = t
      · subst hb; rw [upd_same, ht]
      · rw [upd_ne hb]
    rw [this] at I2
    exact I2
theorem land_ok {Q : Unit → Shared → Prop} {fl : Value} (I : Inv X pins σ H s) (F : FlyAt fl H e C dd T)
    (h : ∀ s' H', Inv X pins σ H' s' → FlyT H' e C dd T → XStep e T H T H' → Q () s') : wpAny M A (setFlight (.ref e) none) Q E s := by
  obtain ⟨vs, sl, he, hz, h1⟩ := exc_get I.hok F.1
  unfold setFlight
  refine wpAny_bind (wpAny_field he rfl h1 ?_)
  cases hT : T with
  | none =>
    subst hT
    rw [if_neg (by decide)]
    exact wpAny_pure (h s H I ⟨F.1, fun t q => nomatch q⟩ (XStep.refl fun t q => nomatch q))
  | some t =>
    subst hT
    obtain ⟨hte, ht⟩ := F.2 t rfl
    obtain ⟨c, d, ts, sl', z, z3⟩ := tb_get I.hok ht
    rw [if_pos (show ((Option.some t).elim Value.none Value.ref != Value.none) = true from by simp)]
    refine wpAny_setField z rfl (Array.getElem?_eq_some_iff.mp z3).1 ?_
    have I2 := I.write (o := TbO t .none) (h' := s.heap.update t (Obj.mapFields (·.setIfInBounds 3 .none))) (x := t) (e := t) (t' := s.toks) (by rw [ht]; trivial) (.inl rfl) (fun b u n q => by rw [Heap.get?_update_other _ _ (Ne.symm n)]; exact q)
      ⟨_, Heap.get?_update_self _ z rfl⟩ (tb_mk ⟨c, d, ts.setIfInBounds 3 .none, sl', by rw [Heap.get?_update_self _ z rfl]; rfl, by simp [(Array.getElem?_eq_some_iff.mp z3).1]⟩)
    refine h _ _ I2 ⟨by rw [upd_ne (Ne.symm hte)]; exact F.1, fun u q => ?_⟩ ⟨fun b o q n1 n2 => ?_, fun u q => ?_⟩
    · cases q; exact ⟨hte, upd_same⟩
    · rw [upd_ne (fun y => n2 (by rw [y]))]; exact q
    · cases q; exact ⟨hte, .inl rfl⟩
end
noncomputable def CXe (P : Program) (w : World) : CXT := fun outer H s E e s' => ∃ ea C dd T H', e = .ref ea ∧ s'.os = s.os ∧ AllBare s'.gens ∧ Un (frs outer) [] H H' s.heap s'.heap ∧ HOk P w H' s'.heap ∧ FlyT H' ea C dd T ∧
  ∀ T'' H'', XStep ea T H' T'' H'' → FlyT H'' ea C dd T'' → E (.ref ea) dd H''
noncomputable def XOk (X : Cx) (E : XK) : Prop := ∀ (pins : List (Addr × Obj)) (σ : St) (H : Hp) (s : Shared) (ea : Addr) (C : Value) (dd T : Option Addr), Inv X pins σ H s → FlyT H ea C dd T →
  (∀ T'' H'', XStep ea T H T'' H'' → FlyT H'' ea C dd T'' → E (.ref ea) dd H'') → X.xe (.ref ea) s
theorem leave_ok {X : Cx} {pins : List (Addr × Obj)} {σ : St} {H : Hp} {s : Shared} {M : Model} {A : Around} {E : Value → Shared → Prop} {e L : Addr} {C : Value} {dd T : Option Addr} {Q : Unit → Shared → Prop}
    (I : Inv X pins σ H s) (F : FlyT H e C dd T) (hA : A.frames = some X.stack) (hst : X.stack = X.env :: X.outer) (hf : X.env.frame = some L)
    (h : ∀ s' H' T', Inv X pins σ H' s' → FlyT H' e C dd T' → XStep e T H T' H' → Q () s') : wpAny M A (leaving X.env (.ref e)) Q E s := by
  unfold leaving
  exact wpAny_bind (note_ok I F hA hst hf fun s1 H1 t I1 F1 S1 => land_ok I1 F1 fun s2 H2 I2 F2 S2 => h s2 H2 _ I2 F2 (S1.trans S2))
theorem xok_cxOf {P : Program} {w : World} {K : PySem.W.Frag} {mg : Str → Option Value} {base : Heap} {N : List Str} {qual : Str} {scope : Scope} {f : Addr} {cd : Value} {A : Around} {outer : List Env} {s : Shared} {H : Hp} {E : XK} :
    XOk (cxOf (CXe P w) P w K mg base N qual scope f cd A outer s H E) E := by
  intro pins σ H1 s1 ea C dd T I F h
  refine leave_ok (X := cxOf (CXe P w) P w K mg base N qual scope f cd A outer s H E) (L := s.heap.objs.size) I F I.ok.frames rfl rfl fun s2 H2 T' I2 F2 S2 => ?_
  exact ⟨ea, C, dd, T', H2, rfl, I2.os, I2.bare, I2.base, I2.hok, F2, fun T'' H'' S F => h T'' H'' (S2.trans S) F⟩
end L2
set_option Elab.async false
set_option linter.all false
set_option maxRecDepth 100000
set_option maxHeartbeats 4000000
namespace L2
open PySem PySem.Spec PyProof.Rows
noncomputable abbrev bmV : List Value := [.type "ValueError", .type "Exception", .type "BaseException", .type "object"]
noncomputable def IsXC (h : Heap) (C : Addr) (bm : List Value) (mN : Str → Option Value) : Prop := ∃ nm q N bs hdct sn sub ab col dd k0 k1 k2 k3 k5, h.get? C = some (excClassObj nm q C N bs bm hdct sn sub ab col dd k0 k1 k2 k3 k5 "ValueError.__new__") ∧ h.Ns N mN ∧ OwnTail h bmV bm
theorem IsXC.keeps {h h' : Heap} {C : Addr} {bm : List Value} {mN : Str → Option Value} (x : IsXC h C bm mN) (k : ∀ b o, h.get? b = some o → h'.get? b = some o) : IsXC h' C bm mN :=
  let ⟨nm, q, N, bs, hdct, sn, sub, ab, col, dd, k0, k1, k2, k3, k5, a, b, c⟩ := x
  ⟨nm, q, N, bs, hdct, sn, sub, ab, col, dd, k0, k1, k2, k3, k5, k _ _ a, b.keeps k, c.keeps k⟩
section
variable {P : Program} {w : World} {H : Hp} {h h' : Heap} {a : Addr} {o : HO}
theorem ObjOk.obj (x : ObjOk P w H h a o) : ∃ ob, h.get? a = some ob := by
  cases o with
  | lst xs => obtain ⟨_, _, _, _, e⟩ := x; exact ⟨_, e⟩
  | tup xs => obtain ⟨_, _, _, o, e, _⟩ := x; exact ⟨_, e⟩
  | dK kvs => obtain ⟨_, _, _, _, o, _, _, e, _⟩ := x; exact ⟨_, e⟩
  | dT kvs => obtain ⟨_, _, _, _, o, _, _, e, _⟩ := x; exact ⟨_, e⟩
  | set S n => obtain ⟨o, _, _, _, e, _⟩ := x; exact ⟨_, e⟩
  | ins C dx fs => obtain ⟨_, _, _, e, _⟩ := x; exact ⟨_, e⟩
  | own y => exact x
  | xd fs => obtain ⟨_, ⟨_, _, _, e, _⟩, _⟩ := x; exact ⟨_, e⟩
  | rng lo hi => obtain ⟨_, _, _, e⟩ := x; exact ⟨_, e⟩
  | frz ob u => obtain ⟨e, _⟩ := x; exact ⟨_, e⟩
  | tbl ps => exact ⟨_, x⟩
  | met f y => exact ⟨_, x⟩
  | ext φ => exact x.2.1
theorem HOk.newAt (x : HOk P w H h) (n : h.get? a = none) : H a = none := by
  cases q : H a with
  | none => rfl
  | some u =>
    obtain ⟨ob, z⟩ := (x a u q).obj
    rw [n] at z
    cases z
theorem Inv.laidN {X : Cx} {pins : List (Addr × Obj)} {σ : St} {s : Shared} {t' : Nat} (I : Inv X pins σ H s) (k : ∀ b u, s.heap.get? b = some u → h'.get? b = some u) (hn : s.heap.get? a = none) (new : ObjOk X.prog X.w (upd H a o) h' a o) :
    Inv X pins σ (upd H a o) { s with heap := h', toks := t' } := by
  have hH := I.hok.newAt hn
  have nb : ∀ b u, H b = some u → upd H a o b = some u := fun b u q => by rw [upd_ne (ne_of_none q hH)]; exact q
  refine I.un ⟨fun b u q _ _ _ => k b u q, fun b u q _ _ _ => ⟨u.slots, k b u q⟩, fun b u q n _ => ?_, fun b u q _ => ⟨u, k b u q⟩, fun b xs q => nb _ _ q, fun b u xs q => nb _ _ q, fun b ps q => ⟨#[], by rw [nb _ _ q]; simp⟩⟩ fun b u q => ?_
  · rw [upd_ne (fun z => by subst z; rw [hn] at q; cases q)]; exact n
  · by_cases hb : b = a
    · subst hb; rw [upd_same] at q; cases q; exact new
    · rw [upd_ne hb] at q
      exact (I.hok b u q).stay (fun c v _ z => k c v z) (fun c z => nb _ _ z) fun c xs z => nb _ _ z
end
theorem IsXC.base {h : Heap} {C : Addr} {bm : List Value} {mN : Str → Option Value} (x : IsXC h C bm mN) : bm.contains (.type "BaseException") = true :=
  let ⟨_, _, _, _, _, _, _, _, _, _, _, _, _, _, _, _, _, c⟩ := x
  c.hasType rfl
noncomputable def Xtd (H : Hp) (e : Addr) (C : Value) (dd : Option Addr) (H' : Hp) : Prop := H e = none ∧ Same H H' ∧ ∃ T, FlyT H' e C dd T
theorem none_of_same {G H : Hp} {e : Addr} (s : Same G H) (x : H e = none) : G e = none := by
  cases q : G e with
  | none => rfl
  | some o =>
    have := s _ _ q
    rw [x] at this
    cases this
theorem Xtd.mono {G H H' : Hp} {e : Addr} {C : Value} {dd : Option Addr} (s : Same G H) (x : Xtd H e C dd H') : Xtd G e C dd H' := ⟨none_of_same s x.1, fun b o q => x.2.1 b o (s b o q), x.2.2⟩
theorem Xtd.step {G H H' : Hp} {e : Addr} {C : Value} {dd T T' : Option Addr} (n : G e = none) (nt : ∀ t, T = some t → G t = none) (s : Same G H) (S : XStep e T H T' H') (F : FlyT H' e C dd T') : Xtd G e C dd H' :=
  ⟨n, fun b o q => S.1 b o (s b o q) (ne_of_none q n) (fun z => by rw [nt b z] at q; cases q), T', F⟩
end L2
set_option Elab.async false
set_option linter.all false
set_option maxRecDepth 100000
set_option maxHeartbeats 4000000
namespace L2
open PySem PySem.Spec PyProof.Rows
noncomputable abbrev Cx.hand (X : Cx) (ea : Addr) : Cx := { X with A := X.A.mark (some (.ref ea)), calm := false, xe := fun _ _ => False }
section
variable {X : Cx} {pins : List (Addr × Obj)} {σ : St} {H : Hp} {s : Shared} {ea : Addr}
theorem Inv.hand (I : Inv X pins σ H s) (ea : Addr) : Inv (X.hand ea) pins σ H s :=
  ⟨⟨I.ok.mod, I.ok.kind, I.ok.glob, I.ok.blt, I.ok.above, I.ok.inj, I.ok.has, I.ok.cab, (fun z => nomatch z), I.ok.frames, I.ok.stk, I.ok.exf, I.ok.bs, I.ok.bsz, I.ok.noex, I.ok.exfs, I.ok.funs, I.ok.frf⟩, I.os, I.bare, I.base, I.loc, I.cell, I.free, I.freeC, I.pin, I.hok, I.len⟩
theorem Inv.unhand (hd : X.calm = true → X.A.handled = none) (I : Inv (X.hand ea) pins σ H s) : Inv X pins σ H s :=
  ⟨⟨I.ok.mod, I.ok.kind, I.ok.glob, I.ok.blt, I.ok.above, I.ok.inj, I.ok.has, I.ok.cab, hd, I.ok.frames, I.ok.stk, I.ok.exf, I.ok.bs, I.ok.bsz, I.ok.noex, I.ok.exfs, I.ok.funs, I.ok.frf⟩, I.os, I.bare, I.base, I.loc, I.cell, I.free, I.freeC, I.pin, I.hok, I.len⟩
theorem unbind_ok {M : Model} {A : Around} {E : Value → Shared → Prop} {i : Nat} {x : Str} {v : V} {pos : Pos} {Q : Unit → Shared → Prop} (I : Inv X pins σ H s) (hN : X.N.Nodup) (hi : X.N[i]? = some x) (hx : X.env.scope.names.lookup x = some .local) (hv : σ[i]? = some (some v))
    (h : ∀ s', Inv X pins (σ.set i none) H s' → Q () s') : wpAny M A (unbindBehindTheSuite X.env x pos) Q E s := by
  obtain ⟨m, hn, hl⟩ := id I.loc
  obtain ⟨u, ru, lk⟩ := hl i x v hi hv (.inl hx)
  have hm : m x = some u := by
    rcases lk with ⟨_, z⟩ | ⟨z, _⟩
    · exact z
    · have z2 : X.env.kindOf x = some .local := hx
      rw [z2] at z; rcases z with z | z <;> cases z
  unfold unbindBehindTheSuite
  refine wpAny_onRaise (wpAny_mono (wpAny_unbindName_local (E := fun _ _ => False) hx hn hm (by rw [I.ok.kind]; rfl) fun h' u' hn' hs => ?_) (fun _ _ q => q) fun _ _ z => False.elim z)
  refine h _ ?_
  have same : ∀ b o, b ≠ X.env.locals → s.heap.get? b = some o → h'.get? b = some o := fun b o n q => (hs.2 b n).trans q
  have neL : ∀ b o, X.s₀.heap.get? b = some o → b ≠ X.env.locals := fun b o e => Nat.ne_of_lt (Nat.lt_of_lt_of_le (Heap.lt_size e) I.ok.above)
  have neH : ∀ b o, H b = some o → b ≠ X.env.locals := fun b o e z => by rw [z, I.free] at e; cases e
  refine ⟨I.ok, I.os, I.bare, ⟨fun b o e n hb hx => same b o (neL b o e) (I.base.keep b o e n hb hx), fun b o e n hb hx => ?_, I.base.free, fun b o e hx => ?_, I.base.tups, I.base.frzs, I.base.tbls⟩, ⟨_, hn', fun j y w e1 e2 e3 => ?_⟩, fun y c e => ?_, I.free, I.freeC, fun p hp => ?_, fun b o e => ?_, by rw [List.length_set]; exact I.len⟩
  · obtain ⟨sl, z⟩ := I.base.slot b o e n hb hx
    exact ⟨sl, same b _ (neL b o e) z⟩
  · obtain ⟨o', z⟩ := I.base.there b o e hx
    exact ⟨o', same b _ (neL b o e) z⟩
  · have hj : j ≠ i := fun z => by
      subst z
      rw [List.getElem?_set_self (by rw [I.len]; exact (List.getElem?_eq_some_iff.mp e1).1)] at e2
      cases e2
    rw [List.getElem?_set_ne (Ne.symm hj)] at e2
    obtain ⟨u2, r2, l2⟩ := hl j y w e1 e2 e3
    have hy : y ≠ x := fun z => hj (nodup_ix hN (by rw [← z]; exact e1) hi)
    refine ⟨u2, r2, ?_⟩
    rcases l2 with ⟨z1, z2⟩ | ⟨z1, c, z2, o, z3, z4⟩
    · exact .inl ⟨z1, (if_neg hy).trans z2⟩
    · exact .inr ⟨z1, c, z2, o, same c o (I.cne y c z2) z3, z4⟩
  · obtain ⟨w, o, z3, z4⟩ := I.cell y c e
    exact ⟨w, o, same c o (I.cne y c e) z3, z4⟩
  · obtain ⟨e1, n1, ne, nf, d1⟩ := I.pin p hp
    exact ⟨same _ _ ne e1, n1, ne, nf, d1⟩
  · refine (I.hok b o e).stay (fun c w hc z => same c w ?_ z) (fun _ z => z) fun _ _ z => z
    rcases hc with z1 | z1
    · rw [z1]; exact neH b o e
    · exact neH c _ z1
end
noncomputable def Fell (X : Cx) (pins : List (Addr × Obj)) (σ : St) (E : XK) (x : Value) (s' : Shared) : Prop := ∃ ea C dd T H', x = .ref ea ∧ Inv X pins σ H' s' ∧ FlyT H' ea C dd T ∧ ∀ T'' H'', XStep ea T H' T'' H'' → FlyT H'' ea C dd T'' → E (.ref ea) dd H''
noncomputable def PX (X : Cx) (e : Expr) (t : XK → TE) : Prop := ∀ (pins : List (Addr × Obj)) (s : Shared) (σ : St) (H : Hp) (Q : VK) (E : XK), Inv X pins σ H s → t E σ H Q → wpAny (model X.prog X.w) X.A (eval e X.env) (EP X pins σ Q) (Fell X pins σ E) s
section
variable {X : Cx} {k : Nat} {f : Addr} {fd : FuncData} {ps : List Str} {sp : Sp} {dvs : List V} {ds : List Value} {x : Str} {p pos : Pos} {e : Expr} {es : List Expr} {t : TA}
theorem px_call (F : FnOk X.prog X.w X.K X.mg X.base (CXe X.prog X.w) k f fd ps sp) (hr : Room k X.A) (hg : Gl X x) (hm : X.mg x = some (.ref f)) (hk : PySem.W.keepIn X.K (.ref f) = true) (hb : Binds X.K fd ps ds) (hd : Vals dvs ds)
    (ha : PA X.nox (e :: es) t) (hdb : (x == ("__debug__" : Str)) = false := by decide) (he : starEach (e :: es) X.env = (false, eval e X.env) :: starEach es X.env := by rfl) (hpl : (backTo pos (starEach es X.env)).any (·.1) = false := by rfl) :
    PX X (.Call (.Name x p) (e :: es) [] pos) (fun E => tCall sp dvs E t) := by
  intro pins s σ H Q E I h
  refine wpAny_Call_Name_kw (ld_glob I hg hm ?_ hdb)
  refine PySem.W.callWith_K (h₀ := X.base) I.ok.mod.kin hk (wpAny_mono (ha pos pins s σ H _ (I.wish _) h) (fun us s1 ⟨vs, H1, I1', r, q⟩ => ⟨I1'.unwish.kIn, ?_⟩) fun _ _ z => False.elim z) he hpl
  have I1 := I1'.unwish
  have r2 : Vals (vs ++ dvs) (us ++ ds) := r.append hd
  have hl : (us ++ ds).length = ps.length := by rw [← r2.length]; exact F.len _ _ _ _ q
  refine wpAny_call (codeAny_mono (F.run X.A X.stack s1 H1 ⟨us, []⟩ (us ++ ds) (vs ++ dvs) Q E hr I1.env0 (hb s1 us I1.kIn hl) r2 q) fun r s' hq => ?_)
  cases r with
  | error e =>
    obtain ⟨ea, C, dd, T, H', rfl, ho, hg, hu, hk, F, q⟩ := hq
    exact ⟨ea, C, dd, T, H', rfl, I1.call' (ch := []) ho hu hk hg (fun b z => nomatch z), F, q⟩
  | ok fl =>
    cases fl with
    | ret u => exact I1.after hq
    | next => exact False.elim hq
    | brk => exact False.elim hq
    | cont => exact False.elim hq
end
noncomputable def tHandAs (C : Addr) (i : Nat) (ts : TS) (D : Ends) (σ : St) : XK := fun e dd H' => ∃ ea T, e = .ref ea ∧ FlyT H' ea (.ref C) dd T ∧
  ts { nx := fun σ' H'' => D.nx (σ'.set i none) H'', rt := D.rt, bk := fun σ' H'' => D.bk (σ'.set i none) H'', ct := fun σ' H'' => D.ct (σ'.set i none) H'' } (σ.set i (some (.ref ea))) H'
theorem fly_cls {P : Program} {w : World} {H : Hp} {h : Heap} {e : Addr} {C C' : Value} {dd dd' T T' : Option Addr} (hok : HOk P w H h) (a : FlyT H e C dd T) (b : FlyT H e C' dd' T') : C = C' := by
  obtain ⟨_, _, z, _⟩ := exc_get hok a.1
  obtain ⟨_, _, y, _⟩ := exc_get hok b.1
  rw [z] at y
  injection y with y
  injection y
section
variable {X : Cx} {pins : List (Addr × Obj)} {σ : St} {H : Hp} {s : Shared} {ea L C : Addr} {dd T : Option Addr} {D : Ends} {c n : Str} {cp hpos : Pos} {b₀ : Stmt} {suite : List Stmt} {i : Nat} {ts : TS} {bm : List Value} {mN : Str → Option Value} {x : Value}
theorem caught_as (hc : X.calm = true) (hst : X.stack = X.env :: X.outer) (hf : X.env.frame = some L) (hg : Gl X c) (hm : X.mg c = some (.ref C)) (hC : IsXC X.base C bm mN) (hN : X.N.Nodup) (hi : X.N[i]? = some n) (hx : X.env.scope.names.lookup n = some .local)
    (hs : ∀ ea, PSs (X.hand ea) (b₀ :: suite) ts) (Fl : Fell X pins σ (tHandAs C i ts D σ) x s) (hdb : (c == ("__debug__" : Str)) = false := by decide) :
    wpAny (model X.prog X.w) X.A (noteFrame x X.env) (fun _ s₂ => wpAny (model X.prog X.w) X.A (setFlight x none) (fun _ s₃ => wpAny (model X.prog X.w) X.A (handleBy x X.env [.ExceptHandler (some (.Name c cp)) (some n) (b₀ :: suite) hpos]) (SP X pins D) X.xe s₃) X.xe s₂) X.xe s := by
  obtain ⟨ea, C', dd, T, H', rfl, I, Fy, q⟩ := Fl
  have hd := I.ok.hd
  refine note_ok I Fy I.ok.frames hst hf fun s1 H1 t1 I1 F1 S1 => land_ok I1 F1 fun s2 H2 I2 F2 S2 => ?_
  refine wpAny_handleBy_cons (codeAny_handlers_test (ld_glob (X := X.hand ea) (I2.hand ea) hg hm ?_ hdb)) (fun z => nomatch z)
  obtain ⟨ea', T', e1, F3, q3⟩ := q _ H2 (S1.trans S2) F2
  cases e1
  obtain rfl : C' = Value.ref C := fly_cls I2.hok F2 F3
  obtain ⟨nm, qn, N, bs, hdct, sn, sub, ab, col, dd', k0, k1, k2, k3, k5, c1, c2, c3⟩ := (hC.keeps I2.bk)
  obtain ⟨vs, sl, he, _⟩ := exc_get I2.hok F2.1
  obtain ⟨hh, g, d, tk, os⟩ := s2
  refine wpAny_excMatches_sub_self c1 he rfl hC.base (codeAny_handlers_suite_as ?_)
  refine land_ok (I2.hand ea) F2 fun s3 H3 I3 F3' S3 => ?_
  obtain ⟨ea', T', e1, F3, q3⟩ := q _ H3 ((S1.trans S2).trans S3) F3'
  cases e1
  refine store_ok (X := X.hand ea) I3 hN hi (.inl hx) (v := .ref ea) rfl (fun s4 I4 => ?_) (.inr hx)
  refine wpAny_mono (hs ea pins s4 _ H3 _ I4 q3) (fun f s5 h5 => ?_) fun _ _ z => False.elim z
  have fin : ∀ {σ' : St} {H5 : Hp} {Q : Flow → Shared → Prop}, Inv (X.hand ea) pins σ' H5 s5 → (∀ s6, Inv X pins (σ'.set i none) H5 s6 → Q f s6) → wpAny (model X.prog X.w) X.A (do bindName X.env n .none; unbindBehindTheSuite X.env n hpos) (fun _ s6 => Q f s6) X.xe s5 := by
    intro σ' H5 Q J k
    refine wpAny_bind (wpAny_bindName (store_ok (J.unhand hd) hN hi (.inl hx) (v := .non) rfl (fun s6 J6 => ?_) (.inr hx)))
    have hlen : i < σ'.length := by rw [J.len]; exact (List.getElem?_eq_some_iff.mp hi).1
    refine unbind_ok J6 hN hi hx (by rw [List.getElem?_set_self hlen]) fun s7 J7 => k s7 ?_
    rw [List.set_set] at J7
    exact J7
  cases f with
  | next => obtain ⟨σ', H5, J, q5⟩ := h5; exact fin (Q := SP X pins D) J fun s6 J6 => ⟨_, _, J6, q5⟩
  | brk => obtain ⟨σ', H5, J, q5⟩ := h5; exact fin (Q := SP X pins D) J fun s6 J6 => ⟨_, _, J6, q5⟩
  | cont => obtain ⟨σ', H5, J, q5⟩ := h5; exact fin (Q := SP X pins D) J fun s6 J6 => ⟨_, _, J6, q5⟩
  | ret u => obtain ⟨v, σ', H5, J, r, q5⟩ := h5; exact fin (Q := SP X pins D) J fun s6 J6 => ⟨v, _, _, J6, r, q5⟩
end
end L2
namespace L2
open PySem PySem.Spec PyProof.Rows
noncomputable def tTrySA (te : XK → TE) (j : Nat) (C : Addr) (i : Nat) (ts : TS) : TS := fun D σ H => te (tHandAs C i ts D σ) σ H fun v H1 => D.nx (σ.set j (some v)) H1
noncomputable def XC (K : PySem.W.Frag) (C : Addr) : Prop := ∀ h, K.In h → ∃ bm mN, IsXC h C bm mN
section
variable {X : Cx} {C : Addr} {c n x : Str} {cp hpos pos apos xp : Pos} {b₀ : Stmt} {suite : List Stmt} {i j : Nat} {ts : TS} {e : Expr} {te : XK → TE} {L : Addr}
theorem ps_trySA (hc : X.calm = true) (hst : X.stack = X.env :: X.outer) (hf : X.env.frame = some X.env.locals) (hg : Gl X c) (hm : X.mg c = some (.ref C)) (hC : XC X.K C) (hN : X.N.Nodup) (hj : X.N[j]? = some x) (hl : Loc X.env.scope x) (hi : X.N[i]? = some n) (hx : X.env.scope.names.lookup n = some .local)
    (he : PX X e te) (hs : ∀ ea, PSs (X.hand ea) (b₀ :: suite) ts) (hw : swapsWith e (some (.Name x xp)) apos.line X.env = pure false := by rfl) (hfn : X.fn x = true ∨ X.env.scope.names.lookup x = some .local := by first | exact .inl rfl | exact .inr rfl | assumption) (hdb : (c == ("__debug__" : Str)) = false := by decide) :
    PS X (.Try [.Assign [.Name x xp] e apos] [.ExceptHandler (some (.Name c cp)) (some n) (b₀ :: suite) hpos] [] [] pos) (tTrySA te j C i ts) := by
  intro pins s σ H D I h
  obtain ⟨bm, mN, hI⟩ := hC X.base I.ok.mod.kin
  refine wpAny_Try_except (wpAny_execs_cons (wpAny_Assign_Name (wpAny_mono (he pins s σ H _ _ I h) (fun v s1 ⟨y, H1, I1, r1, q1⟩ => ?_) fun y s1 Fl => caught_as hc hst hf hg hm hI hN hi hx hs Fl hdb) hw))
  exact store_ok I1 hN hj hl r1 (fun s2 I2 => wpAny_execs_nil (wpAny_execs_nil ⟨_, H1, I2, q1⟩)) hfn
end
end L2
set_option Elab.async false
set_option linter.all false
set_option maxRecDepth 100000
set_option maxHeartbeats 4000000
namespace L2
open PySem PySem.Spec PyProof.Rows PySem.W
section
variable {prog : Program} {w : World} {A : Around} {E : Value → Shared → Prop} {s : Shared} {K : PySem.W.Frag} {x C : Addr} {ox : Obj} {od : Option Obj} {nm : Str} {tk : Tok}
structure XGet (K : PySem.W.Frag) (C : Addr) : Prop where
  ga : findIn K (.ref C) "__getattribute__" = some (some (.builtin "BaseException.__getattribute__"))
  gt : findIn K (.ref C) "__getattr__" = some none
  mb : mroIn K C (.type "BaseException") = some true
theorem xget_call {R : Result → Shared → Prop} (X : K.In s.heap) (I : PySem.W.InstAt s.heap x ox C od) (G : XGet K C)
    (h : wpAny (model prog w) A.in1 (Builtin.«object.__getattribute__» ⟨[.ref x, .str nm tk], []⟩) (fun fin s' => match fin with | .done (.ret v) => R (.ok (.ret v)) s' | _ => False) (fun _ _ => False) s) :
    codeAny (model prog w) A (.call (.builtin "BaseException.__getattribute__") ⟨[.ref x, .str nm tk], []⟩) R s := by
  refine codeAny_call_builtin PySem.F.attrBase_ValueError.ga.plain PySem.F.entry_bexc_ga ?_
  have hk : builtinKind "BaseException.__getattribute__" = some .slot := by decide +kernel
  have hsp : splitId "BaseException.__getattribute__" = some ("BaseException", "__getattribute__") := by decide +kernel
  have ha := PySem.F.args_bexc_ga (.ref x) (.str nm tk)
  obtain ⟨hh, g, d, t, os⟩ := s
  have L0 := I.type (M := model prog w)
  have L1 := looks_mroIn (M := model prog w) X G.mb
  have LI : Looks (model prog w) hh (isInstance (.ref x) (.type "BaseException")) true := L0.andThen L1
  simp only [checkBuiltinCall, hk, hsp]
  refine wpAny_bind (LI.at ?_)
  simp only [Bool.not_true, Bool.false_eq_true, if_false]
  refine wpAny_mono (Q := fun _ s' => s' = ⟨hh, g, d, t, os⟩) (E := fun _ _ => False) ?_ (fun _ s' z => ?_) fun _ _ z => False.elim z
  · have := ha
    repeat (any_goals (first | assumption | rfl | wp_step))
  · subst z
    refine wpAny_mono h (fun fin s' z => ?_) fun _ _ z => False.elim z
    rcases fin with (_ | _ | _ | _) | _ <;> first | exact z | exact False.elim z
theorem xget_by {fill expr : Bool} {Q : Value → Shared → Prop} (X : K.In s.heap) (I : PySem.W.InstAt s.heap x ox C od) (G : XGet K C)
    (h : wpAny (model prog w) A.in1 (Builtin.«object.__getattribute__» ⟨[.ref x, .str nm tk], []⟩) (fun fin s' => match fin with | .done (.ret v) => wpAny (model prog w) A (handedOut v) Q E s' | _ => False) (fun _ _ => False) s) :
    wpAny (model prog w) A (getAttrBy (.ref x) (.str nm tk) fill expr) Q E s := by
  obtain ⟨hh, g, d, t, os⟩ := s
  have L0 := I.type (M := model prog w)
  have L1 := looks_findIn (M := model prog w) X G.ga
  have L2 := looks_findIn (M := model prog w) X G.gt
  unfold getAttrBy
  refine wpAny_holding (wpAny_bind (L0.at (wpAny_bind (L1.at ?_))))
  dsimp only
  rw [if_neg (by rw [show (Value.builtin "BaseException.__getattribute__" == Value.builtin "object.__getattribute__") = false from by decide]; simp)]
  unfold getAttrByItsOwn hookBefore
  rw [if_pos (show onTheHeap (.ref C) = true from rfl)]
  refine wpAny_bind (L2.at (wpAny_bind (wpAny_attempt (wpAny_holding ?_))))
  unfold callGetattribute boundAndCalled
  rw [if_neg (by cases expr <;> decide)]
  refine wpAny_bind (wpAny_of_eq (PySem.F.attrBase_ValueError.ga.bind (.ref x)) ?_)
  refine wpAny_call (xget_call X I G (wpAny_mono h (fun fin s' z => ?_) fun _ _ z => z))
  rcases fin with (_ | _ | _ | _) | _ <;> first | exact z | exact False.elim z
theorem xget_class {Q : Option Value → Shared → Prop} (X : K.In s.heap) (I : PySem.W.InstAt s.heap x ox C od) (G : XGet K C) (hf : findObj K C od "__class__" = some (.bind (.builtin "getset_descriptor.__get__") (.builtin "object.__class__"))) (hm : mroIn K C (.type "object") = some true)
    (h : Q (some (.ref C)) { s with toks := s.toks + 1 }) : wpAny (model prog w) A (getAttr? (.ref x) "__class__") Q E s := by
  obtain ⟨hh, g, d, t, os⟩ := s
  unfold getAttr? getAttrBy?
  refine wpAny_bind (wpAny_mkText (wpAny_bind (wpAny_attempt (xget_by (s := ⟨hh, g, d, t + 1, os⟩) X I G ?_))))
  have L0 := I.type (M := model prog w)
  have L1 := looks_find (M := model prog w) X I hf
  unfold Builtin.«object.__getattribute__»
  refine wpAny_bind (wpAny_pure (wpAny_bind (wpAny_pure (wpAny_bind (L0.at (wpAny_bind (L1.at ?_)))))))
  dsimp only
  unfold Builtin.ObjectAttr.bindTo
  refine wpAny_bind (wpAny_holding (wpAny_call (class_get (s := ⟨hh, g, d, t + 1, os⟩) (ox := ox) (od := od) X I hm ?_)))
  exact wpAny_pure (handed_on rfl (wpAny_pure h))
theorem xget_own {expr : Bool} {v : Value} {Q : Value → Shared → Prop} (X : K.In s.heap) (I : PySem.W.InstAt s.heap x ox C od) (G : XGet K C) (hf : findObj K C od nm = some (.value v)) (hv : handedIn v = true)
    (h : Q v { s with toks := s.toks + 1 }) : wpAny (model prog w) A (getAttr (.ref x) nm expr) Q E s := by
  obtain ⟨hh, g, d, t, os⟩ := s
  unfold getAttr
  refine wpAny_bind (wpAny_mkText (xget_by (s := ⟨hh, g, d, t + 1, os⟩) X I G ?_))
  have L0 := I.type (M := model prog w)
  have L1 := looks_find (M := model prog w) X I hf
  unfold Builtin.«object.__getattribute__»
  refine wpAny_bind (wpAny_pure (wpAny_bind (wpAny_pure (wpAny_bind (L0.at (wpAny_bind (L1.at ?_)))))))
  exact wpAny_pure (handed_on hv h)
end
end L2
set_option Elab.async false
set_option linter.all false
set_option maxRecDepth 100000
set_option maxHeartbeats 4000000
namespace L2
open PySem PySem.Spec PyProof.Rows PySem.W
section
variable {P : Program} {w : World} {K : PySem.W.Frag} {mg : Str → Option Value} {base : Heap}
theorem Fun.okX {x qual : Str} {st : Stmt} {f : Addr} {fd : FuncData} {N ps : List Str} {k : Nat} {sp : Sp} (F : Fun K x qual st f fd) (S : FnScope N ps (defScope st)) (len : ∀ vs H Q E, sp vs H Q E → vs.length = ps.length)
    (hbody : ∀ (cdv : Value) (A : Around) (outer : List Env) (s : Shared) (H : Hp) (vs : List V) (Q : VK) (E : XK), Room k (A.deeper (envOfC qual (defScope st) s.heap.objs.size f cdv)) → sp vs H Q E →
      ∃ t, PSs (cxOf (CXe P w) P w K mg base N qual (defScope st) f cdv A outer s H E) (defBody st) t ∧ t { nx := fun _ H' => Q .non H', rt := Q } (start N vs) H) : FnOk P w K mg base (CXe P w) (k + 1) f fd ps sp := by
  obtain ⟨oc, od, kV, doc, pm, an, cdv, ct, osl, rfl, lk, hcd⟩ := F.ex
  exact fn_of lk hcd S len fun A outer s H vs Q E hr hsp => hbody cdv A outer s H vs Q E hr hsp
end
structure XIsi (K : PySem.W.Frag) (C : Addr) : Prop extends XGet K C where
  cls : (clsIn K C).isSome = true
  ca : findIn K (.ref C) "__class__" = some (some (.builtin "object.__class__"))
  mo : mroIn K C (.type "object") = some true
theorem ty_class : pureOf (fastBuiltinType "object.__class__") = some (.type "getset_descriptor") := by kernel_rfl
theorem sp_class (K : PySem.W.Frag) : specialIn K (.builtin "object.__class__") "__get__" = some (some (.builtin "getset_descriptor.__get__")) := by
  show (pureOf (fastBuiltinType "object.__class__")).bind _ = _
  rw [ty_class]
  show fastLookup "getset_descriptor" "__get__" = _
  kernel_rfl
theorem tk_class (K : PySem.W.Frag) : takesIn K (.builtin "object.__class__") = some true := by
  have e : specialIn K (.builtin "object.__class__") "__set__" = some (some (.builtin "getset_descriptor.__set__")) := by
    show (pureOf (fastBuiltinType "object.__class__")).bind _ = _
    rw [ty_class]
    show fastLookup "getset_descriptor" "__set__" = _
    kernel_rfl
  unfold takesIn
  rw [e]
noncomputable def XObj (x C : Addr) (h : Heap) : Prop := ∃ ox od, PySem.W.InstAt h x ox C od
theorem kitx_exc {K : PySem.W.Frag} {x C : Addr} (Z : XIsi K C) : KitX K (.ref x) (.ref C) (XObj x C) := by
  obtain ⟨cd, hcd⟩ := Option.isSome_iff_exists.mp Z.cls
  have hl : ∃ c d sl, K.lookup C = some ⟨c, d, .cls cd, sl⟩ := by
    unfold clsIn at hcd
    split at hcd
    · rename_i q; cases hcd; exact ⟨_, _, _, q⟩
    · cases hcd
  obtain ⟨c, d, sl, hl⟩ := hl
  refine ⟨fun M h _ ⟨_, _, I⟩ => I.type, fun M h X _ A Q E s k q => ?_, fun h tp dd its n sl' X htp => ?_, fun {prog w A E Q s} X ⟨ox, od, I⟩ k => xget_class X I Z.toXGet ?_ Z.mo k⟩
  · unfold isType loadHead
    exact wpAny_bind (wpAny_loadPart (k _ _ (X _ _ hl)) (wpAny_pure q))
  · refine Bool.eq_false_iff.mpr fun q => ?_
    have e : C = tp := Value.ref.inj (beq_iff_eq.mp q)
    subst e
    have z := (X _ _ hl).symm.trans htp
    cases z
  · unfold findObj
    rw [hcd, Option.bind_some, Z.ca, Option.bind_some]
    simp [sp_class K, tk_class K]
noncomputable def XDict (H : Hp) (dd : Option Addr) : Prop := ∀ d, dd = some d → ∃ fs, H d = some (.xd fs)
theorem xobj_of {P : Program} {w : World} {H : Hp} {h : Heap} {e C : Addr} {dd T : Option Addr} (hok : HOk P w H h) (F : H e = some (ExcO e (.ref C) dd T)) (D : XDict H dd) : XObj e C h := by
  obtain ⟨vs, sl, z, _⟩ := exc_get hok F
  cases dd with
  | none => exact ⟨_, none, z, rfl, rfl, trivial⟩
  | some d =>
    obtain ⟨fs, q⟩ := D d rfl
    obtain ⟨o, y⟩ := (hok d _ q).obj
    exact ⟨_, some o, z, rfl, rfl, y⟩
noncomputable def rIsiC (K : PySem.W.Frag) : List V → Hp → VK → Prop := fun xs H Q => ∃ e C dd T C' b, xs = [.ref e, .ref C'] ∧ H e = some (ExcO e (.ref C) dd T) ∧ XDict H dd ∧ XIsi K C ∧ kitOne K (.ref C) (.ref C') = some b ∧ Q (.bl b) H
noncomputable def rIsiB (K : PySem.W.Frag) : List V → Hp → VK → Prop := fun xs H Q => ∃ e C dd T n b, xs = [.ref e, .ty n] ∧ H e = some (ExcO e (.ref C) dd T) ∧ XDict H dd ∧ XIsi K C ∧ kitOne K (.ref C) (.type n) = some b ∧ Q (.bl b) H
noncomputable def rIsiT (K : PySem.W.Frag) : List V → Hp → VK → Prop := fun xs H Q => ∃ e C dd T t, ∃ (cs : List Addr) (b : Bool), xs = [.ref e, .ref t] ∧ H e = some (ExcO e (.ref C) dd T) ∧ XDict H dd ∧ XIsi K C ∧ H t = some (.tup (cs.map V.ref)) ∧ kitAny K (.ref C) (cs.map Value.ref) = some b ∧ Q (.bl b) H
theorem vals_ref : ∀ {cs : List Addr} {us : List Value}, Vals (cs.map V.ref) us → us = cs.map Value.ref
  | [], _, .nil => rfl
  | _ :: _, _, .cons r t => by rw [vals_ref t]; cases (show _ = Value.ref _ from r); rfl
section
variable {X : Cx}
theorem call_isiC : CallR X (.builtin "isinstance") (rIsiC X.K) := by
  intro pins s σ H xs us Q I r h
  obtain ⟨e, C, dd, T, C', b, rfl, he, hD, Z, hk, q⟩ := h
  obtain ⟨u, c, rfl, rx, rc⟩ := vals2 r
  cases (show u = Value.ref e from rx)
  cases (show c = Value.ref C' from rc)
  exact PySem.W.kia_one (kitx_exc Z) I.kIn (xobj_of I.hok he hD) hk (fun z => nomatch z) fun tk => ⟨.bl b, H, I.tok tk, rfl, q⟩
theorem call_isiB : CallR X (.builtin "isinstance") (rIsiB X.K) := by
  intro pins s σ H xs us Q I r h
  obtain ⟨e, C, dd, T, C', b, rfl, he, hD, Z, hk, q⟩ := h
  obtain ⟨u, c, rfl, rx, rc⟩ := vals2 r
  cases (show u = Value.ref e from rx)
  cases (show c = Value.type C' from rc)
  exact PySem.W.kia_one (kitx_exc Z) I.kIn (xobj_of I.hok he hD) hk (fun z => nomatch z) fun tk => ⟨.bl b, H, I.tok tk, rfl, q⟩
theorem call_isiT : CallR X (.builtin "isinstance") (rIsiT X.K) := by
  intro pins s σ H xs us Q I r h
  obtain ⟨e, C, dd, T, t, cs, b, rfl, he, hD, Z, ht, hk, q⟩ := h
  obtain ⟨u, c, rfl, rx, rc⟩ := vals2 r
  cases (show u = Value.ref e from rx)
  cases (show c = Value.ref t from rc)
  obtain ⟨_, its, rv, o, h1, h2, n, h3⟩ := (show ObjOk X.prog X.w H s.heap t (.tup (cs.map V.ref)) from I.hok t _ ht)
  obtain ⟨oc, od, odt, osl⟩ := o
  dsimp only at h2 h3
  subst h2 h3
  rw [vals_ref rv] at h1
  exact PySem.W.kia_tup (kitx_exc Z) I.kIn (xobj_of I.hok he hD) h1 hk (fun z => nomatch z) fun tk => ⟨.bl b, H, I.tok tk, rfl, q⟩
end
end L2
set_option Elab.async false
set_option linter.all false
set_option maxRecDepth 100000
set_option maxHeartbeats 2000000
namespace Ken
open PySem L2
end Ken
set_option Elab.async false
set_option linter.all false
set_option maxRecDepth 100000
set_option maxHeartbeats 2000000
namespace Ken
open PySem L2
end Ken
set_option Elab.async false
set_option linter.all false
set_option maxRecDepth 100000
set_option maxHeartbeats 2000000
namespace Ken
open PySem L2
end Ken
namespace L2
open PySem PySem.Spec PyProof.Rows
end L2
set_option Elab.async false
set_option linter.all false
set_option maxRecDepth 100000
set_option maxHeartbeats 4000000
namespace PySem.SeqAt
open PySem PySem.MeetsSeq L2 PyProof.Rows
end PySem.SeqAt
namespace L2
open PySem PySem.Spec PyProof.Rows
end L2
set_option Elab.async false
set_option linter.all false
set_option maxRecDepth 100000
set_option maxHeartbeats 2000000
namespace Ken
open PySem L2
end Ken
set_option Elab.async false
set_option linter.all false
set_option maxRecDepth 100000
set_option maxHeartbeats 4000000
namespace PySem.SeqAt
open PySem PySem.MeetsSeq L2 PyProof.Rows
end PySem.SeqAt
namespace Ken
open PySem L2 PySem.SeqAt
end Ken
namespace L2
open PySem PySem.Spec PyProof.Rows
end L2
set_option Elab.async false
set_option linter.all false
set_option maxRecDepth 100000
set_option maxHeartbeats 4000000
namespace Ken
open PySem L2 PyProof.Rows PySem.SeqAt
end Ken
set_option Elab.async false
set_option linter.all false
set_option maxRecDepth 100000
set_option maxHeartbeats 2000000
namespace Ken
open PySem L2
theorem len_le_of_sub {α : Type} [DecidableEq α] : ∀ {l m : List α}, l.Nodup → (∀ x ∈ l, x ∈ m) → l.length ≤ m.length
  | [], m, _, _ => Nat.zero_le _
  | x :: l, m, hn, hs => by
    have hx := hs x List.mem_cons_self
    have hn' := List.nodup_cons.mp hn
    have : l.length ≤ (m.erase x).length := len_le_of_sub hn'.2 fun y hy => by
      have hne : y ≠ x := fun z => hn'.1 (z ▸ hy)
      exact (List.mem_erase_of_ne hne).mpr (hs y (List.mem_cons_of_mem _ hy))
    rw [List.length_erase_of_mem hx] at this
    have : 0 < m.length := List.length_pos_of_mem hx
    rw [List.length_cons]
    omega
noncomputable abbrev Wd := Option Nat × List Str
noncomputable def bV : Option Nat → V
  | none => .non
  | some j => .int (j : Nat)
noncomputable def AtW (K : PySem.W.Frag) (H : Hp) (v : V) (x : Wd) : Prop := ∃ p q, v = .ref p ∧ SqT K H p [bV x.1, .ref q] ∧ H q = some (.lst (x.2.map V.str))
noncomputable abbrev AtWs (K : PySem.W.Frag) (H : Hp) : List V → List Wd → Prop := Paired (AtW K H)
noncomputable def goodB (ws : List Wd) : Prop := ∀ k x, ws[k]? = some x → (k = 0 → x.1 = none) ∧ (0 < k → ∃ j, x.1 = some j ∧ j < k)
noncomputable def natsV (L : List Nat) : List V := L.map fun n => V.int (n : Nat)
theorem in_nats (L : List Nat) (j : Nat) : inV (.int (j : Nat)) (natsV L) = decide (j ∈ L) := by
  unfold inV natsV
  induction L with
  | nil => rfl
  | cons n L ih =>
    rw [List.map_cons, List.any_cons, ih]
    have e : eqV (.int ((n : Nat) : Int)) (.int ((j : Nat) : Int)) = decide (n = j) := by
      show decide (((n : Nat) : Int) = ((j : Nat) : Int)) = _
      exact decide_eq_decide.mpr (by omega)
    rw [e]
    by_cases h : n = j
    · subst h; simp
    · have : ¬ (j = n) := fun z => h z.symm
      simp [h, this]
theorem nats_flat (L : List Nat) : (natsV L).all flatV = true := by
  unfold natsV
  rw [List.all_eq_true]
  intro v hv
  obtain ⟨n, _, rfl⟩ := List.mem_map.mp hv
  rfl
noncomputable def AtWn (K : PySem.W.Frag) (H : Hp) (acc : Addr) (v : V) (x : Wd) : Prop := ∃ p q, q ≠ acc ∧ v = .ref p ∧ SqT K H p [bV x.1, .ref q] ∧ H q = some (.lst (x.2.map V.str))
theorem AtWn.at {K : PySem.W.Frag} {H : Hp} {acc : Addr} {v : V} {x : Wd} (h : AtWn K H acc v x) : AtW K H v x := by
  obtain ⟨p, q, _, e, h1, h2⟩ := h
  exact ⟨p, q, e, h1, h2⟩
theorem AtWn.keep {K : PySem.W.Frag} {H H' : Hp} {acc : Addr} (e : Same H H') {v : V} {x : Wd} (h : AtWn K H acc v x) : AtWn K H' acc v x := by
  obtain ⟨p, q, n, rfl, h1, h2⟩ := h
  exact ⟨p, q, n, rfl, e.sqt h1, e _ _ h2⟩
theorem AtWn.write {K : PySem.W.Frag} {H : Hp} {acc : Addr} {ys : List V} {o : HO} (ha : H acc = some (.lst ys)) {v : V} {x : Wd} (h : AtWn K H acc v x) : AtWn K (upd H acc o) acc v x := by
  obtain ⟨p, q, n, rfl, h1, h2⟩ := h
  exact ⟨p, q, n, rfl, keepT_lst ha _ _ h1, by rw [upd_ne n]; exact h2⟩
theorem in_strs (L : List Str) (z : Str) : inV (.str z) (L.map V.str) = decide (z ∈ L) := by
  unfold inV
  induction L with
  | nil => rfl
  | cons n L ih =>
    rw [List.map_cons, List.any_cons, ih]
    have e : eqV (.str n) (.str z) = decide (n = z) := rfl
    rw [e]
    by_cases h : n = z
    · subst h; simp
    · have : ¬ (z = n) := fun y => h y.symm
      simp [h, this]
theorem strs_flat (L : List Str) : (L.map V.str).all flatV = true := by
  rw [List.all_eq_true]
  intro v hv
  obtain ⟨n, _, rfl⟩ := List.mem_map.mp hv
  rfl
noncomputable def natsD (L : List Nat) : List PyData := L.map fun n => .int (n : Nat)
theorem nats_dn {K : PySem.W.Frag} {H : Hp} : ∀ L : List Nat, DnAll K H (natsV L) (natsD L)
  | [] => by show DnAll K H [] []; rw [DnAll]
  | n :: L => by
    show DnAll K H (.int (n : Nat) :: natsV L) (.int (n : Nat) :: natsD L)
    rw [DnAll]
    exact ⟨_, _, rfl, by rw [Dn], nats_dn L⟩
theorem nats_lay (L : List Nat) : (PyData.list (natsD L)).canLay0 = true := canLay_list fun d hd => by
  obtain ⟨n, _, rfl⟩ := List.mem_map.mp hd
  rfl
theorem natsV_len (L : List Nat) : (natsV L).length = L.length := List.length_map _
end Ken
set_option Elab.async false
set_option linter.all false
set_option maxRecDepth 100000
set_option maxHeartbeats 2000000
namespace Ken
open PySem L2
theorem strs_dn {K : PySem.W.Frag} {H : Hp} : ∀ L : List Str, DnAll K H (L.map V.str) (L.map PyData.str)
  | [] => by show DnAll K H [] []; rw [DnAll]
  | n :: L => by
    show DnAll K H (.str n :: L.map V.str) (.str n :: L.map PyData.str)
    rw [DnAll]
    exact ⟨_, _, rfl, by rw [Dn], strs_dn L⟩
theorem eqvAll_self : ∀ {ds : List PyData}, (∀ d ∈ ds, PyData.eqv d d = true) → PyData.eqvAll ds ds = true
  | [], _ => rfl
  | d :: ds, h => by
    show (PyData.eqv d d && PyData.eqvAll ds ds) = true
    rw [h d List.mem_cons_self, eqvAll_self fun e he => h e (List.mem_cons_of_mem _ he)]; rfl
theorem str_self (x : Str) : PyData.eqv (.str x) (.str x) = true := by show (x == x) = true; simp
theorem depth_list {ds : List PyData} {n : Nat} (h : ∀ d ∈ ds, d.depth ≤ n) : (PyData.list ds).depth ≤ n + 1 := by
  show PyData.depthAll ds + 1 ≤ n + 1
  have : PyData.depthAll ds ≤ n := by
    induction ds with
    | nil => exact Nat.zero_le _
    | cons d ds ih =>
      show max d.depth (PyData.depthAll ds) ≤ n
      exact Nat.max_le.mpr ⟨h d List.mem_cons_self, ih fun e he => h e (List.mem_cons_of_mem _ he)⟩
  omega
theorem nats_depth (L : List Nat) : (PyData.list (natsD L)).depth ≤ 1 := depth_list (n := 0) fun d hd => by
  obtain ⟨n, _, rfl⟩ := List.mem_map.mp hd
  exact Nat.le_refl _
end Ken
set_option Elab.async false
set_option linter.all false
set_option maxRecDepth 100000
set_option maxHeartbeats 2000000
namespace L2
open PySem PySem.Spec PyProof.Rows
end L2
set_option Elab.async false
set_option linter.all false
set_option maxRecDepth 100000
set_option maxHeartbeats 2000000
namespace L2
open PySem PySem.Spec PyProof.Rows
end L2
set_option Elab.async false
set_option linter.all false
set_option maxRecDepth 100000
set_option maxHeartbeats 2000000
namespace L2
open PySem PySem.Spec PyProof.Rows
end L2
set_option Elab.async false
set_option linter.all false
set_option maxRecDepth 100000
set_option maxHeartbeats 2000000
namespace L2
open PySem PySem.Spec PyProof.Rows
end L2
set_option Elab.async false
set_option linter.all false
set_option maxRecDepth 100000
set_option maxHeartbeats 2000000
namespace L2
open PySem PySem.Spec PyProof.Rows
end L2
set_option Elab.async false
set_option linter.all false
set_option maxRecDepth 100000
set_option maxHeartbeats 2000000
namespace Ken
open PySem L2
end Ken
set_option Elab.async false
set_option linter.all false
set_option maxRecDepth 100000
set_option maxHeartbeats 2000000
namespace L2
open PySem PySem.Spec PyProof.Rows
end L2
set_option Elab.async false
set_option linter.all false
set_option maxRecDepth 100000
set_option maxHeartbeats 2000000
namespace L2
open PySem PySem.Spec PyProof.Rows
end L2
set_option Elab.async false
set_option linter.all false
set_option maxRecDepth 100000
set_option maxHeartbeats 2000000
namespace Ken
open PySem L2
end Ken
set_option Elab.async false
set_option linter.all false
set_option maxRecDepth 100000
set_option maxHeartbeats 2000000
namespace L2
open PySem PySem.Spec PyProof.Rows
end L2
namespace Ken
open PySem L2
end Ken
set_option Elab.async false
set_option linter.all false
set_option maxRecDepth 100000
set_option maxHeartbeats 2000000
namespace Ken
open PySem L2
end Ken
namespace Ken
open PySem L2
end Ken
set_option Elab.async false
set_option linter.all false
set_option maxRecDepth 100000
set_option maxHeartbeats 2000000
namespace L2
open PySem
end L2
namespace Ken
open PySem L2
theorem cut_take {xs : List V} {i : Nat} (h : i ≤ xs.length) : cutV xs none (some (i : Int)) = xs.take i := by
  show List.take ((if (i : Int) < 0 then ((i : Int) + (xs.length : Int)).toNat else min (i : Int).toNat xs.length) - 0) (List.drop 0 xs) = _
  rw [if_neg (by omega), List.drop_zero]
  congr 1
  omega
end Ken
set_option Elab.async false
set_option linter.all false
set_option maxRecDepth 100000
set_option maxHeartbeats 2000000
namespace L2
open PySem PySem.Spec PyProof.Rows
end L2
namespace Ken
open PySem L2
end Ken
namespace Ken
open PySem L2
end Ken
namespace Ken
open PySem L2
end Ken
set_option Elab.async false
set_option linter.all false
set_option maxRecDepth 100000
set_option maxHeartbeats 2000000
namespace Ken
open PySem L2 PyProof.Rows
theorem uniqS : ∀ {l m : List Str}, l.Pairwise (fun a b => sLt a b = true) → m.Pairwise (fun a b => sLt a b = true) → (∀ x, x ∈ l ↔ x ∈ m) → l = m
  | [], m, _, _, h => by
    cases m with
    | nil => rfl
    | cons y m => exact absurd ((h y).mpr List.mem_cons_self) (by simp)
  | x :: l, [], _, _, h => absurd ((h x).mp List.mem_cons_self) (by simp)
  | x :: l, y :: m, hl, hm, h => by
    rw [List.pairwise_cons] at hl hm
    have e : x = y := by
      by_cases e : x = y
      · exact e
      have h1 : x ∈ m := ((List.mem_cons.mp ((h x).mp List.mem_cons_self)).resolve_left e)
      have h2 : y ∈ l := ((List.mem_cons.mp ((h y).mpr List.mem_cons_self)).resolve_left fun z => e z.symm)
      have a1 := hm.1 x h1
      have a2 := sLt_asym (hl.1 y h2)
      rw [a1] at a2; cases a2
    subst e
    have nx : ∀ {k : List Str}, (∀ a ∈ k, sLt x a = true) → x ∉ k := fun hk z => by
      have := hk x z
      rw [sLt_irr] at this; cases this
    rw [uniqS hl.2 hm.2 fun z => ⟨fun hz => ((List.mem_cons.mp ((h z).mp (List.mem_cons_of_mem _ hz))).resolve_left fun e => nx hl.1 (e ▸ hz)), fun hz => ((List.mem_cons.mp ((h z).mpr (List.mem_cons_of_mem _ hz))).resolve_left fun e => nx hm.1 (e ▸ hz))⟩]
theorem rising_pw : ∀ {p : Str} {l : List Str}, risingS p l = true → (p :: l).Nodup → (p :: l).Pairwise (fun a b => sLt a b = true)
  | p, [], _, _ => List.pairwise_singleton _ _
  | p, x :: l, h, hn => by
    have h' : (!PySem.Spec.ltCps x.cps.toList p.cps.toList && risingS x l) = true := h
    rw [Bool.and_eq_true] at h'
    rw [List.nodup_cons] at hn
    have ih := rising_pw h'.2 hn.2
    have hpx : p ≠ x := fun z => hn.1 (by rw [z]; exact List.mem_cons_self)
    have lt : sLt p x = true := by
      rcases sLt_tot hpx with z | z
      · exact z
      · exfalso
        have h1 := h'.1
        rw [ltCps_eq] at h1
        have z' : decide (x.cps.toList < p.cps.toList) = true := z
        rw [z'] at h1; cases h1
    rw [List.pairwise_cons] at ih ⊢
    refine ⟨fun y hy => ?_, List.pairwise_cons.mpr ih⟩
    rcases List.mem_cons.mp hy with z | z
    · rw [z]; exact lt
    · exact sLt_trans lt (ih.1 y z)
theorem sorted_pw {l : List Str} (h : sortedS l = true) (hn : l.Nodup) : l.Pairwise (fun a b => sLt a b = true) := by
  cases l with
  | nil => exact .nil
  | cons p l => exact rising_pw h hn
theorem sorted_uniq {l m : List Str} (hl : sortedS l = true) (nl : l.Nodup) (hm : sortedS m = true) (nm : m.Nodup) (h : ∀ x, x ∈ l ↔ x ∈ m) : l = m := uniqS (sorted_pw hl nl) (sorted_pw hm nm) h
end Ken
namespace Ken
open PySem L2
end Ken
set_option Elab.async false
set_option linter.all false
set_option maxRecDepth 100000
set_option maxHeartbeats 2000000
namespace L2
open PySem PySem.Spec PyProof.Rows Ken
end L2
set_option Elab.async false
set_option linter.all false
set_option maxRecDepth 100000
set_option maxHeartbeats 2000000
namespace Ken
open PySem L2
noncomputable def persB (ws : List Wd) : Prop := ∀ (n : Nat) (x : Wd), ws[n]? = some x → ∀ j : Nat, x.1 = some j → ∀ y : Wd, ws[j]? = some y → ∀ z ∈ y.2, z ∈ x.2
end Ken
set_option Elab.async false
set_option linter.all false
set_option maxRecDepth 100000
set_option maxHeartbeats 2000000
namespace Ken
open PySem L2
end Ken
namespace Ken
open PySem L2
end Ken
set_option Elab.async false
set_option linter.all false
set_option maxRecDepth 100000
set_option maxHeartbeats 4000000
namespace Ken
open PySem L2
end Ken
namespace Ken
open PySem L2
end Ken
namespace Ken
open PySem L2
end Ken
set_option Elab.async false
set_option linter.all false
set_option maxRecDepth 100000
set_option maxHeartbeats 4000000
namespace Ken
open PySem L2
end Ken
set_option Elab.async false
set_option linter.all false
set_option maxRecDepth 100000
set_option maxHeartbeats 2000000
namespace L2
open PySem PySem.Spec PyProof.Rows
end L2
set_option Elab.async false
set_option linter.all false
set_option maxRecDepth 100000
set_option maxHeartbeats 4000000
namespace L2
open PySem PySem.Spec PyProof.Rows
end L2
set_option Elab.async false
set_option linter.all false
set_option maxRecDepth 100000
set_option maxHeartbeats 4000000
namespace Ken
open PySem L2
end Ken
namespace Ken
open PySem L2
end Ken
namespace Ken
open PySem L2
end Ken
set_option Elab.async false
set_option linter.all false
set_option maxRecDepth 100000
set_option maxHeartbeats 4000000
namespace Ken
open PySem L2
end Ken
set_option Elab.async false
set_option linter.all false
set_option maxRecDepth 100000
set_option maxHeartbeats 2000000
namespace L2
open PySem PySem.Spec PyProof.Rows
end L2
set_option Elab.async false
set_option linter.all false
set_option maxRecDepth 100000
set_option maxHeartbeats 2000000
namespace L2
open PySem PySem.Spec PyProof.Rows
end L2
set_option Elab.async false
set_option linter.all false
set_option maxRecDepth 100000
set_option maxHeartbeats 2000000
namespace L2
open PySem PySem.Spec PyProof.Rows
end L2
set_option Elab.async false
set_option linter.all false
set_option maxRecDepth 100000
set_option maxHeartbeats 4000000
namespace Ken
open PySem L2
end Ken
namespace L2
open PySem PySem.Spec PyProof.Rows
end L2
namespace Ken
open PySem L2
end Ken
namespace Ken
open PySem L2
end Ken
namespace Ken
open PySem L2
end Ken
namespace L2
open PySem PySem.Spec PyProof.Rows
end L2
namespace Ken
open PySem L2
end Ken
namespace Ken
open PySem L2
end Ken
namespace Ken
open PySem L2
end Ken
set_option Elab.async false
set_option linter.all false
set_option maxRecDepth 100000
set_option maxHeartbeats 4000000
namespace L2
open PySem PySem.Spec PyProof.Rows
section
variable {X : Cx}
noncomputable def rIsB : R2 := fun x y H Q => ∃ c, y = .bl c ∧ (x = .non ∨ ∃ b, x = .bl b) ∧ Q (.bl (decide (x = .bl c))) H
theorem op_isB : OpR X (compareOp .Is) rIsB := by
  intro pins s σ H x y v u Q I rx ry h
  obtain ⟨c, rfl, hx, q⟩ := h
  cases (show u = Value.bool c from ry)
  rcases hx with rfl | ⟨b, rfl⟩
  · cases (show v = Value.none from rx)
    exact wpAny_pure ⟨.bl (decide (V.non = V.bl c)), H, I, (by cases c <;> rfl), q⟩
  · cases (show v = Value.bool b from rx)
    refine wpAny_pure ⟨.bl (decide (V.bl b = V.bl c)), H, I, ?_, q⟩
    show Value.bool (Value.bool b == Value.bool c) = Value.bool (decide (V.bl b = V.bl c))
    cases b <;> cases c <;> rfl
theorem hand_K (X : Cx) (ea : Addr) : (X.hand ea).K = X.K := rfl
theorem nox_K (X : Cx) : X.nox.K = X.K := rfl
theorem cxOf_K1 (CX : CXT) (P : Program) (w : World) (K : PySem.W.Frag) (mg : Str → Option Value) (base : Heap) (N : List Str) (qual : Str) (scope : Scope) (f : Addr) (cd : Value) (A : Around) (outer : List Env) (s : Shared) (H : Hp) (E : XK) : (cxOf CX P w K mg base N qual scope f cd A outer s H E).K = K := rfl
end
end L2
namespace Ken
open PySem
theorem boot_ValueError : bootBuiltins "ValueError" = some (.type "ValueError") := PyProof.Rows.Boot.«ValueError»
end Ken
set_option Elab.async false
set_option linter.all false
set_option maxRecDepth 100000
set_option maxHeartbeats 4000000
namespace L2
open PySem PySem.Spec PyProof.Rows PySem.W
section
variable {X : Cx} {pins : List (Addr × Obj)} {σ : St} {H : Hp} {s : Shared} {e t : Addr} {C : Value} {dd T dd' T' : Option Addr} {ot : HO}
theorem Inv.besides {s' : Shared} (I : Inv X pins σ H s) (Fe : H e = some (ExcO e C dd T)) (hos : s'.os = s.os) (hg : s'.gens = s.gens) (hn : s.heap.get? t = none)
    (keep : ∀ b o, s.heap.get? b = some o → b ≠ e → s'.heap.get? b = some o)
    (exc : ∃ vs sl, s'.heap.get? e = some ⟨C, dd', .fields vs, sl⟩ ∧ vs.size = 6 ∧ vs[1]? = some (T'.elim Value.none Value.ref))
    (new : ∀ G, ObjOk X.prog X.w G s'.heap t ot) : Inv X pins σ (upd (upd H t ot) e (ExcO e C dd' T')) s' := by
  have hnt : H t = none := I.hok.newAt hn
  have nx : ∀ b o, H b = some o → (∀ φ, o ≠ .ext φ) → b ≠ e := fun b o q n z => by subst z; rw [Fe] at q; cases q; exact n _ rfl
  have up : ∀ b o, H b = some o → b ≠ e → upd (upd H t ot) e (ExcO e C dd' T') b = some o := fun b o q n => by rw [upd_ne n, upd_ne (ne_of_none q hnt)]; exact q
  have hfe : ∀ b o, s.heap.get? b = some o → H b = none → s'.heap.get? b = some o := fun b o q n => keep b o q fun z => by rw [z, Fe] at n; cases n
  refine I.call' (ch := []) hos ⟨fun b o q n _ _ => hfe b o q n, fun b o q n _ _ => ⟨o.slots, hfe b o q n⟩, fun b o q n _ => ?_, fun b o q _ => ?_, fun b xs q => up b _ q (nx b _ q fun φ z => nomatch z), fun b o u q => up b _ q (nx b _ q fun φ z => nomatch z),
    fun b ps q => ⟨#[], by rw [up b _ q (nx b _ q fun φ z => nomatch z)]; simp⟩⟩ (fun b o q => ?_) (by rw [hg]; exact I.bare) (fun b z => nomatch z)
  · rw [upd_ne (ne_of_none Fe n).symm, upd_ne (fun z => by rw [z, hn] at q; cases q)]; exact n
  · by_cases hb : b = e
    · subst hb; obtain ⟨_, _, z, _⟩ := exc; exact ⟨_, z⟩
    · exact ⟨o, keep b o q hb⟩
  · by_cases hb : b = e
    · subst hb; rw [upd_same] at q; cases q; exact exc_mk exc
    · rw [upd_ne hb] at q
      by_cases ht : b = t
      · subst ht; rw [upd_same] at q; cases q; exact new _
      · rw [upd_ne ht] at q
        refine (I.hok b o q).stay (fun c u hc z => keep c u z ?_) (fun c z => up c _ z (nx c _ z fun φ y => nomatch y)) fun c xs z => up c _ z (nx c _ z fun φ y => nomatch y)
        rcases hc with hc | hc
        · rw [hc]; exact hb
        · exact nx c _ hc fun φ y => nomatch y
end
structure XSet (K : PySem.W.Frag) (C : Addr) (nm : Str) : Prop where
  sa : findIn K (.ref C) "__setattr__" = some (some (.builtin "object.__setattr__"))
  na : findIn K (.ref C) nm = some none
  hd : hasDictIn K C = true
  mo : mroIn K C (.type "object") = some true
theorem refuse_tail {h : Heap} {bm : List Value} (T : OwnTail h bmV bm) (self : Value) : refuseLoop self "__setattr__" bm = pure () := by
  induction T with
  | base => exact PySem.F.store_ValueError.passes self
  | own _ _ _ _ ih => rw [refuseLoop_ref]; exact ih
section
variable {prog : Program} {w : World} {A : Around} {E : Value → Shared → Prop} {s : Shared} {K : PySem.W.Frag} {x C : Addr} {nm : Str} {tk : Tok} {v : Value} {vs : Array Value} {sl : Array (Option Value)} {bm : List Value} {mN : Str → Option Value}
theorem xset_call {R : Result → Shared → Prop} (X : K.In s.heap) (hx : s.heap.get? x = some ⟨.ref C, none, .fields vs, sl⟩) (S : XSet K C nm) (hC : IsXC s.heap C bm mN)
    (h : ∀ h' tk', h'.Ns1 s.heap.objs.size (fun y => if y = nm then some v else none) → (∀ b o, b ≠ x → s.heap.get? b = some o → h'.get? b = some o) → h'.get? x = some ⟨.ref C, some s.heap.objs.size, .fields vs, sl⟩ → R (.ok (.ret .none)) { s with heap := h', toks := tk' }) :
    codeAny (model prog w) A (.call (.builtin "object.__setattr__") ⟨[.ref x, .str nm tk, v], []⟩) R s := by
  have I : PySem.W.InstAt s.heap x ⟨.ref C, none, .fields vs, sl⟩ C none := ⟨hx, rfl, rfl, trivial⟩
  obtain ⟨hh, g, d, t, os⟩ := s
  have L0 := I.type (M := model prog w)
  have L1 := looks_mroIn (M := model prog w) X S.mo
  have L2 := looks_findIn (M := model prog w) X S.na
  obtain ⟨cd, hcd, hdct⟩ := any_some S.hd
  have LC := looks_clsIn (M := model prog w) X hcd
  have LI : Looks (model prog w) hh (isInstance (.ref x) (.type "object")) true := L0.andThen L1
  have hk := PySem.F.store_ValueError.kind
  have hsp := PySem.F.store_ValueError.split
  have ha := PySem.F.store_ValueError.args (.ref x) (.str nm tk) v
  refine codeAny_call_builtin PySem.F.store_ValueError.slot.plain PySem.F.entry_object_sa ?_
  simp only [checkBuiltinCall, hk, hsp]
  refine wpAny_bind (LI.at ?_)
  simp only [Bool.not_true, Bool.false_eq_true, if_false]
  refine wpAny_mono (Q := fun _ s' => s' = ⟨hh, g, d, t, os⟩) (E := fun _ _ => False) ?_ (fun _ s' z => ?_) fun _ _ z => False.elim z
  · repeat (any_goals (first | assumption | rfl | wp_step))
  subst z
  obtain ⟨nm', q', N, bs, hdct', sn, sub, ab, col, dd, k0, k1, k2, k3, k5, c1, c2, c3⟩ := hC
  unfold Builtin.«object.__setattr__»
  simp only [List.isEmpty_nil, Bool.not_true, Bool.false_eq_true, if_false]
  rw [refuse_eq]
  refine wpAny_bind (wpAny_bind (L0.at (wpAny_bind (wpAny_mroOf_exc c1 ?_))))
  rw [refuseLoop_ref, refuse_tail c3]
  refine wpAny_pure (wpAny_bind (wpAny_pure (wpAny_bind (L0.at (wpAny_bind (L2.at (wpAny_bind (wpAny_pure ?_))))))))
  show wpAny _ _ (Builtin.ObjectAttr.storeInOwnDict _ _ _ _ _ _) _ _ _
  unfold Builtin.ObjectAttr.storeInOwnDict
  refine wpAny_bind (wpAny_pure ?_)
  rw [if_neg (by simp)]
  refine wpAny_bind ?_
  show wpAny _ _ (instanceDict x true) _ _ _
  unfold instanceDict
  refine wpAny_bind (wpAny_loadPart hx ?_)
  dsimp only
  refine wpAny_bind (LC.at ?_)
  rw [hdct]
  simp only [Bool.not_true, Bool.false_eq_true, if_false]
  rw [if_neg (by simp [typeHasDict])]
  have xs : x ≠ hh.objs.size := Nat.ne_of_lt (Heap.lt_size hx)
  have hx1 := Heap.get?_push_of_some (h := hh) { cls := .type "dict", data := .dict #[] } hx
  have hx2 := Heap.get?_update_self (fun o : Obj => { o with dict := some hh.objs.size }) hx1 rfl
  have hd2 : ((hh.push { cls := .type "dict", data := .dict #[] }).update x fun o => { o with dict := some hh.objs.size }).get? hh.objs.size = some { cls := .type "dict", data := .dict #[] } := by
    rw [Heap.get?_update_other _ _ xs]; exact Heap.get?_push_size hh rfl
  refine wpAny_bind (wpAny_alloc (wpAny_bind (wpAny_update hx1 ?_)))
  show wpAny _ _ (pure (some hh.objs.size)) _ _ _
  refine wpAny_pure ?_
  show wpAny _ _ (Builtin.ObjectAttr.storeInDict hh.objs.size (.str nm tk) nm v) _ _ _
  unfold Builtin.ObjectAttr.storeInDict
  have n1 : Heap.Ns1 ((hh.push { cls := .type "dict", data := .dict #[] }).update x fun o => { o with dict := some hh.objs.size }) hh.objs.size (fun _ => none) := Heap.Ns1.of_empty ⟨_, #[], _, hd2, rfl, (fun e he => absurd he (by simp)), fun _ => rfl⟩
  refine wpAny_bind (wpAny_pure (wpAny_bind (wpAny_nsSet1 n1 fun h' hn' hs => ?_)))
  obtain ⟨oD, esD, epD, hoD, hdD, hcD⟩ := hn'.count (Within.cons nm v Within.nil)
  refine wpAny_bind (wpAny_lookBehind hoD ?_ (wpAny_pure ?_))
  · rw [hdD]
    exact pastItsLine_dict (Nat.le_trans hcD (by show 1 ≤ sizeLine + 1; decide))
  refine h h' _ hn' (fun b o hb q => ?_) ?_
  · rw [hs.2 b (Nat.ne_of_lt (Heap.lt_size q))]
    exact (Heap.get?_update_other _ _ (Ne.symm hb)).trans (Heap.get?_push_of_some _ q)
  · rw [hs.2 x xs]
    exact hx2
end
section
variable {X : Cx} {pins : List (Addr × Obj)} {σ : St} {H : Hp} {s : Shared} {e C : Addr} {T : Option Addr} {nm : Str} {y : V} {v : Value} {E : Value → Shared → Prop} {Q : Unit → Shared → Prop}
theorem xset_ok (I : Inv X pins σ H s) (Fe : H e = some (ExcO e (.ref C) none T)) (S : XSet X.K C nm) (hC : XC X.K C) (rv : RelV y v)
    (h : ∀ d s', H d = none → d ≠ e → Inv X pins σ (upd (upd H d (.xd [(nm, y)])) e (ExcO e (.ref C) (some d) T)) s' → Q () s') : wpAny (model X.prog X.w) X.A (setAttr (.ref e) nm v) Q E s := by
  obtain ⟨vs, sl, hx, hz, h1⟩ := exc_get I.hok Fe
  obtain ⟨bm, mN, hI⟩ := hC s.heap I.kIn
  have Ia : PySem.W.InstAt s.heap e ⟨.ref C, none, .fields vs, sl⟩ C none := ⟨hx, rfl, rfl, trivial⟩
  refine PySem.W.set_plain I.kIn Ia S.sa (xset_call (s := { s with toks := s.toks + 1 }) I.kIn hx S hI fun h' tk' hn hk hx' => ?_)
  have nd : s.heap.get? s.heap.objs.size = none := Heap.get?_none_of_le (Nat.le_refl _)
  have ne : s.heap.objs.size ≠ e := Nat.ne_of_gt (Heap.lt_size hx)
  refine h s.heap.objs.size _ (I.hok.newAt nd) ne (Inv.besides I Fe rfl rfl nd (fun b o q hb => hk b o hb q) ⟨vs, sl, hx', hz, h1⟩ fun G => ?_)
  refine ⟨_, hn, fun f => ?_⟩
  by_cases hf : f = nm
  · subst hf
    rw [show ([(f, y)] : List (Str × V)).lookup f = some y by simp, if_pos rfl]
    exact rv
  · rw [show ([(nm, y)] : List (Str × V)).lookup f = none by simp [List.lookup_cons, beq_eq_false_iff_ne.mpr hf], if_neg hf]
    trivial
noncomputable def sXFld (C : Addr) (ta tv : TE) (nm : Str) : TS := fun D σ H => tv σ H fun y H1 => ta σ H1 fun x H2 => ∃ e T, x = .ref e ∧ H2 e = some (ExcO e (.ref C) none T) ∧ ∀ d, H2 d = none → d ≠ e → D.nx σ (upd (upd H2 d (.xd [(nm, y)])) e (ExcO e (.ref C) (some d) T))
theorem ps_xfld {o value : Expr} {ta tv : TE} {pos' pos : Pos} (S : XSet X.K C nm) (hC : XC X.K C) (ha : PE X o ta) (hv : PE X value tv) (hs : swapsWith value (some (.Attribute o nm pos')) pos.line X.env = pure false := by rfl) :
    PS X (.Assign [.Attribute o nm pos'] value pos) (sXFld C ta tv nm) := by
  intro pins s σ H D I h
  refine plainObj_wpAny_Assign_Attribute (thn (hv pins s σ H _ I h) fun u s1 ⟨y, H1, I1, ry, q⟩ => thn (ha pins s1 σ H1 _ I1 q) fun ov s2 ⟨x, H2, I2, rx, e, T, ex, ee, q2⟩ => ?_) hs
  subst ex
  cases (show ov = Value.ref e from rx)
  exact xset_ok I2 ee S hC ry fun d s3 hd hne I3 => ⟨σ, _, I3, q2 d hd hne⟩
noncomputable def tXFld (K : PySem.W.Frag) (ta : TE) (nm : Str) : TE := fun σ H Q => ta σ H fun x H1 => ∃ e C d T fs y, x = .ref e ∧ H1 e = some (ExcO e (.ref C) (some d) T) ∧ H1 d = some (.xd fs) ∧ XGet K C ∧ findIn K (.ref C) nm = some none ∧ hasDictIn K C = true ∧ fs.lookup nm = some y ∧ Q y H1
end
end L2
set_option Elab.async false
set_option linter.all false
set_option maxRecDepth 100000
set_option maxHeartbeats 4000000
namespace L2
open PySem PySem.Spec PyProof.Rows PySem.W
section
variable {prog : Program} {w : World} {A : Around} {E : Value → Shared → Prop} {h : Heap} {g : Array GenState} {d : Drawn} {t : Nat} {os : OsState} {C fI : Addr} {oI : Obj} {bm : List Value} {mN : Str → Option Value} {us : List Value}
theorem made_init {Q : Fin → Shared → Prop} (hX : IsXC h C bm mN) (hi : mN "__init__" = some (.ref fI)) (hf : h.get? fI = some oI) (hc : oI.cls = .type "function") (hl : us.length ≤ sizeLine)
    (hq : ∀ h' e, Heap.MadeExcOf h h' e (.ref C) us → wpAny (model prog w) A (call (.ref fI) (.ref e :: us)) (fun r s' => r = .none ∧ Q (.done (.ret (.ref e))) s') E ⟨h', g, d, t, os⟩) :
    wpAny (model prog w) A (Builtin.«type.__call__» ⟨.ref C :: us, []⟩) Q E ⟨h, g, d, t, os⟩ := by
  obtain ⟨nm, q, N, bs, hdct, sn, sub, ab, col, dd, k0, k1, k2, k3, k5, c1, c2, c3⟩ := hX
  have FV := PySem.F.excBase_ValueError
  repeat first | (with_reducible refine wpAny_loadPart_at c1 ?_) | (with_reducible refine wpAny_madeBy_exc c1 ?_) | wp_step
  refine codeAny_call_builtin_code (Code.quiet_builtin _ FV.quiet) (wpAny_check_new_subT FV c3 c1 (codeAny_exc_new_subT FV c3 c1 ?_ hl))
  show wpAny _ _ _ _ _ _
  have kp : ∀ b o, h.get? b = some o → ((h.push { cls := .type "tuple", data := .seq us.toArray }).push { cls := .ref C, data := .fields #[.ref h.objs.size, .none, .none, .none, .bool false, .none] }).get? b = some o := fun b o z => Heap.get?_push_of_some _ (Heap.get?_push_of_some _ z)
  have he : ((h.push { cls := .type "tuple", data := .seq us.toArray }).push { cls := .ref C, data := .fields #[.ref h.objs.size, .none, .none, .none, .bool false, .none] }).get? (h.objs.size + 1) = some { cls := .ref C, data := .fields #[.ref h.objs.size, .none, .none, .none, .bool false, .none] } := by heap_get
  have ht : ((h.push { cls := .type "tuple", data := .seq us.toArray }).push { cls := .ref C, data := .fields #[.ref h.objs.size, .none, .none, .none, .bool false, .none] }).get? h.objs.size = some { cls := .type "tuple", data := .seq us.toArray } := Heap.get?_push_of_some _ (Heap.get?_push_at rfl rfl)
  have cc : (Value.ref C :: bm).contains (.ref C) = true := by simp
  have d1 := kp _ _ c1
  have d2 := c2.keeps kp
  have d3 := c3.keeps kp
  have d4 := kp _ _ hf
  generalize ((h.push { cls := .type "tuple", data := .seq us.toArray }).push { cls := .ref C, data := .fields #[.ref h.objs.size, .none, .none, .none, .bool false, .none] }) = h2 at kp he ht d1 d2 d3 d4 ⊢
  unfold isInstance
  repeat first | (with_reducible refine wpAny_loadPart_at he ?_) | (with_reducible refine wpAny_isSubtype_exc d1 ?_; rw [cc]) | wp_step
  show wpAny _ _ (typeLookup (.ref C) _) _ _ _
  refine wpAny_typeLookup_tail d1 d2 d3 FV.mroIs FV.init.lookup ?_
  rw [hi]
  refine wpAny_holding (wpAny_bind ?_)
  unfold bindSpecial
  refine wpAny_bind (wpAny_typeOf (T := "function") ⟨_, d4, hc⟩ ?_)
  rw [if_pos (by decide)]
  refine wpAny_pure (wpAny_bind (wpAny_mono (hq h2 (h.objs.size + 1) ⟨kp, Heap.get?_none_of_le (Nat.le_succ _), h.objs.size, he, Heap.get?_none_of_le (Nat.le_refl _), ht⟩) (fun r s' hr => ?_) fun _ _ z => z))
  obtain ⟨rfl, z⟩ := hr
  wp_walk
  exact z
theorem call_init {Q : Value → Shared → Prop} (hX : IsXC h C bm mN) (hi : mN "__init__" = some (.ref fI)) (hf : h.get? fI = some oI) (hc : oI.cls = .type "function") (hl : us.length ≤ sizeLine)
    (hq : ∀ h' e, Heap.MadeExcOf h h' e (.ref C) us → wpAny (model prog w) (A.under (.builtin "type.__call__" ⟨.ref C :: us, []⟩)) (call (.ref fI) (.ref e :: us)) (fun r s' => r = .none ∧ Q (.ref e) s') E ⟨h', g, d, t, os⟩) :
    wpAny (model prog w) A (call (.ref C) us) Q E ⟨h, g, d, t, os⟩ := by
  obtain ⟨nm, q, N, bs, hdct, sn, sub, ab, col, dd, k0, k1, k2, k3, k5, c1, c2, c3⟩ := id hX
  have f1 := tc_lookup
  have f2 := tc_bind (.ref C)
  have hT : (⟨h, g, d, t, os⟩ : Shared).TypeIs (.ref C) "type" := ⟨_, c1, rfl⟩
  refine wpAny_call (codeAny_of_tree (show wpAny _ _ (callAny (.ref C) _) _ _ _ from ?_))
  repeat any_goals (first | assumption | (with_reducible refine wpAny_loadPart_at c1 ?_) | wp_step)
  exact ⟨rfl, codeAny_call_builtin_at (Code.quiet_builtin _ (by decide +kernel)) entry_typeCall (wpAny_check_type_call_sub c1 (made_init hX hi hf hc hl fun h' e hm => hq h' e hm))⟩
theorem raise_there {M : Model} {env : Env} {x : Sem Value} {s : Shared} {Q : Flow → Shared → Prop} (hh : A.handled = none)
    (hx : wpAny M A x (fun v s₁ => ∃ e C bm mN dd vs sl, v = .ref e ∧ IsXC s₁.heap C bm mN ∧ s₁.heap.get? e = some ⟨.ref C, dd, .fields vs, sl⟩ ∧ vs[1]? = some Value.none ∧ E (.ref e) s₁) E s) : wpAny M A (raiseStmt env (some x) none) Q E s := by
  unfold raiseStmt
  refine wpAny_bind (wpAny_mono hx (fun v s₁ z => ?_) fun _ _ z => z)
  obtain ⟨e, C, bm, mN, dd, vs, sl, rfl, hX, he, h1, hE⟩ := z
  have hb : (Value.ref C :: bm).contains (.type "BaseException") = true := by rw [List.contains_cons, hX.base, Bool.or_true]
  obtain ⟨nm, q, N, bs, hdct, sn, sub, ab, col, dd', k0, k1, k2, k3, k5, c1, c2, c3⟩ := hX
  obtain ⟨hp, g, d, tk, os⟩ := s₁
  repeat first | (with_reducible refine wpAny_loadPart_at he ?_) | (with_reducible refine wpAny_loadPart_at c1 ?_) | (with_reducible refine wpAny_isSubtype_exc c1 ?_; rw [hb]) | (with_reducible refine wpAny_field he rfl h1 ?_) | wp_step
  exact wpAny_raiseNew_none hh hE
end
end L2
set_option Elab.async false
set_option linter.all false
set_option maxRecDepth 100000
set_option maxHeartbeats 4000000
namespace L2
open PySem PySem.Spec PyProof.Rows PySem.W
noncomputable def XClsI (K : PySem.W.Frag) (C f : Addr) : Prop := (∀ h, K.In h → ∃ bm mN, IsXC h C bm mN ∧ mN "__init__" = some (.ref f)) ∧ ∃ o, K.lookup f = some o ∧ o.cls = .type "function"
theorem XClsI.xc {K : PySem.W.Frag} {C f : Addr} (x : XClsI K C f) : XC K C := fun h X => let ⟨bm, mN, a, _⟩ := x.1 h X; ⟨bm, mN, a⟩
theorem ns_at {K : PySem.W.Frag} {h : Heap} {N : Addr} {m : Str → Option Value} {n : Str} {v : Value} (X : K.In h) (G : h.Ns N m) (e : nsIn K N n = some (some v)) : m n = some v := by
  obtain ⟨o, es, ep, ho, hd, _, hf⟩ := G
  unfold nsIn at e
  split at e
  · rename_i q
    have z := X _ _ q
    rw [ho] at z
    cases z; cases hd
    split at e
    · rename_i he
      rw [← hf]
      unfold nsFind findBy
      rw [← Array.find?_toList, he]
      cases e; rfl
    · split at e <;> cases e
  · cases e
theorem xclsI_mk {K : PySem.W.Frag} {C N f : Addr} {nm q : Str} {bs bm : List Value} {hdct : Bool} {sn : List Str} {sub : List Value} {ab : Bool} {col : Option Bool} {dd : Option Addr} {k0 k1 k2 k3 k5 : Option Value} {of : Obj}
    (l : K.lookup C = some (excClassObj nm q C N bs bm hdct sn sub ab col dd k0 k1 k2 k3 k5 "ValueError.__new__")) (t : tailIn K bmV bm = true) (n : nsOkIn K N = true) (i : nsIn K N "__init__" = some (some (.ref f))) (lf : K.lookup f = some of) (cf : of.cls = .type "function") : XClsI K C f :=
  ⟨fun h X => ⟨bm, h.nsMap N, ⟨nm, q, N, bs, hdct, sn, sub, ab, col, dd, k0, k1, k2, k3, k5, X _ _ l, .of_isNs (isNs_of_in X n), tail_of_in X t⟩, ns_at X (.of_isNs (isNs_of_in X n)) i⟩, of, lf, cf⟩
section
variable {X : Cx} {E : XK} {x : Str} {C f : Addr} {np cpos pos : Pos} {e : Expr} {es : List Expr} {t : TA} {k : Nat} {fd : FuncData} {ps : List Str} {sp : Sp}
noncomputable def tRaiseI (E : XK) (C : Addr) (sp : Sp) (t : TA) : TS := fun _ σ H => t σ H fun vs H1 => vs.length ≤ sizeLine ∧ ∀ ea, H1 ea = none → sp (.ref ea :: vs) (upd H1 ea (ExcO ea (.ref C) none none))
  (fun r H2 => r = .non ∧ ∃ dd, H2 ea = some (ExcO ea (.ref C) dd none) ∧ (∀ d, dd = some d → d ≠ ea) ∧ Same H1 H2 ∧ ∀ H', Xtd H1 ea (.ref C) dd H' → (∀ d o, dd = some d → H2 d = some o → H' d = some o) → E (.ref ea) dd H') E0
theorem ps_raiseI (F : FnOk X.prog X.w X.K X.mg X.base CX0 k f fd ps sp) (hr : Room (k + 1) X.A) (hb : Binds X.K fd ps []) (hx : XOk X E) (hc : X.calm = true) (hg : Gl X x) (hm : X.mg x = some (.ref C)) (hC : XClsI X.K C f) (ha : PA X (e :: es) t) (hdb : (x == ("__debug__" : Str)) = false := by decide)
    (hs : starEach (e :: es) X.env = (false, eval e X.env) :: starEach es X.env := by rfl) (hpl : (backTo cpos (starEach es X.env)).any (·.1) = false := by rfl) :
    PS X (.Raise (some (.Call (.Name x np) (e :: es) [] cpos)) none pos) (tRaiseI E C sp t) := by
  intro pins s σ H D I h
  obtain ⟨bm, mN, hI, hni⟩ := hC.1 X.base I.ok.mod.kin
  obtain ⟨of, lf, cf⟩ := hC.2
  rw [arm_exec_Raise]
  simp only [evalOpt, Option.map]
  refine wpAny_bind (wpAny_standAt (raise_there (I.ok.hd hc) (wpAny_bind (wpAny_mono (wpAny_Call_ofName (ld_glob I hg hm ?_ hdb)) (fun v s₃ h₃ => wpAny_bind (wpAny_standAt (wpAny_pure h₃))) fun _ _ x => x))))
  unfold callWith
  have ha' := ha cpos pins s σ H _ I h
  rw [hs] at ha' ⊢
  refine wpAny_bind (wpAny_holding (PySem.Calls.evalArgs_plain (thn ha' fun us s1 ⟨vs, H1, I1, r, hl, q1⟩ => wpAny_bind (wpAny_standAt ?_))))
  have hI1 := hI.keeps I1.bk
  obtain ⟨nm, q, N, bs, hdct, sn, sub, ab, col, dd, k0, k1, k2, k3, k5, c1, c2, c3⟩ := id hI1
  obtain ⟨hp, g, d, tk, os⟩ := s1
  have hpl2 : ((backTo cpos ((false, eval e X.env) :: starEach es X.env)).any (·.1)) = false := hpl
  simp only [hpl2, List.any_nil, Bool.or_false]
  refine wpAny_bind (wpAny_keeperOf_exc c1 ?_)
  rw [List.nil_append]
  refine wpAny_bind (call_init hI1 hni (I1.kIn _ _ lf) cf (by rw [← r.length]; exact hl) fun h' ea m => ?_)
  obtain ⟨t0, he, _, ht⟩ := m.there
  have hn := I1.hok.newAt m.new
  have J := I1.laidN (o := ExcO ea (.ref C) none none) (t' := tk) m.keeps m.new (exc_mk ⟨_, _, he, rfl, rfl⟩)
  have q2 := q1 ea hn
  have r2 : Vals (V.ref ea :: vs) (Value.ref ea :: us) := .cons rfl r
  have hlen : (Value.ref ea :: us).length = ps.length := by rw [← r2.length]; exact F.len _ _ _ _ q2
  have hbd := hb _ (Value.ref ea :: us) J.kIn (by rw [List.append_nil]; exact hlen)
  rw [List.append_nil] at hbd
  refine wpAny_call (codeAny_mono (F.run _ X.stack _ _ ⟨Value.ref ea :: us, []⟩ (Value.ref ea :: us) (V.ref ea :: vs) _ E0 (hr.make C us []) (J.env0.make C us []) hbd r2 q2) fun r' s' hq => ?_)
  rcases r' with _ | (_ | _ | _ | u) <;> try exact False.elim hq
  obtain ⟨v2, H2, J2, rv2, rfl, dd2, h2e, hdn, s12, qE⟩ := J.after hq
  refine ⟨rv2, wpAny_bind (wpAny_holding (wpAny_point (wpAny_pure ?_)))⟩
  obtain ⟨vs2, sl2, he2, _, h12⟩ := exc_get J2.hok h2e
  refine ⟨ea, C, bm, mN, dd2, vs2, sl2, rfl, hI.keeps J2.bk, he2, h12, ?_⟩
  refine hx pins σ H2 s' ea (.ref C) dd2 none J2 ⟨h2e, fun t z => nomatch z⟩ fun T'' H'' S Fy => qE H'' (Xtd.step (T := none) hn (fun t z => nomatch z) s12 S Fy) fun d o hd ho => S.1 d o ho (hdn d hd) fun z => nomatch z
end
section
variable {X : Cx} {C : Addr} {nm : Str} {o : Expr} {ta : TE} {pos : Pos}
theorem pe_xfld (ha : PE X o ta) (hb : attributeBase o nm X.env (eval o X.env) = eval o X.env := by rfl) : PE X (.Attribute o nm pos) (tXFld X.K ta nm) := by
  intro pins s σ H Q I h
  refine attr_of hb (thn (ha pins s σ H _ I h) fun u s1 ⟨x, H1, I1, rx, e, C, d, T, fs, y, ex, he, hd, G, hf, hD, hl, q⟩ => ?_)
  subst ex
  cases (show u = Value.ref e from rx)
  obtain ⟨vs, sl, z, _⟩ := exc_get I1.hok he
  obtain ⟨mA, ⟨od, es, ep, h1, h2, h3, h4, h5⟩, h6⟩ := (show ObjOk X.prog X.w H1 s1.heap d (.xd fs) from I1.hok d _ hd)
  have h7 := h6 nm
  rw [hl] at h7
  obtain ⟨v, hv, rv⟩ : ∃ v, mA nm = some v ∧ RelV y v := by
    cases hm : mA nm with
    | none => rw [hm] at h7; exact h7.elim
    | some v => rw [hm] at h7; exact ⟨v, rfl, h7⟩
  obtain ⟨cd, hcd, hdct⟩ := any_some hD
  have hk : lookIn nm od = some (some v) := by
    have h8 := h5 nm
    rw [hv] at h8
    unfold nsFind findBy at h8
    unfold lookIn
    rw [h2]
    rw [← Array.find?_toList] at h8
    cases hq : es.toList.find? (·.key.isStr nm) with
    | none => rw [hq] at h8; cases h8
    | some en =>
      rw [hq] at h8
      simp only [Option.map_some, Option.some.injEq] at h8
      subst h8
      show (match es.toList.find? (·.key.isStr nm) with | some e => _ | none => _) = _
      rw [hq]
  have hfo : findObj X.K C (some od) nm = some (.value v) := by
    unfold findObj
    rw [hcd, Option.bind_some, hf, Option.bind_some]
    have ho : PySem.W.ownOf cd (some od) nm = some (some v) := by unfold PySem.W.ownOf; rw [if_pos hdct]; exact hk
    simp [ho]
  have Ia : PySem.W.InstAt s1.heap e ⟨.ref C, some d, .fields vs, sl⟩ C (some od) := ⟨z, rfl, rfl, h1⟩
  refine xget_own I1.kIn Ia G hfo ?_ ⟨y, H1, I1.tok _, rv, q⟩
  cases y <;> first | (cases rv; rfl) | (obtain ⟨tk, rfl⟩ := rv; rfl)
end
structure XIni (K : PySem.W.Frag) (B : Addr) : Prop where
  ga : specialIn K (.ref B) "__getattribute__" = some (some (.builtin "type.__getattribute__"))
  rd : readsIn K B (.type "type") = true
  fi : findCls K (.ref B) (.type "type") "__init__" = some (.val (.builtin "ValueError.__init__"))
noncomputable def tXIni (C : Addr) (t : TA) : TE := fun σ H Q => t σ H fun vs H1 => ∃ e v dd T, vs = [.ref e, v] ∧ H1 e = some (ExcO e (.ref C) dd T) ∧ Q .non H1
section
variable {X : Cx} {B C : Addr} {x : Str} {np apos pos : Pos} {e1 : Expr} {es : List Expr} {t : TA} {pl : Sem Bool}
theorem pe_xini (hB : XIni X.K B) (hg : Gl X x) (hm : X.mg x = some (.ref B)) (hC : XC X.K C) (ha : PA X (e1 :: es) t) (hdb : (x == ("__debug__" : Str)) = false := by decide)
    (hs : starEach (e1 :: es) X.env = (false, eval e1 X.env) :: starEach es X.env := by rfl) (hpl : (backTo pos (starEach es X.env)).any (·.1) = false := by rfl)
    (ht : eval (.Call (.Attribute (.Name x np) "__init__" apos) (e1 :: es) [] pos) X.env = (do
      let ov ← eval (.Name x np) X.env
      standAt apos.atName
      let (f, first) ← holding [ov] (getMethod ov "__init__" pl)
      callWith pos f first (backTo pos (starEach (e1 :: es) X.env)) (backToKw pos (keywordEach [] X.env))) := by rfl) :
    PE X (.Call (.Attribute (.Name x np) "__init__" apos) (e1 :: es) [] pos) (tXIni C t) := by
  intro pins s σ H Q I h
  refine PySem.W.methodCall_KW (pl := pl) (ld_glob I hg hm ?_ hdb) ht
  refine method_cls I.kIn hB.ga (cls_value I.kIn hB.rd hB.fi (by decide +kernel) ?_)
  show wpAny _ _ (callWith pos (.builtin "ValueError.__init__") [] (backTo pos (starEach (e1 :: es) X.env)) []) _ _ _
  refine callWith_builtin1 (thn (ha pos pins _ σ H _ (I.tok _) h) fun us s1 ⟨vs, H1, I1, r, e, v, dd, T, ev, he, q⟩ => ?_) hs hpl
  subst ev
  obtain ⟨u1, u2, rfl, r1, r2⟩ := vals2 r
  cases (show u1 = Value.ref e from r1)
  obtain ⟨vs, sl, hx, hz, h1⟩ := exc_get I1.hok he
  obtain ⟨bm, mN, nm, q', N, bs, hdct, sn, sub, ab, col, dd', k0, k1, k2, k3, k5, c1, c2, c3⟩ := hC s1.heap I1.kIn
  obtain ⟨hp, g, d, tk, os⟩ := s1
  have FV := PySem.F.excBase_ValueError
  refine wpAny_call (codeAny_call_builtin FV.init.plain FV.initEntry (wpAny_check_init_subT FV c3 c1 hx rfl ?_))
  unfold Builtin.«BaseException.__init__»
  dsimp only
  rw [if_neg (by simp)]
  unfold newTuple Builtin.BaseException.bexcPut
  have z0 : 0 < vs.size := by rw [hz]; decide
  have hx1 := Heap.get?_push_of_some (h := hp) { cls := .type "tuple", data := .seq [u2].toArray } hx
  refine wpAny_bind (wpAny_newObj_type (wpAny_bind (wpAny_bind (wpAny_field hx1 rfl (Array.getElem?_eq_getElem z0) (wpAny_bind (wpAny_setField hx1 rfl z0 ?_))))) (by size_fits))
  have J := I1.write (o := ExcO e (.ref C) dd T) (t' := tk) (x := e) (e := e) (h' := (hp.push { cls := .type "tuple", data := .seq [u2].toArray }).update e (Obj.mapFields (·.setIfInBounds 0 (.ref hp.objs.size)))) (by rw [he]; trivial) (.inl rfl)
    (fun b u n z => by rw [Heap.get?_update_other _ _ (Ne.symm n)]; exact Heap.get?_push_of_some _ z) ⟨_, Heap.get?_update_self _ hx1 rfl⟩
    (exc_mk ⟨vs.setIfInBounds 0 (.ref hp.objs.size), sl, by rw [Heap.get?_update_self _ hx1 rfl]; rfl, by simp [hz], by rw [Array.getElem?_setIfInBounds_ne (by decide)]; exact h1⟩)
  have e0 : upd H1 e (ExcO e (.ref C) dd T) = H1 := by
    funext b
    by_cases hb : b = e
    · subst hb; rw [upd_same, he]
    · rw [upd_ne hb]
  rw [e0] at J
  generalize vs[0] = v0
  cases v0 <;> first | exact wpAny_letGo (wpAny_pure ⟨.non, H1, J, rfl, q⟩) | exact wpAny_pure (wpAny_pure ⟨.non, H1, J, rfl, q⟩)
end
end L2
set_option Elab.async false
set_option linter.all false
set_option maxRecDepth 100000
set_option maxHeartbeats 4000000
namespace L2
open PySem PySem.Spec PyProof.Rows Ken
section
variable {X : Cx}
noncomputable def rSubS (P : Program) (w : World) : R2 := fun x y H Q => ∃ (a b : Addr) (xs ys : List Str), x = .ref a ∧ y = .ref b ∧ H a = some (setO P w a xs) ∧ H b = some (setO P w b ys) ∧ xs.length / 4 ≤ ys.length ∧ xs.length < 900 ∧
  ∀ r zs, H r = none → (∀ z, z ∈ zs ↔ z ∈ xs ∧ ¬ z ∈ ys) → Q (.ref r) (upd H r (setO P w r zs))
theorem op_subS {P : Program} {w : World} (hP : X.prog = P) (hw : X.w = w) : OpR X (binaryOp .Sub) (rSubS P w) := by
  subst hP hw
  intro pins s σ H x y v u Q I rx ry h
  obtain ⟨a, b, xs, ys, rfl, rfl, ha, hb, h1, h2, q⟩ := h
  cases rx; cases ry
  have sa := setO_at I.hok ha
  have sb := setO_at I.hok hb
  refine wpAny_binaryOp_same (set_type sa) (set_type sb) F.fills_set_sub F.slot_set_sub (call_subS sa sb h1 h2 fun r h' d t' zs hr hk st hz => ⟨fun z => Value.noConfusion z, ?_⟩)
  have hl : H r = none := I.hok.newAt hr
  have J := I.laidN (t' := t') hk hr (setO_ok (H := upd H r (setO X.prog X.w r zs)) st)
  exact ⟨.ref r, _, Inv.call (s := { s with heap := h', toks := t' }) (g' := s.gens) (t' := t') (d' := d) (ch := []) J Un.refl J.hok I.bare (fun b z => absurd z (by simp)), rfl, q r zs hl hz⟩
noncomputable def rLenS (P : Program) (w : World) : List V → Hp → VK → Prop := fun vs H Q => ∃ (a : Addr) (xs : List Str), vs = [.ref a] ∧ H a = some (setO P w a xs) ∧ Q (.int xs.length) H
theorem call_lenS {P : Program} {w : World} (hP : X.prog = P) (hw : X.w = w) : CallR X (.builtin "len") (rLenS P w) := by
  subst hP hw
  intro pins s σ H vs us Q I r h
  obtain ⟨a, xs, rfl, ha, q⟩ := h
  obtain ⟨u, rfl, ru⟩ := vals1 r
  cases ru
  obtain ⟨o, es, ep, t, ys, h1, h2, h3, h4, h5, h6, h7, h8, h9, h10, h11⟩ := setO_at I.hok ha
  have e : es.size = xs.length := by rw [← Array.length_toList, Paired.length h5, h6.length_eq]
  refine call_len_set h1 h2 h3 h9 (by have : scanBound ≤ 2 ^ 40 := by decide
                                      omega) ?_
  rw [e]
  exact ⟨.int xs.length, H, I.tok _, ⟨_, rfl⟩, q⟩
noncomputable def tFi (te : TE) (t : TF) : TF := fun out σ H Q => te σ H fun v H1 => ∃ i : Int, v = .int i ∧ i.natAbs.log2 < 1920 ∧ (out ++ Str.ofString (toString i)).length ≤ sizeLine ∧ t (out ++ Str.ofString (toString i)) σ H1 Q
theorem pf_valI {e : Expr} {te : TE} {pos : Pos} {es : List Expr} {t : TF} (he : PE X e te) (h : PF X es t) (hs : evalEach (.FormattedValue e (-1) none pos :: es) X.env = eval (.FormattedValue e (-1) none pos) X.env :: evalEach es X.env := by rfl) : PF X (.FormattedValue e (-1) none pos :: es) (tFi te t) := by
  intro out pins s σ H Q I hw
  rw [hs]
  refine joinParts_cons (FormattedValue_plain (thn (he pins s σ H _ I hw) fun v s1 ⟨x, H1, I1, r1, q1⟩ => ?_))
  obtain ⟨i, rfl, hy, hz, q⟩ := q1
  obtain ⟨tk, rfl⟩ := r1
  exact wpAny_formatField_int hy ⟨hz, h _ pins _ σ H1 Q (I1.tok _) q⟩
end
end L2
set_option Elab.async false
set_option linter.all false
set_option maxRecDepth 100000
set_option maxHeartbeats 4000000
namespace L2
open PySem PySem.Spec PyProof.Rows Ken
section
variable {X : Cx}
noncomputable def rMinL (K : PySem.W.Frag) : List V → Hp → VK → Prop := fun vs H Q => ∃ a : Addr, vs = [.ref a] ∧ ((∃ i, SqL K H a [.int i] ∧ Q (.int i) H) ∨ ∃ i j, SqL K H a [.int i, .int j] ∧ Q (.int (if j < i then j else i)) H)
theorem call_minL (hc : X.calm = true) : CallR X (.builtin "min") (rMinL X.K) := by
  intro pins s σ H vs us Q I r h
  obtain ⟨a, rfl, h⟩ := h
  obtain ⟨u, rfl, ru⟩ := vals1 r
  cases ru
  rcases h with ⟨i, hq, q⟩ | ⟨i, j, hq, q⟩
  · obtain ⟨its, rv, pl, hz⟩ := I.list hq
    obtain ⟨u1, rfl, t1, rfl⟩ := vals1 rv
    refine min_intList (xs := #[(i, t1)]) (I.ok.hd hc) (by rw [show intItems #[(i, t1)] = #[Value.int i t1] by simp [intItems]]; exact pl.isList) (by simp) fun v h' tk hv k => ?_
    rw [show intItems #[(i, t1)] = #[Value.int i t1] by simp [intItems]] at hv
    have e : v = .int i t1 := by
      have : some v = some (Value.int i t1) := hv.symm
      cases this; rfl
    subst e
    exact ⟨.int i, H, I.kept k, ⟨_, rfl⟩, q⟩
  · obtain ⟨its, rv, pl, hz⟩ := I.list hq
    obtain ⟨u1, u2, rfl, ⟨t1, rfl⟩, t2, rfl⟩ := vals2 rv
    refine min_intList (xs := #[(i, t1), (j, t2)]) (I.ok.hd hc) (by rw [show intItems #[(i, t1), (j, t2)] = #[Value.int i t1, Value.int j t2] by simp [intItems]]; exact pl.isList) (by simp) fun v h' tk hv k => ?_
    rw [show intItems #[(i, t1), (j, t2)] = #[Value.int i t1, Value.int j t2] by simp [intItems]] at hv
    refine ⟨.int (if j < i then j else i), H, I.kept k, ?_, q⟩
    have e : #[Value.int i t1, Value.int j t2][if decide (j < i) = true then 1 else 0]? = some v := hv
    by_cases hj : j < i
    · rw [if_pos hj]
      rw [if_pos (decide_eq_true hj)] at e
      have : some v = some (Value.int j t2) := e.symm
      cases this; exact ⟨_, rfl⟩
    · rw [if_neg hj]
      rw [if_neg (by simpa using hj)] at e
      have : some v = some (Value.int i t1) := e.symm
      cases this; exact ⟨_, rfl⟩
end
end L2
set_option Elab.async false
set_option linter.all false
set_option maxRecDepth 100000
set_option maxHeartbeats 4000000
namespace Ken
open PySem L2 PyProof.Rows
noncomputable def wendL : Nat → List Nat → Nat
  | 0, _ => 0
  | _ + 1, [] => 0
  | n + 1, c :: r => if 97 ≤ c ∧ c ≤ 122 then wendL n r + 1 else 0
noncomputable def isW (x : Str) : Bool := decide (x ≠ Str.empty) && decide (((wendL 8 x.cps.toList : Nat) : Int) = (x.length : Int))
theorem wendL_all : ∀ {n : Nat} {l : List Nat}, (∀ c ∈ l, 97 ≤ c ∧ c ≤ 122) → l.length ≤ n → wendL n l = l.length
  | 0, [], _, _ => rfl
  | n + 1, [], _, _ => rfl
  | n + 1, c :: r, h, hl => by
    show (if 97 ≤ c ∧ c ≤ 122 then wendL n r + 1 else 0) = _
    rw [if_pos (h c List.mem_cons_self), wendL_all (fun d hd => h d (List.mem_cons_of_mem _ hd)) (by rw [List.length_cons] at hl; omega), List.length_cons]
theorem isW_word {x : Str} (h : Word x) : isW x = true := by
  have l := len_cps x
  have e : wendL 8 x.cps.toList = x.length := by rw [wendL_all h.2.2 h.2.1, l]
  unfold isW
  rw [e, decide_eq_true rfl, decide_eq_true (show x ≠ Str.empty from fun z => by subst z; have := h.1; revert this; decide)]; rfl
noncomputable def lettersB (ws : List Str) : Bool := ws.all isW && (sortedS ws && decide ws.Nodup)
theorem sortset {ws ys : List Str} (hp : List.Perm ys (metS ws ws.length)) (hs : sortedS ys = true) : (ys = ws) ↔ (sortedS ws = true ∧ ws.Nodup) := by
  have nd : ys.Nodup := hp.nodup_iff.mpr (metS_nodup _)
  constructor
  · rintro rfl; exact ⟨hs, nd⟩
  · rintro ⟨h1, h2⟩
    refine sorted_uniq hs nd h1 h2 fun x => ?_
    rw [hp.mem_iff, metS_mem x _ (Nat.le_refl _), List.take_length]
noncomputable abbrev Xd := Option Int × List Str
noncomputable def iV : Option Int → V
  | none => .non
  | some i => .int i
noncomputable def iD : Option Int → PyData
  | none => .none
  | some i => .int i
noncomputable def AtX (K : PySem.W.Frag) (H : Hp) (v : V) (x : Xd) : Prop := ∃ p q, v = .ref p ∧ SqT K H p [iV x.1, .ref q] ∧ H q = some (.lst (x.2.map V.str))
theorem AtX.keep {K : PySem.W.Frag} {H H' : Hp} (e : Same H H') {v : V} {x : Xd} (h : AtX K H v x) : AtX K H' v x := by
  obtain ⟨p, q, rfl, h1, h2⟩ := h
  exact ⟨p, q, rfl, e.sqt h1, e _ _ h2⟩
noncomputable abbrev AtXs (K : PySem.W.Frag) (H : Hp) : List V → List Xd → Prop := Paired (AtX K H)
theorem AtXs.keep {K : PySem.W.Frag} {H H' : Hp} (e : Same H H') {vs : List V} {ws : List Xd} (h : AtXs K H vs ws) : AtXs K H' vs ws := Paired.mapP h fun _ _ q => q.keep e
noncomputable def toX (x : Wd) : Xd := (x.1.map (fun n => ((n : Nat) : Int)), x.2)
theorem toX_v (x : Wd) : iV (toX x).1 = bV x.1 := by obtain ⟨_ | j, l⟩ := x <;> rfl
theorem AtW.toX {K : PySem.W.Frag} {H : Hp} {v : V} {x : Wd} (h : AtW K H v x) : AtX K H v (Ken.toX x) := by
  obtain ⟨p, q, rfl, h1, h2⟩ := h
  exact ⟨p, q, rfl, by rw [toX_v]; exact h1, h2⟩
theorem AtWs.toX {K : PySem.W.Frag} {H : Hp} : ∀ {vs : List V} {ws : List Wd}, AtWs K H vs ws → AtXs K H vs (ws.map Ken.toX)
  | _, _, .nil => .nil
  | _, _, .cons h t => .cons h.toX (AtWs.toX t)
noncomputable def xdD (x : Xd) : PyData := .tuple [iD x.1, .list (x.2.map PyData.str)]
theorem iD_dn {K : PySem.W.Frag} {H : Hp} (b : Option Int) : Dn K H (iV b) (iD b) := by
  cases b
  · show Dn K H .non .none; rw [Dn]
  · show Dn K H (.int _) (.int _); rw [Dn]
theorem AtX.dn {K : PySem.W.Frag} {H : Hp} {v : V} {x : Xd} (h : AtX K H v x) : Dn K H v (xdD x) := by
  obtain ⟨p, q, rfl, h1, h2⟩ := h
  show Dn K H (.ref p) (.tuple [iD x.1, .list (x.2.map PyData.str)])
  rw [Dn]
  refine ⟨p, _, rfl, h1, ?_⟩
  rw [DnAll]
  refine ⟨_, _, rfl, iD_dn _, ?_⟩
  rw [DnAll]
  refine ⟨_, _, rfl, ?_, by rw [DnAll]⟩
  rw [Dn]
  exact ⟨q, _, rfl, SqL.of h2, strs_dn _⟩
theorem xds_dn {K : PySem.W.Frag} {H : Hp} : ∀ {vs : List V} {ws : List Xd}, AtXs K H vs ws → DnAll K H vs (ws.map xdD)
  | _, _, .nil => by show DnAll K H [] []; rw [DnAll]
  | _, _, .cons h t => by
    rw [List.map_cons, DnAll]
    exact ⟨_, _, rfl, h.dn, xds_dn t⟩
structure OkX (x : Xd) : Prop where
  len : x.2.length ≤ 7
  wd : ∀ y ∈ x.2, y.length ≤ 9 ∧ (PyData.str y).canLay0 = true
theorem xd_lay {x : Xd} (h : OkX x) : (xdD x).canLay0 = true := by
  show ((iD x.1).canLay0 && ((PyData.list (x.2.map PyData.str)).canLay0 && true)) = true
  have h1 : (iD x.1).canLay0 = true := by cases x.1 <;> rfl
  have h2 : (PyData.list (x.2.map PyData.str)).canLay0 = true := canLay_list fun d hd => by
    obtain ⟨y, hy, rfl⟩ := List.mem_map.mp hd
    exact (h.wd y hy).2
  rw [h1, h2]; rfl
theorem xds_lay {ws : List Xd} (h : ∀ x ∈ ws, OkX x) : (PyData.list (ws.map xdD)).canLay0 = true := canLay_list fun d hd => by
  obtain ⟨x, hx, rfl⟩ := List.mem_map.mp hd
  exact xd_lay (h x hx)
theorem xd_self (x : Xd) : PyData.eqv (xdD x) (xdD x) = true := by
  refine eqvAll_self (ds := [iD x.1, .list (x.2.map PyData.str)]) fun d hd => ?_
  simp only [List.mem_cons, List.not_mem_nil, or_false] at hd
  rcases hd with rfl | rfl
  · cases x.1 with
    | none => rfl
    | some j => show ((j : Int) == (j : Int)) = true; simp
  · refine eqvAll_self fun d hd => ?_
    obtain ⟨y, _, rfl⟩ := List.mem_map.mp hd
    exact str_self y
theorem xds_self (ws : List Xd) : PyData.eqv (.list (ws.map xdD)) (.list (ws.map xdD)) = true := eqvAll_self fun d hd => by
  obtain ⟨x, _, rfl⟩ := List.mem_map.mp hd
  exact xd_self x
noncomputable def oldX (xs : List Xd) (j : Nat) : List Str := match xs[j]? with
  | none => []
  | some y => y.2
noncomputable def goodE (old : Nat → List Str) (n : Nat) (x : Xd) : Bool := lettersB x.2 && (if n = 0 then x.1.isNone else match x.1 with
  | none => false
  | some b => (decide (0 ≤ b) && decide (b < (n : Int))) && (old b.toNat).all fun y => decide (y ∈ x.2))
noncomputable def goodX (xs : List Xd) (n : Nat) : Bool := match xs[n]? with
  | none => false
  | some x => goodE (oldX xs) n x
noncomputable def szE (old : Nat → List Str) (n : Nat) (x : Xd) : Prop := ∀ b : Int, x.1 = some b → 0 ≤ b → b < (n : Int) → (old b.toNat).length ≤ 3 ∨ x.2 ≠ []
noncomputable def szX (xs : List Xd) (n : Nat) : Prop := ∀ x, xs[n]? = some x → szE (oldX xs) n x
noncomputable def AG (xs : List Xd) : Prop := xs ≠ [] ∧ ∀ n, n < xs.length → goodX xs n = true
noncomputable def FB (xs : List Xd) (n : Nat) : Prop := (xs = [] ∧ n = 0) ∨ (n < xs.length ∧ goodX xs n = false ∧ ∀ m, m < n → goodX xs m = true)
noncomputable def XsOk (xs : List Xd) : Prop := xs.length ≤ 24 ∧ (∀ x ∈ xs, OkX x) ∧ ∀ n, (∀ m, m < n → goodX xs m = true) → szX xs n
noncomputable def sp_we0 : Sp := fun vs H Q _ => ∃ x : Str, vs = [.str x, .int 0] ∧ x.length ≤ 1000 ∧ Q (.int ((wendL 8 x.cps.toList : Nat) : Int)) H
noncomputable def sp_isw : Sp := fun vs H Q _ => ∃ x : Str, vs = [.str x] ∧ x.length ≤ 1000 ∧ Q (.bl (isW x)) H
noncomputable def sp_letW (K : PySem.W.Frag) : Sp := fun vs H Q _ => ∃ (a : Addr) (ws : List Str), vs = [.ref a] ∧ SqL K H a (ws.map V.str) ∧ ws.length ≤ 40 ∧ (∀ y ∈ ws, y.length ≤ 9 ∧ (PyData.str y).canLay0 = true) ∧ ∀ H', Same H H' → Q (.bl (lettersB ws)) H'
noncomputable def sp_good (K : PySem.W.Frag) : Sp := fun vs H Q _ => ∃ (a : Addr) (n : Nat) (us : List V) (xs : List Xd), vs = [.ref a, .int (n : Nat)] ∧ H a = some (.lst us) ∧ AtXs K H us xs ∧ n < xs.length ∧ (∀ x ∈ xs, OkX x) ∧ szX xs n ∧ ∀ H', Same H H' → Q (.bl (goodX xs n)) H'
noncomputable def sp_xinit (C : Addr) : Sp := fun vs H Q _ => ∃ (e : Addr) (i : Nat) (T : Option Addr), vs = [.ref e, .int (i : Nat)] ∧ i < 24 ∧ H e = some (ExcO e (.ref C) none T) ∧ ∀ d, H d = none → d ≠ e → Q .non (upd (upd H d (.xd [("world", .int (i : Nat))])) e (ExcO e (.ref C) (some d) T))
noncomputable def sp_look (K : PySem.W.Frag) (C : Addr) : Sp := fun vs H Q E => ∃ (a : Addr) (us : List V) (xs : List Xd), vs = [.ref a] ∧ H a = some (.lst us) ∧ AtXs K H us xs ∧ XsOk xs ∧ (AG xs → ∀ H', Same H H' → Q (.bl true) H') ∧
  ∀ n, FB xs n → ∀ e d H', Xtd H e (.ref C) (some d) H' → H' d = some (.xd [("world", .int (n : Nat))]) → E (.ref e) (some d) H'
noncomputable def sp_copyX (K : PySem.W.Frag) : Sp := fun vs H Q _ => ∃ (a : Addr) (xs : List V) (ws : List Xd), vs = [.ref a] ∧ H a = some (.lst xs) ∧ AtXs K H xs ws ∧ ws.length ≤ 1000 ∧
  ∀ (r : Addr) (H' : Hp) (ys : List V), Same H H' → H r = none → H' r = some (.lst ys) → AtXs K H' ys ws → Q (.ref r) H'
noncomputable def dueV (n : Nat) : List V := [.int (n : Nat), .bl true, .bl true, .bl false, .bl false]
noncomputable def sp_ask (K : PySem.W.Frag) : Sp := fun vs H Q _ => ∃ (a : Addr) (us : List V) (xs : List Xd), vs = [.ref a] ∧ H a = some (.lst us) ∧ AtXs K H us xs ∧ XsOk xs ∧ (AG xs → ∀ r H', Same H H' → H' r = some (.lst [.bl true]) → Q (.ref r) H') ∧
  ∀ n, FB xs n → ∀ r H', Same H H' → H' r = some (.lst (dueV n)) → Q (.ref r) H'
noncomputable def badB (w : Nat) (b : Option Int) : Prop := (w = 0 → b ≠ none) ∧ (0 < w → ∀ i, b = some i → ¬ (0 ≤ i ∧ i < (w : Int)))
noncomputable def sp_bb : Sp := fun vs H Q _ => ∃ (w : Nat) (c : Int), vs = [.int (w : Nat), .int c] ∧ w < 24 ∧ 0 ≤ c ∧ ∀ b H', Same H H' → badB w b → Q (iV b) H'
noncomputable def sp_bwd : Sp := fun vs H Q _ => ∃ c : Int, vs = [.int c] ∧ 0 ≤ c ∧ ∀ x H', Same H H' → isW x = false → x.length ≤ 9 → (PyData.str x).canLay0 = true → Q (.str x) H'
noncomputable def badW (ws os out : List Str) : Prop := (lettersB out = false ∧ out ≠ []) ∨ ∃ z ∈ os, ¬ z ∈ out ∧ ∀ y ∈ ws, y ≠ z → y ∈ out
structure OkW (ws : List Str) : Prop where
  srt : sortedS ws = true
  nd : ws.Nodup
  len : ws.length ≤ 6
  wd : ∀ y ∈ ws, Word y
noncomputable def sp_bws (K : PySem.W.Frag) : Sp := fun vs H Q _ => ∃ (wa oa : Addr) (ws os : List Str) (c : Int), vs = [.ref wa, .ref oa, .int c] ∧ SqL K H wa (ws.map V.str) ∧ SqL K H oa (os.map V.str) ∧ OkW ws ∧ os.length ≤ 7 ∧ (∀ y ∈ os, y.length ≤ 9 ∧ (PyData.str y).canLay0 = true) ∧ 0 ≤ c ∧
  ∀ r H' out b, Same H H' → H r = none → H' r = some (.lst (out.map V.str)) → OkX (b, out) → badW ws os out → Q (.ref r) H'
noncomputable def badE (old : Nat → List Str) (w : Nat) (x y : Xd) : Prop := (y.2 = x.2 ∧ badB w y.1) ∨ (y.1 = x.1 ∧ ∃ os, badW x.2 os y.2 ∧ (w = 0 → os = []) ∧ ∀ j : Nat, x.1 = some (j : Int) → 0 < w → os = old j)
noncomputable def sp_spl (K : PySem.W.Frag) : Sp := fun vs H Q _ => ∃ (a : Addr) (w : Nat) (c : Int) (us : List V) (xs : List Xd) (x : Xd), vs = [.ref a, .int (w : Nat), .int c] ∧ H a = some (.lst us) ∧ AtXs K H us xs ∧ xs.length ≤ 24 ∧ (∀ x ∈ xs, OkX x) ∧ xs[w]? = some x ∧ OkW x.2 ∧ (w = 0 → x.1 = none) ∧ (0 < w → ∃ j : Nat, x.1 = some (j : Int) ∧ j < w) ∧ 0 ≤ c ∧
  ∀ r H' us' y, Same H H' → H r = none → H' r = some (.lst us') → AtXs K H' us' (xs.set w y) → OkX y → badE (oldX xs) w x y → Q (.ref r) H'
end Ken
set_option Elab.async false
set_option linter.all false
set_option maxRecDepth 100000
set_option maxHeartbeats 4000000
namespace Ken
open PySem L2 PyProof.Rows
noncomputable def inWq (us : List Str) (ws : List Wd) : Prop := ∀ x ∈ ws, (x.2.Nodup ∧ sortedS x.2 = true) ∧ ∀ y ∈ x.2, y ∈ us
noncomputable def sp_someQ (K : PySem.W.Frag) : Sp := fun vs H Q _ => ∃ (c : Int) (a wa : Addr) (os ws : List Str), vs = [.int c, .ref a, .ref wa] ∧ SqL K H a (os.map V.str) ∧ SqL K H wa (ws.map V.str) ∧ Words ws ∧ os.Nodup ∧ (∀ y ∈ os, y ∈ ws) ∧
  ∀ (r : Addr) (H' : Hp) (out : List Str), Same H H' → H r = none → H' r = some (.lst (out.map V.str)) → (out.Nodup ∧ sortedS out = true) → (∀ y ∈ out, y ∈ ws) → (∀ y ∈ os, y ∈ out) → Q (.ref r) H'
noncomputable def sp_worldsQ (K : PySem.W.Frag) : Sp := fun vs H Q _ => ∃ (a : Addr) (ns : List Int) (start most : Int) (wa : Addr) (us : List Str), vs = [.ref a, .int start, .int most, .ref wa] ∧ SqL K H a (ns.map V.int) ∧ ns.length ≤ 63 ∧ 0 ≤ start ∧ start ≤ 100 ∧ 1 ≤ most ∧ most ≤ 100 ∧ SqL K H wa (us.map V.str) ∧ Words us ∧
  ∀ (r : Addr) (H' : Hp) (vs : List V) (ws : List Wd), Same H H' → H r = none → H' r = some (.lst vs) → AtWs K H' vs ws → goodB ws → persB ws → inWq us ws → 1 ≤ ws.length → (ws.length : Int) ≤ most → Q (.ref r) H'
noncomputable def AtXn (K : PySem.W.Frag) (H : Hp) (acc : Addr) (v : V) (x : Xd) : Prop := ∃ p q, q ≠ acc ∧ v = .ref p ∧ SqT K H p [iV x.1, .ref q] ∧ H q = some (.lst (x.2.map V.str))
theorem AtXn.at {K : PySem.W.Frag} {H : Hp} {acc : Addr} {v : V} {x : Xd} (h : AtXn K H acc v x) : AtX K H v x := by
  obtain ⟨p, q, _, e, h1, h2⟩ := h
  exact ⟨p, q, e, h1, h2⟩
theorem AtXn.keep {K : PySem.W.Frag} {H H' : Hp} {acc : Addr} (e : Same H H') {v : V} {x : Xd} (h : AtXn K H acc v x) : AtXn K H' acc v x := by
  obtain ⟨p, q, n, rfl, h1, h2⟩ := h
  exact ⟨p, q, n, rfl, e.sqt h1, e _ _ h2⟩
theorem AtXn.write {K : PySem.W.Frag} {H : Hp} {acc : Addr} {ys : List V} {o : HO} (ha : H acc = some (.lst ys)) {v : V} {x : Xd} (h : AtXn K H acc v x) : AtXn K (upd H acc o) acc v x := by
  obtain ⟨p, q, n, rfl, h1, h2⟩ := h
  exact ⟨p, q, n, rfl, keepT_lst ha _ _ h1, by rw [upd_ne n]; exact h2⟩
end Ken
set_option Elab.async false
set_option linter.all false
set_option maxRecDepth 100000
set_option maxHeartbeats 4000000
namespace Ken
open PySem L2 PyProof.Rows
theorem strs_eqvA : ∀ ys ws : List Str, PyData.eqvAll (ys.map PyData.str) (ws.map PyData.str) = decide (ys = ws)
  | [], [] => rfl
  | [], _ :: _ => rfl
  | _ :: _, [] => rfl
  | y :: ys, w :: ws => by
    show (PyData.eqv (.str y) (.str w) && PyData.eqvAll (ys.map PyData.str) (ws.map PyData.str)) = _
    rw [strs_eqvA ys ws, show PyData.eqv (.str y) (.str w) = decide (y = w) from rfl, ← Bool.decide_and]
    exact decide_eq_decide.mpr (by rw [List.cons.injEq])
theorem strs_eqv (ys ws : List Str) : PyData.eqv (.list (ys.map PyData.str)) (.list (ws.map PyData.str)) = decide (ys = ws) := strs_eqvA ys ws
theorem strs_dep (L : List Str) : (PyData.list (L.map PyData.str)).depth ≤ 1 := depth_list (n := 0) fun d hd => by
  obtain ⟨n, _, rfl⟩ := List.mem_map.mp hd
  exact Nat.le_refl _
theorem strs_ly {L : List Str} (h : ∀ y ∈ L, (PyData.str y).canLay0 = true) : (PyData.list (L.map PyData.str)).canLay0 = true := canLay_list fun d hd => by
  obtain ⟨n, hn, rfl⟩ := List.mem_map.mp hd
  exact h n hn
theorem strs_at {K : PySem.W.Frag} {H : Hp} {a : Addr} {L : List Str} (h : SqL K H a (L.map V.str)) : Dn K H (.ref a) (.list (L.map PyData.str)) := by
  rw [Dn]; exact ⟨a, _, rfl, h, strs_dn _⟩
theorem xds_at {K : PySem.W.Frag} {H : Hp} {a : Addr} {us : List V} {xs : List Xd} (h : H a = some (.lst us)) (hx : AtXs K H us xs) : Dn K H (.ref a) (.list (xs.map xdD)) := by
  rw [Dn]; exact ⟨a, _, rfl, SqL.of h, xds_dn hx⟩
theorem xds_depth (ws : List Xd) : (PyData.list (ws.map xdD)).depth ≤ 3 := depth_list (n := 2) fun d hd => by
  obtain ⟨x, _, rfl⟩ := List.mem_map.mp hd
  have h1 : (iD x.1).depth = 0 := by cases x.1 <;> rfl
  have h2 := strs_dep x.2
  show max (iD x.1).depth (max (PyData.list (x.2.map PyData.str)).depth 0) + 1 ≤ 2
  omega
theorem metS_pos {ws : List Str} (h : ws ≠ []) : 1 ≤ (metS ws ws.length).length := by
  cases ws with
  | nil => exact absurd rfl h
  | cons x r =>
    have : x ∈ metS (x :: r) (x :: r).length := (metS_mem x _ (Nat.le_refl _)).mpr (by rw [List.take_length]; exact List.mem_cons_self)
    exact List.length_pos_of_mem this
theorem metS_in {ws : List Str} (x : Str) : x ∈ metS ws ws.length ↔ x ∈ ws := by rw [metS_mem x _ (Nat.le_refl _), List.take_length]
section
variable {old : Nat → List Str} {n : Nat} {x : Xd}
theorem goodE_let (h : lettersB x.2 = false) : goodE old n x = false := by unfold goodE; rw [h]; rfl
theorem goodE_zero (h : lettersB x.2 = true) : goodE old 0 x = x.1.isNone := by unfold goodE; rw [h, Bool.true_and, if_pos rfl]
theorem goodE_none (hn : n ≠ 0) (h : x.1 = none) : goodE old n x = false := by unfold goodE; rw [if_neg hn, h, Bool.and_false]
theorem goodE_far (hn : n ≠ 0) {b : Int} (h : x.1 = some b) (hb : ¬ (0 ≤ b ∧ b < (n : Int))) : goodE old n x = false := by
  unfold goodE
  rw [if_neg hn, h]
  dsimp only
  rw [← Bool.decide_and, decide_eq_false hb, Bool.false_and, Bool.and_false]
theorem goodE_in (hn : n ≠ 0) (hl : lettersB x.2 = true) {j : Nat} (h : x.1 = some (j : Int)) (hj : j < n) : goodE old n x = (old j).all fun y => decide (y ∈ x.2) := by
  unfold goodE
  rw [if_neg hn, h, hl, Bool.true_and]
  dsimp only
  rw [← Bool.decide_and, decide_eq_true (show 0 ≤ (j : Int) ∧ (j : Int) < (n : Int) by omega), Bool.true_and]; rfl
end
end Ken
set_option Elab.async false
set_option linter.all false
set_option maxRecDepth 100000
set_option maxHeartbeats 4000000
namespace Ken
open PySem L2 PyProof.Rows
theorem cut_dropN {xs : List V} {i : Nat} (h : i ≤ xs.length) : cutV xs (some (i : Int)) none = xs.drop i := by
  show List.take (xs.length - (if ((i : Nat) : Int) < 0 then (((i : Nat) : Int) + (xs.length : Int)).toNat else min ((i : Nat) : Int).toNat xs.length)) (List.drop (if ((i : Nat) : Int) < 0 then (((i : Nat) : Int) + (xs.length : Int)).toNat else min ((i : Nat) : Int).toNat xs.length) xs) = _
  rw [if_neg (by omega), show min ((i : Nat) : Int).toNat xs.length = i by omega, List.take_of_length_le (by rw [List.length_drop]; omega)]
theorem Word.okx {y : Str} (h : Word y) : y.length ≤ 9 ∧ (PyData.str y).canLay0 = true := ⟨by have := len_cps y; have := h.2.1; omega, Word.strOk h⟩
theorem badW_rev {ws os : List Str} (h : OkW ws) (hl : 1 < ws.length) : badW ws os ws.reverse := by
  refine .inl ⟨?_, fun z => by rw [List.reverse_eq_nil_iff] at z; rw [z] at hl; exact absurd hl (by decide)⟩
  cases e : lettersB ws.reverse with
  | false => rfl
  | true =>
    exfalso
    unfold lettersB at e
    rw [Bool.and_eq_true, Bool.and_eq_true] at e
    have p1 := sorted_pw e.2.1 (of_decide_eq_true e.2.2)
    rw [List.pairwise_reverse] at p1
    have p2 := sorted_pw h.srt h.nd
    match ws, hl, p1, p2 with
    | a :: b :: r, _, p1, p2 =>
      have h1 := (List.pairwise_cons.mp p1).1 b List.mem_cons_self
      have h2 := (List.pairwise_cons.mp p2).1 b List.mem_cons_self
      have := sLt_trans h1 h2
      rw [sLt_irr] at this; cases this
theorem badW_in {ws os : List Str} {i : Nat} {z : Str} (h : OkW ws) (hz : ws[i]? = some z ∨ isW z = false) : badW ws os (ws.take i ++ [z] ++ ws.drop i) := by
  refine .inl ⟨?_, fun e => by have := congrArg List.length e; simp at this⟩
  rcases hz with hz | hz
  · have hi := (List.getElem?_eq_some_iff.mp hz).1
    have nd : ¬ (ws.take i ++ [z] ++ ws.drop i).Nodup := fun nd => by
      rw [List.append_assoc] at nd
      have := (List.nodup_append.mp nd).2.1
      rw [List.drop_eq_getElem_cons hi, (List.getElem?_eq_some_iff.mp hz).2] at this
      exact (List.nodup_cons.mp this).1 List.mem_cons_self
    unfold lettersB
    rw [decide_eq_false nd, Bool.and_false, Bool.and_false]
  · have : (ws.take i ++ [z] ++ ws.drop i).all isW = false := by
      rw [Bool.eq_false_iff]
      intro e
      rw [List.all_eq_true] at e
      have := e z (by simp)
      rw [hz] at this; cases this
    unfold lettersB
    rw [this]; rfl
theorem okx_in {ws : List Str} {b : Option Int} {i : Nat} {z : Str} (h : OkW ws) (hz : z.length ≤ 9 ∧ (PyData.str z).canLay0 = true) : OkX (b, ws.take i ++ [z] ++ ws.drop i) where
  len := by
    show (ws.take i ++ [z] ++ ws.drop i).length ≤ 7
    have := h.len
    rw [List.length_append, List.length_append, List.length_take, List.length_drop, List.length_singleton]; omega
  wd := fun y hy => by
    have hy' : y ∈ ws.take i ++ [z] ++ ws.drop i := hy
    rw [List.mem_append, List.mem_append, List.mem_singleton] at hy'
    rcases hy' with (hy' | rfl) | hy'
    · exact (h.wd y (List.mem_of_mem_take hy')).okx
    · exact hz
    · exact (h.wd y (List.mem_of_mem_drop hy')).okx
theorem badW_out {ws os : List Str} {z : Str} (hz : z ∈ os) : badW ws os (ws.filter fun y => !decide (y = z)) := by
  refine .inr ⟨z, hz, fun h => ?_, fun y hy hne => List.mem_filter.mpr ⟨hy, by rw [decide_eq_false hne]; rfl⟩⟩
  have := (List.mem_filter.mp h).2
  rw [decide_eq_true rfl] at this; cases this
theorem okx_sub {ws out : List Str} {b : Option Int} (h : OkW ws) (hl : out.length ≤ ws.length) (hm : ∀ y ∈ out, y ∈ ws) : OkX (b, out) where
  len := by show out.length ≤ 7; have := h.len; omega
  wd := fun y hy => (h.wd y (hm y hy)).okx
end Ken
set_option Elab.async false
set_option linter.all false
set_option maxRecDepth 100000
set_option maxHeartbeats 4000000
namespace Ken
open PySem L2 PyProof.Rows
theorem paired_set {α β : Type} {R : α → β → Prop} {v : α} {y : β} (hv : R v y) : ∀ {us : List α} {xs : List β} (i : Nat), Paired R us xs → Paired R (us.set i v) (xs.set i y)
  | _, _, _, .nil => .nil
  | _, _, 0, .cons _ t => .cons hv t
  | _, _, i + 1, .cons h t => .cons h (paired_set hv i t)
theorem set_parts {α : Type} {us : List α} {i : Nat} {v : α} (h : i < us.length) : us.take i ++ [v] ++ us.drop (i + 1) = us.set i v := by
  rw [List.set_eq_take_append_cons_drop, if_pos h, List.append_assoc]; rfl
theorem cut_succ {xs : List V} {i : Nat} (h : i < xs.length) : cutV xs (some ((i : Int) + 1)) none = xs.drop (i + 1) := by
  have := cut_dropN (xs := xs) (i := i + 1) (by omega)
  rw [show (((i + 1 : Nat)) : Int) = (i : Int) + 1 by omega] at this
  exact this
end Ken
set_option Elab.async false
set_option linter.all false
set_option maxRecDepth 100000
set_option maxHeartbeats 4000000
namespace Ken
open PySem L2 PyProof.Rows
structure GoodWs (X : List Xd) : Prop where
  ne : X ≠ []
  len : X.length ≤ 24
  okw : ∀ (n : Nat) (x : Xd), X[n]? = some x → OkW x.2
  b0 : ∀ x : Xd, X[0]? = some x → x.1 = none
  b1 : ∀ (n : Nat) (x : Xd), 0 < n → X[n]? = some x → ∃ j : Nat, x.1 = some (j : Int) ∧ j < n
  pers : ∀ (n : Nat) (x : Xd), X[n]? = some x → ∀ j : Nat, x.1 = some (j : Int) → ∀ z ∈ oldX X j, z ∈ x.2
theorem goodWs_of {us : List Str} {ws : List Wd} (hu : Words us) (hg : goodB ws) (hp : persB ws) (hi : inWq us ws) (h1 : 1 ≤ ws.length) (h24 : ws.length ≤ 24) : GoodWs (ws.map toX) where
  ne := fun z => by rw [List.map_eq_nil_iff] at z; rw [z] at h1; exact absurd h1 (by decide)
  len := by rw [List.length_map]; exact h24
  okw := fun n x h => by
    rw [List.getElem?_map, Option.map_eq_some_iff] at h
    obtain ⟨y, hy, rfl⟩ := h
    have z := hi y (List.mem_of_getElem? hy)
    exact ⟨z.1.2, z.1.1, Nat.le_trans (len_le_of_sub z.1.1 z.2) hu.2.1, fun v hv => hu.2.2 v (z.2 v hv)⟩
  b0 := fun x h => by
    rw [List.getElem?_map, Option.map_eq_some_iff] at h
    obtain ⟨y, hy, rfl⟩ := h
    show y.1.map _ = none
    rw [(hg 0 y hy).1 rfl]; rfl
  b1 := fun n x hn h => by
    rw [List.getElem?_map, Option.map_eq_some_iff] at h
    obtain ⟨y, hy, rfl⟩ := h
    obtain ⟨j, hj, hl⟩ := (hg n y hy).2 hn
    exact ⟨j, by show y.1.map _ = _; rw [hj]; rfl, hl⟩
  pers := fun n x h j hj z hz => by
    rw [List.getElem?_map, Option.map_eq_some_iff] at h
    obtain ⟨y, hy, rfl⟩ := h
    have hj' : y.1 = some j := by
      have e : y.1.map (fun n => ((n : Nat) : Int)) = some (j : Int) := hj
      rw [Option.map_eq_some_iff] at e
      obtain ⟨i, hi', e⟩ := e
      rw [hi', show i = j by omega]
    unfold oldX at hz
    rw [List.getElem?_map] at hz
    cases hk : ws[j]? with
    | none => rw [hk] at hz; exact absurd hz (by simp)
    | some v =>
      rw [hk] at hz
      exact hp n y hy j hj' v hk z hz
theorem OkW.okx {ws : List Str} (h : OkW ws) (b : Option Int) : OkX (b, ws) := okx_sub h (Nat.le_refl _) fun _ z => z
theorem OkW.let {ws : List Str} (h : OkW ws) : lettersB ws = true := by
  unfold lettersB
  rw [h.srt, decide_eq_true h.nd, List.all_eq_true.mpr fun y hy => isW_word (h.wd y hy)]; rfl
section
variable {X xs : List Xd} (G : GoodWs X)
include G
theorem GoodWs.good {n : Nat} (hn : n < X.length) : goodX X n = true := by
  have hx := List.getElem?_eq_getElem hn
  unfold goodX
  rw [hx]
  show goodE _ n X[n] = true
  have hl := (G.okw n _ hx).let
  by_cases h0 : n = 0
  · subst h0
    rw [goodE_zero hl, G.b0 _ hx]; rfl
  · obtain ⟨j, hj, hjn⟩ := G.b1 n _ (by omega) hx
    rw [goodE_in h0 hl hj hjn, List.all_eq_true]
    exact fun z hz => decide_eq_true (G.pers n _ hx j hj z hz)
theorem GoodWs.sz (n : Nat) : szX X n := fun x hx b hb h0 hn => by
  obtain ⟨j, hj, hjn⟩ := G.b1 n x (by omega) hx
  rw [hj] at hb
  cases hb
  show (oldX X (j : Int).toNat).length ≤ 3 ∨ _
  rw [show (j : Int).toNat = j from rfl]
  cases ho : oldX X j with
  | nil => exact .inl (by decide)
  | cons z r =>
    refine .inr fun e => ?_
    have := G.pers n x hx j hj z (by rw [ho]; exact List.mem_cons_self)
    rw [e] at this; cases this
theorem GoodWs.ag : AG X := ⟨G.ne, fun n hn => G.good hn⟩
theorem GoodWs.xok : XsOk X := ⟨G.len, fun x hx => by
  obtain ⟨n, hn⟩ := List.mem_iff_getElem?.mp hx
  exact (G.okw n x hn).okx x.1, fun n _ => G.sz n⟩
end
structure SpI (X : List Xd) (L : List Nat) (xs : List Xd) : Prop where
  len : xs.length = X.length
  ok : ∀ x ∈ xs, OkX x
  same : ∀ n, ¬ n ∈ L → xs[n]? = X[n]?
  bad : ∀ n, n ∈ L → ∃ x y, X[n]? = some x ∧ xs[n]? = some y ∧ ((∀ m, m < n → xs[m]? = X[m]?) → badE (oldX X) n x y)
theorem SpI.zero {X : List Xd} (G : GoodWs X) : SpI X [] X := ⟨rfl, G.xok.2.1, fun _ _ => rfl, fun n h => absurd h (by simp)⟩
theorem SpI.step {X xs : List Xd} {L : List Nat} (G : GoodWs X) (S : SpI X L xs) {n : Nat} {x y : Xd} (hn : ¬ n ∈ L) (hx : X[n]? = some x) (hy : OkX y) (hb : badE (oldX xs) n x y) : SpI X (L ++ [n]) (xs.set n y) := by
  have hnl : n < xs.length := by rw [S.len]; exact (List.getElem?_eq_some_iff.mp hx).1
  have ne : ∀ m, m ≠ n → (xs.set n y)[m]? = xs[m]? := fun m hm => List.getElem?_set_ne (Ne.symm hm)
  refine ⟨by rw [List.length_set, S.len], fun z hz => ?_, fun m hm => ?_, fun m hm => ?_⟩
  · rcases List.mem_or_eq_of_mem_set hz with h | h
    · exact S.ok z h
    · rw [h]; exact hy
  · rw [List.mem_append, List.mem_singleton] at hm
    rw [ne m fun z => hm (.inr z), S.same m fun z => hm (.inl z)]
  · by_cases hmn : m = n
    · subst hmn
      refine ⟨x, y, hx, List.getElem?_set_self hnl, fun hlt => ?_⟩
      rcases hb with hb | ⟨e, os, h1, h2, h3⟩
      · exact .inl hb
      · refine .inr ⟨e, os, h1, h2, fun j hj h0 => ?_⟩
        obtain ⟨j', hj', hl⟩ := G.b1 m x h0 hx
        have : j = j' := by
          rw [hj] at hj'
          have := Option.some.inj hj'
          omega
        subst this
        rw [h3 j hj h0]
        unfold oldX
        rw [← hlt j hl, ne j (by omega)]
    · rw [List.mem_append, List.mem_singleton] at hm
      obtain ⟨x', y', h1, h2, h3⟩ := S.bad m (hm.resolve_right hmn)
      refine ⟨x', y', h1, by rw [ne m hmn]; exact h2, fun hlt => h3 fun i hi => ?_⟩
      by_cases hin : i = n
      · rw [hin]; exact S.same n hn
      · rw [← ne i hin]; exact hlt i hi
theorem goodX_cong {X xs : List Xd} {n : Nat} (h : ∀ i, i ≤ n → xs[i]? = X[i]?) : goodX xs n = goodX X n := by
  unfold goodX
  rw [h n (Nat.le_refl _)]
  cases X[n]? with
  | none => rfl
  | some x =>
    show goodE _ n x = goodE _ n x
    by_cases h0 : n = 0
    · subst h0
      unfold goodE
      rw [if_pos rfl, if_pos rfl]
    cases hb : x.1 with
    | none => rw [goodE_none h0 hb, goodE_none h0 hb]
    | some b =>
      by_cases hr : 0 ≤ b ∧ b < (n : Int)
      · have e : oldX xs b.toNat = oldX X b.toNat := by unfold oldX; rw [h b.toNat (by omega)]
        unfold goodE
        rw [if_neg h0, if_neg h0, hb]
        dsimp only
        rw [e]
      · rw [goodE_far h0 hb hr, goodE_far h0 hb hr]
theorem SpI.first {X xs : List Xd} {L : List Nat} (G : GoodWs X) (S : SpI X L xs) {n : Nat} (hn : n ∈ L) (hmin : ∀ m ∈ L, n ≤ m) : FB xs n ∧ XsOk xs := by
  have before : ∀ m, m < n → xs[m]? = X[m]? := fun m hm => S.same m fun z => by have := hmin m z; omega
  obtain ⟨x, y, hx, hy, hb⟩ := S.bad n hn
  have hb := hb before
  have hnl : n < X.length := (List.getElem?_eq_some_iff.mp hx).1
  have good : ∀ m, m < n → goodX xs m = true := fun m hm => by
    rw [goodX_cong fun i hi => before i (by omega)]; exact G.good (by omega)
  have oldE : ∀ j, j < n → oldX xs j = oldX X j := fun j hj => by unfold oldX; rw [before j hj]
  have bad : goodX xs n = false := by
    unfold goodX
    rw [hy]
    show goodE _ n y = false
    rcases hb with ⟨e, h1, h2⟩ | ⟨e, os, h1, h2, h3⟩
    · by_cases h0 : n = 0
      · have z := h1 h0
        subst h0
        unfold goodE
        rw [if_pos rfl]
        cases hz : y.1 with
        | none => exact absurd hz z
        | some b => exact Bool.and_false _
      · cases hz : y.1 with
        | none => exact goodE_none h0 hz
        | some b => exact goodE_far h0 hz (h2 (by omega) b hz)
    · cases hl : lettersB y.2 with
      | false => exact goodE_let hl
      | true =>
        rcases h1 with h1 | ⟨z, hz, hzn, _⟩
        · rw [h1.1] at hl; cases hl
        by_cases h0 : n = 0
        · rw [h2 h0] at hz; cases hz
        · obtain ⟨j, hj, hjn⟩ := G.b1 n x (by omega) hx
          rw [goodE_in h0 hl (e.trans hj) hjn, oldE j hjn, ← h3 j hj (by omega), Bool.eq_false_iff]
          intro hall
          rw [List.all_eq_true] at hall
          exact hzn (of_decide_eq_true (hall z hz))
  refine ⟨.inr ⟨by rw [S.len]; exact hnl, bad, good⟩, by rw [S.len]; exact G.len, S.ok, fun m hm => ?_⟩
  rcases Nat.lt_trichotomy m n with h | h | h
  · intro v hv b hvb h0 hbm
    rw [before m h] at hv
    rw [oldE b.toNat (by omega)]
    exact G.sz m v hv b hvb h0 hbm
  · subst h
    intro v hv b hvb h0 hbm
    rw [hy] at hv
    cases hv
    rcases hb with ⟨e, h1, h2⟩ | ⟨e, os, h1, h2, h3⟩
    · exact absurd ⟨h0, hbm⟩ (h2 (by omega) b hvb)
    · rcases h1 with h1 | ⟨z, hz, hzn, hall⟩
      · exact .inr h1.2
      obtain ⟨j, hj, hjn⟩ := G.b1 m x (by omega) hx
      rw [e, hj] at hvb
      cases hvb
      rw [show (j : Int).toNat = j from rfl, oldE j hjn]
      by_cases h4 : (oldX X j).length ≤ 3
      · exact .inl h4
      refine .inr fun hy0 => h4 ?_
      have nd : (oldX X j).Nodup := by
        unfold oldX
        cases hk : X[j]? with
        | none => exact List.nodup_nil
        | some v => exact (G.okw j v hk).nd
      have : (oldX X j).length ≤ ([z] : List Str).length := len_le_of_sub nd fun u hu => by
        rw [List.mem_singleton]
        refine Classical.byContradiction fun hne => ?_
        have := hall u (G.pers m x hx j hj u hu) hne
        rw [hy0] at this; cases this
      rw [List.length_singleton] at this
      omega
  · have := hm n h
    rw [bad] at this; cases this
theorem fb_nil : FB [] 0 := .inl ⟨rfl, rfl⟩
theorem xok_nil : XsOk [] := ⟨by decide, fun x hx => absurd hx (by simp), fun n _ x hx => by simp at hx⟩
noncomputable def dueD (n : Nat) : PyData := .list [.int (n : Nat), .bool true, .bool true, .bool false, .bool false]
theorem due_dn {K : PySem.W.Frag} {H : Hp} {a : Addr} {n : Nat} (h : H a = some (.lst (dueV n))) : Dn K H (.ref a) (dueD n) := by
  unfold dueD
  rw [Dn]
  refine ⟨a, _, rfl, SqL.of h, ?_⟩
  unfold dueV
  repeat (rw [DnAll]; refine ⟨_, _, rfl, by rw [Dn], ?_⟩)
  rw [DnAll]
theorem due_self (n : Nat) : PyData.eqv (dueD n) (dueD n) = true := by
  refine eqvAll_self fun d hd => ?_
  simp only [List.mem_cons, List.not_mem_nil, or_false] at hd
  rcases hd with rfl | rfl | rfl | rfl | rfl
  · show ((n : Int) == (n : Int)) = true; simp
  all_goals rfl
theorem yes_dn {K : PySem.W.Frag} {H : Hp} {a : Addr} (h : H a = some (.lst [.bl true])) : Dn K H (.ref a) (.list [.bool true]) := by
  rw [Dn]
  refine ⟨a, _, rfl, SqL.of h, ?_⟩
  rw [DnAll]
  refine ⟨_, _, rfl, by rw [Dn], by rw [DnAll]⟩
theorem due_lay (n : Nat) : (dueD n).canLay0 = true := rfl
theorem ag_fb {xs : List Xd} {n : Nat} (h : AG xs) (f : FB xs n) : False := by
  rcases f with f | f
  · exact h.1 f.1
  · have := h.2 n f.1
    rw [f.2.1] at this; cases this
theorem fb_uniq {xs : List Xd} {n m : Nat} (f : FB xs n) (g : FB xs m) : n = m := by
  rcases f with f | f
  · rcases g with g | g
    · rw [f.2, g.2]
    · rw [f.1] at g; exact absurd g.1 (Nat.not_lt_zero _)
  · rcases g with g | g
    · rw [g.1] at f; exact absurd f.1 (Nat.not_lt_zero _)
    · rcases Nat.lt_trichotomy n m with h | h | h
      · have := g.2.2 n h; rw [f.2.1] at this; cases this
      · exact h
      · have := f.2.2 m h; rw [g.2.1] at this; cases this
theorem due_pick {K : PySem.W.Frag} {H : Hp} {ld : Addr} {xs : List Xd} (h : (AG xs ∧ H ld = some (.lst [.bl true])) ∨ ∃ n, FB xs n ∧ H ld = some (.lst (dueV n))) :
    ∃ D, (∀ H', Same H H' → Dn K H' (.ref ld) D) ∧ (AG xs → D = .list [.bool true]) ∧ (∀ n, FB xs n → D = dueD n) ∧ PyData.eqv D D = true ∧ D.canLay0 = true ∧ D.depth ≤ 1 := by
  rcases h with ⟨h1, h2⟩ | ⟨n, h1, h2⟩
  · exact ⟨.list [.bool true], fun H' e => yes_dn (e _ _ h2), fun _ => rfl, fun n f => absurd f fun z => ag_fb h1 z, rfl, rfl, Nat.le_refl _⟩
  · exact ⟨dueD n, fun H' e => due_dn (e _ _ h2), fun g => absurd h1 fun z => ag_fb g z, fun m f => by rw [fb_uniq h1 f], due_self n, rfl, Nat.le_refl _⟩
end Ken
set_option Elab.async false
set_option linter.all false
set_option maxRecDepth 100000
set_option maxHeartbeats 4000000
namespace L2
open PySem PySem.Spec PyProof.Rows
section
variable {X : Cx} {K : PySem.W.Frag}
theorem call_isiCK (hK : X.K = K) : CallR X (.builtin "isinstance") (rIsiC K) := hK ▸ call_isiC
theorem call_isiBK (hK : X.K = K) : CallR X (.builtin "isinstance") (rIsiB K) := hK ▸ call_isiB
theorem call_isiTK (hK : X.K = K) : CallR X (.builtin "isinstance") (rIsiT K) := hK ▸ call_isiT
theorem pe_xfldK {nm : Str} {o : Expr} {ta : TE} {pos : Pos} (hK : X.K = K) (ha : PE X o ta) (hb : attributeBase o nm X.env (eval o X.env) = eval o X.env := by rfl) : PE X (.Attribute o nm pos) (tXFld K ta nm) := hK ▸ pe_xfld ha hb
theorem nsOk_mk {N : Addr} {c : Value} {d : Option Addr} {es : Array DictEntry} {ep : Nat} {sl : Array (Option Value)} (l : K.lookup N = some ⟨c, d, .dict es ep, sl⟩) (h : (es.toList.all fun e => match e.key with | .str _ _ => true | _ => false) = true) : PySem.W.nsOkIn K N = true := by
  unfold PySem.W.nsOkIn
  rw [l]
  show (es.all _) = true
  rw [← Array.all_toList]
  exact h
theorem tail_own {B N : Addr} {nm q : Str} {bs bm : List Value} {hdct : Bool} {sn : List Str} {sub : List Value} {ab : Bool} {col : Option Bool} {dd : Option Addr} {k0 k1 k2 k3 k5 : Option Value} {nw : String}
    (l : K.lookup B = some (excClassObj nm q B N bs bm hdct sn sub ab col dd k0 k1 k2 k3 k5 nw)) (hn : PySem.W.nsOkIn K N = true) (hi : PySem.W.nsIn K N "__init__" = some none) : PySem.W.tailIn K bmV (.ref B :: bmV) = true := by
  rw [PySem.W.tailIn.eq_2, l]
  unfold excClassObj
  dsimp only
  rw [hn, hi, show PySem.W.tailIn K bmV bmV = true by rw [PySem.W.tailIn.eq_def]; rfl]
  exact Bool.or_true _
theorem cls_some {C : Addr} (h : PySem.W.hasDictIn K C = true) : (PySem.W.clsIn K C).isSome = true := by
  unfold PySem.W.hasDictIn at h
  cases e : PySem.W.clsIn K C with
  | none => rw [e] at h; cases h
  | some _ => rfl
end
end L2
namespace KLaw
open PySem L2 Ken
set_option Elab.async false
set_option linter.all false
set_option maxRecDepth 100000
set_option maxHeartbeats 4000000
local macro_rules | `(tactic| walk_at "rdx_1") => `(tactic| simp only [tSeq, tAsg, gName, tVar, tC, tOp, rI0, rI, tRet, tIfS, tTest, tB, tNext, tCons, tNil, tCB, tCall, tTup, tLst, tDrop, tAug, ipI, tAnd, tOr, tNot, tAndV, tBM, rAppend, rIxL, rIxT, rIxS, rCat, rEq, rNe, rMulS, tSl, rSlL, rSlS, tPart, tNoPart, tFs, tFc, tF0, rIsi, rEqD, tChain, rIn, iEnum, gTup, gCons, gNil, iRng1, iRng2, iList, rRevd, L2.start, capt, List.map_cons, List.map_nil, List.length_cons, List.length_nil, List.cons_append, List.nil_append, List.append_nil, List.replicate_succ, List.replicate_zero, Nat.reduceAdd, Nat.reduceSub, Nat.zero_add, Nat.add_zero, Nat.sub_zero, List.getElem?_cons_zero, List.getElem?_cons_succ, List.getElem?_nil, List.set_cons_zero, List.set_cons_succ, Option.some.injEq, V.int.injEq, V.str.injEq, V.ref.injEq, V.bl.injEq, V.ty.injEq, List.cons.injEq, and_true, true_and, exists_eq_left', exists_eq_left, exists_and_left, exists_eq, exists_eq', and_assoc, Option.join_some, Option.join_none, scal_int, scal_str, scal_bl, cxOf_K, blk_K, decide_eq_true_eq])
local macro_rules | `(tactic| walk_at "rd") => `(tactic| walk_at "rdx_1")
local macro_rules | `(tactic| walk_at "rdx_2") => `(tactic| simp only [tFor, tLC, tVar, tC, tOp, rI0, rI, tTest, tB, tCons, tNil, tCB, tCall, tTup, tLst, ipI, tAnd, tOr, tNot, tAndV, tBM, rAppend, rIxL, rIxT, rIxS, rCat, rEq, rNe, rMulS, tSl, rSlL, rSlS, tPart, tNoPart, tFs, tFc, tF0, rIsi, rEqD, tChain, rIn, iEnum, iRng1, iRng2, iList, rRevd, L2.start, capt, List.map_cons, List.map_nil, List.length_cons, List.length_nil, List.cons_append, List.nil_append, List.append_nil, List.replicate_succ, List.replicate_zero, Nat.reduceAdd, Nat.reduceSub, Nat.zero_add, Nat.add_zero, Nat.sub_zero, List.getElem?_cons_zero, List.getElem?_cons_succ, List.getElem?_nil, List.set_cons_zero, List.set_cons_succ, Option.some.injEq, V.int.injEq, V.str.injEq, V.ref.injEq, V.bl.injEq, V.ty.injEq, List.cons.injEq, and_true, true_and, exists_eq_left', exists_eq_left, exists_and_left, exists_eq, exists_eq', and_assoc, Option.join_some, Option.join_none, scal_int, scal_str, scal_bl, cxOf_K, blk_K, decide_eq_true_eq])
local macro_rules | `(tactic| walk_at "ri") => `(tactic| walk_at "rdx_2")
noncomputable def top (i : Nat) : Stmt := PySem.Challenge.pw_ken_k11_good_worlds.main.body.getD i (.Pass ⟨0, 0, 0, 0⟩)
noncomputable abbrev s__law_mix : Stmt := top 22
theorem sc__law_mix : FnScope ["_law_cell_here", "_law_k", "_law_first"] ["_law_cell_here", "_law_k"] (defScope s__law_mix) := ⟨rfl, rfl, rfl, by decide +kernel, rfl, by decide +kernel, by decide +kernel⟩
noncomputable abbrev s__law_cell : Stmt := top 23
theorem sc__law_cell : FnScope ["_law_script", "_law_k", "_law_cell_here"] ["_law_script", "_law_k"] (defScope s__law_cell) := ⟨rfl, rfl, rfl, by decide +kernel, rfl, by decide +kernel, by decide +kernel⟩
noncomputable abbrev s__law_words : Stmt := top 24
theorem sc__law_words : FnScope ["_law_cell_here", "_law_many", "_law_some_here", "_law_size", "_law_at", "_law_start"] ["_law_cell_here", "_law_many"] (defScope s__law_words) := ⟨rfl, rfl, rfl, by decide +kernel, rfl, by decide +kernel, by decide +kernel⟩
section
variable {P : Program} {w : World} {K : PySem.W.Frag} {mg : Str → Option Value} {base : Heap}
theorem ok__law_mix {k : Nat} {f__law_mix : Addr} {fd__law_mix : FuncData} (F__law_mix : Fun K "_law_mix" "_law_mix" s__law_mix f__law_mix fd__law_mix) : FnOk P w K mg base CX0 (k + 1) f__law_mix fd__law_mix ["_law_cell_here", "_law_k"] sp_mix := by
  refine F__law_mix.ok sc__law_mix (fun vs H Q E h => ?_) (fun cdv A outer s H vs Q E hr h => ?_)
  · obtain ⟨c, k, rfl, _⟩ := h
    rfl
  obtain ⟨c, k, rfl, h0, h1, q⟩ := h
  refine ⟨_, (pss_cons (ps_set (i := 2) sc__law_mix.nd rfl (Or.inl rfl) (pe_op op_mod (pe_op op_mul (pe_op op_add (pv 0) pe_int) (pe_op op_add pe_int (pe_op op_mul pe_int (pv 1)))) pe_int))
  (pss_one (ps_ret (pe_op op_mod (pe_op op_add (pe_op op_add (pe_op op_mul (pe_op op_fdiv (pv 2) pe_int) pe_int) (pe_op op_mul (pv 2) (pe_op op_add (pe_op op_mul (pv 1) (pv 1)) pe_int))) (pv 1)) pe_int)))), ?_⟩
  walk_at "rd"
  have a0 : 0 ≤ (c + 1) * (48271 + 118 * k) % 2147483629 := Int.emod_nonneg _ (by decide)
  have a1 : (c + 1) * (48271 + 118 * k) % 2147483629 < 2147483629 := Int.emod_lt_of_pos _ (by decide)
  refine ⟨mul_left (by decide) (by decide), mul_right (by omega) (by omega), by decide, ⟨by decide, by decide⟩, mul_right (by decide) (by decide), mul_left (by omega) (by omega), mul_left (by omega) (by omega), by decide, ?_⟩
  exact q
theorem ok__law_cell {k : Nat} {f__law_cell : Addr} {fd__law_cell : FuncData} (F__law_cell : Fun K "_law_cell" "_law_cell" s__law_cell f__law_cell fd__law_cell) {f__law_mix : Addr} {fd__law_mix : FuncData} (G__law_mix : FnOk P w K mg base CX0 k f__law_mix fd__law_mix ["_law_cell_here", "_law_k"] (sp_mix)) (m__law_mix : mg "_law_mix" = some (.ref f__law_mix)) (k__law_mix : PySem.W.keepIn K (.ref f__law_mix) = true) (b__law_mix : Binds K fd__law_mix ["_law_cell_here", "_law_k"] []) (m_len : mg "len" = none) : FnOk P w K mg base CX0 (k + 1) f__law_cell fd__law_cell ["_law_script", "_law_k"] (sp_cell K) := by
  refine F__law_cell.ok sc__law_cell (fun vs H Q E h => ?_) (fun cdv A outer s H vs Q E hr h => ?_)
  · obtain ⟨a, ns, k, rfl, _⟩ := h
    rfl
  obtain ⟨a, ns, j, rfl, hS, h63, h0, h1, q⟩ := h
  refine ⟨_, (pss_cons (ps_set (i := 2) sc__law_cell.nd rfl (Or.inl rfl) pe_int)
  (pss_cons (ps_if (pt_cmpR (op_lt) (pv 1) (pe_callB call_len_seq (by exact rfl) m_len Ken.boot_len (pa_cons (pv 0) pa_nil)) (nomark _))
    (pss_one (ps_set (i := 2) sc__law_cell.nd rfl (Or.inl rfl) (pe_op op_mod (pe_ix ix_list (pv 0) (pv 1) (fun _ _ => rfl)) pe_int)))
    pss_nil)
  (pss_one (ps_ret (pe_call G__law_mix hr (by exact rfl) m__law_mix k__law_mix b__law_mix .nil pass0 (pa_cons (pv 2) (pa_cons (pe_op op_add (pv 1) pe_int) pa_nil))))))), ?_⟩
  walk_at "rd"
  refine ⟨_, .inl hS, ?_⟩
  rw [List.length_map]
  have e : cellOf ns j = mix (if j < (ns.length : Int) then (ns[j.toNat]?.getD 0) % 2147483647 else 0) (j + 101) := rfl
  refine ite2 (fun c => ?_) (fun c => ?_)
  · rw [if_pos c] at e
    have hj : j.toNat < ns.length := by omega
    refine ⟨_, hS, V.int (ns[j.toNat]), ?_, _, rfl, by decide, ?_⟩
    · have ej : j = ((j.toNat : Nat) : Int) := by omega
      have q : atI (ns.map V.int) ((j.toNat : Nat) : Int) = some (.int ns[j.toNat]) := atI_nat (by rw [List.getElem?_map, List.getElem?_eq_getElem hj] <;> rfl)
      rw [← ej] at q
      exact q
    · rw [List.getElem?_eq_getElem hj] at e
      rw [e] at q
      exact ⟨_, _, rfl, by omega, by omega, q⟩
  · rw [if_neg c] at e
    rw [e] at q
    exact ⟨_, _, rfl, by omega, by omega, q⟩
end
set_option Elab.async false
set_option linter.all false
set_option maxRecDepth 100000
set_option maxHeartbeats 4000000
local macro_rules | `(tactic| walk_at "rdx_3") => `(tactic| simp only [tRaiseI, tXFld, sXFld, tXIni, rSubS, rLenS, tFi, rMinL, tTrySA, tHandAs, rIsiC, rIsiB, rIsiT, rIsB, rSetOf, tComp, kTest, kApp, tSeq, tAsg, gName, tVar, tC, tOp, rI0, rI, tRet, tIfS, tTest, tB, tNext, tCons, tNil, tCB, tCall, tTup, tLst, tDrop, tAug, ipI, tAnd, tOr, tNot, tAndV, tBM, rAppend, rIxL, rIxT, rIxS, rCat, rEq, rNe, rMulS, tSl, rSlL, rSlS, tPart, tNoPart, tFs, tFc, tF0, rIsi, rEqD, tChain, rIn, iEnum, gTup, gCons, gNil, iRng1, iRng2, iList, rRevd, L2.start, capt, List.map_cons, List.map_nil, List.length_cons, List.length_nil, List.cons_append, List.nil_append, List.append_nil, List.replicate_succ, List.replicate_zero, Nat.reduceAdd, Nat.reduceSub, Nat.zero_add, Nat.add_zero, Nat.sub_zero, List.getElem?_cons_zero, List.getElem?_cons_succ, List.getElem?_nil, List.set_cons_zero, List.set_cons_succ, Option.some.injEq, V.int.injEq, V.str.injEq, V.ref.injEq, V.bl.injEq, V.ty.injEq, List.cons.injEq, and_true, true_and, exists_eq_left', exists_eq_left, exists_and_left, exists_eq, exists_eq', and_assoc, Option.join_some, Option.join_none, scal_int, scal_str, scal_bl, cxOf_K, cxOf_K1, hand_K, nox_K, cxOf_prog, cxOf_w, blk_prog, blk_w, blk_K, decide_eq_true_eq])
local macro_rules | `(tactic| walk_at "rd") => `(tactic| walk_at "rdx_3")
local macro_rules | `(tactic| walk_at "rdx_4") => `(tactic| simp only [tRaiseI, tXFld, sXFld, tXIni, rSubS, rLenS, tFi, rMinL, tTrySA, tHandAs, rIsiC, rIsiB, rIsiT, rIsB, rSetOf, tComp, kTest, kApp, tFor, tLC, tVar, tC, tOp, rI0, rI, tTest, tB, tCons, tNil, tCB, tCall, tTup, tLst, ipI, tAnd, tOr, tNot, tAndV, tBM, rAppend, rIxL, rIxT, rIxS, rCat, rEq, rNe, rMulS, tSl, rSlL, rSlS, tPart, tNoPart, tFs, tFc, tF0, rIsi, rEqD, tChain, rIn, iEnum, iRng1, iRng2, iList, rRevd, L2.start, capt, List.map_cons, List.map_nil, List.length_cons, List.length_nil, List.cons_append, List.nil_append, List.append_nil, List.replicate_succ, List.replicate_zero, Nat.reduceAdd, Nat.reduceSub, Nat.zero_add, Nat.add_zero, Nat.sub_zero, List.getElem?_cons_zero, List.getElem?_cons_succ, List.getElem?_nil, List.set_cons_zero, List.set_cons_succ, Option.some.injEq, V.int.injEq, V.str.injEq, V.ref.injEq, V.bl.injEq, V.ty.injEq, List.cons.injEq, and_true, true_and, exists_eq_left', exists_eq_left, exists_and_left, exists_eq, exists_eq', and_assoc, Option.join_some, Option.join_none, scal_int, scal_str, scal_bl, cxOf_K, cxOf_K1, hand_K, nox_K, cxOf_prog, cxOf_w, blk_prog, blk_w, blk_K, decide_eq_true_eq])
local macro_rules | `(tactic| walk_at "ri") => `(tactic| walk_at "rdx_4")
noncomputable abbrev s_law : Stmt := top 33
theorem sc_law : FnScope ["_law_script", "_law_words_here", "_law_worlds_here", "_law_spoiled_here", "_law_bad", "_law_k", "_law_world", "_law_due", "_law_turn"] ["_law_script"] (defScope s_law) := ⟨rfl, rfl, rfl, by decide +kernel, rfl, by decide +kernel, by decide +kernel⟩
section
variable {P : Program} {w : World} {K : PySem.W.Frag} {mg : Str → Option Value} {base : Heap}
theorem atx_n {K : PySem.W.Frag} {H : Hp} {lb : Addr} {L : List Nat} (hb : H lb = some (.lst (natsV L))) (hL : L ≠ []) {v : V} {x : Xd} (h : AtX K H v x) : AtXn K H lb v x := by
  obtain ⟨p, q, rfl, h1, h2⟩ := h
  refine ⟨p, q, fun z => ?_, rfl, h1, h2⟩
  rw [z, hb] at h2
  cases L with
  | nil => exact hL rfl
  | cons n L =>
    have e : natsV (n :: L) = x.2.map V.str := HO.lst.inj (Option.some.inj h2)
    cases hx : x.2 with
    | nil => rw [hx] at e; exact absurd e (by simp [natsV])
    | cons y ys => rw [hx] at e; exact absurd (List.cons.inj e).1 (fun z => nomatch z)
theorem ok_law {k : Nat} {f_law : Addr} {fd_law : FuncData} (F_law : Fun K "law" "law" s_law f_law fd_law) {f__law_words : Addr} {fd__law_words : FuncData} (G__law_words : FnOk P w K mg base CX0 k f__law_words fd__law_words ["_law_cell_here", "_law_many"] (sp_words)) (m__law_words : mg "_law_words" = some (.ref f__law_words)) (k__law_words : PySem.W.keepIn K (.ref f__law_words) = true) (b__law_words : Binds K fd__law_words ["_law_cell_here", "_law_many"] []) {f__law_worlds : Addr} {fd__law_worlds : FuncData} (G__law_worlds : FnOk P w K mg base CX0 k f__law_worlds fd__law_worlds ["_law_script", "_law_start", "_law_most", "_law_words_here"] (sp_worldsQ K)) (m__law_worlds : mg "_law_worlds" = some (.ref f__law_worlds)) (k__law_worlds : PySem.W.keepIn K (.ref f__law_worlds) = true) (b__law_worlds : Binds K fd__law_worlds ["_law_script", "_law_start", "_law_most", "_law_words_here"] []) {f__law_cell : Addr} {fd__law_cell : FuncData} (G__law_cell : FnOk P w K mg base CX0 k f__law_cell fd__law_cell ["_law_script", "_law_k"] (sp_cell K)) (m__law_cell : mg "_law_cell" = some (.ref f__law_cell)) (k__law_cell : PySem.W.keepIn K (.ref f__law_cell) = true) (b__law_cell : Binds K fd__law_cell ["_law_script", "_law_k"] []) {f__law_asked : Addr} {fd__law_asked : FuncData} (G__law_asked : FnOk P w K mg base CX0 k f__law_asked fd__law_asked ["_law_worlds_here"] (sp_ask K)) (m__law_asked : mg "_law_asked" = some (.ref f__law_asked)) (k__law_asked : PySem.W.keepIn K (.ref f__law_asked) = true) (b__law_asked : Binds K fd__law_asked ["_law_worlds_here"] []) {f__law_mix : Addr} {fd__law_mix : FuncData} (G__law_mix : FnOk P w K mg base CX0 k f__law_mix fd__law_mix ["_law_cell_here", "_law_k"] (sp_mix)) (m__law_mix : mg "_law_mix" = some (.ref f__law_mix)) (k__law_mix : PySem.W.keepIn K (.ref f__law_mix) = true) (b__law_mix : Binds K fd__law_mix ["_law_cell_here", "_law_k"] []) {f__law_spoiled : Addr} {fd__law_spoiled : FuncData} (G__law_spoiled : FnOk P w K mg base CX0 k f__law_spoiled fd__law_spoiled ["_law_worlds_here", "_law_world", "_law_cell_here"] (sp_spl K)) (m__law_spoiled : mg "_law_spoiled" = some (.ref f__law_spoiled)) (k__law_spoiled : PySem.W.keepIn K (.ref f__law_spoiled) = true) (b__law_spoiled : Binds K fd__law_spoiled ["_law_worlds_here", "_law_world", "_law_cell_here"] []) (m_range : mg "range" = none) (m_len : mg "len" = none) (m_min : mg "min" = none) : FnOk P w K mg base CX0 (k + 1) f_law fd_law ["_law_script"] (sp_law K) := by
  refine F_law.ok sc_law (fun vs H Q E h => ?_) (fun cdv A outer s H vs Q E hr h => ?_)
  · obtain ⟨a, ns, rfl, _⟩ := h
    rfl
  obtain ⟨a, ns, rfl, hS, hl, q⟩ := h
  refine ⟨_, (pss_cons (ps_set (i := 1) sc_law.nd rfl (Or.inl rfl) (pe_call G__law_words hr (by exact rfl) m__law_words k__law_words b__law_words .nil pass0 (pa_cons (pe_call G__law_cell hr (by exact rfl) m__law_cell k__law_cell b__law_cell .nil pass0 (pa_cons (pv 0) (pa_cons pe_int pa_nil))) (pa_cons (pe_op op_add pe_int (pe_op op_mod (pe_call G__law_cell hr (by exact rfl) m__law_cell k__law_cell b__law_cell .nil pass0 (pa_cons (pv 0) (pa_cons pe_int pa_nil))) pe_int)) pa_nil))))
  (pss_cons (ps_set (i := 2) sc_law.nd rfl (Or.inl rfl) (pe_call G__law_worlds hr (by exact rfl) m__law_worlds k__law_worlds b__law_worlds .nil pass0 (pa_cons (pv 0) (pa_cons pe_int (pa_cons pe_int (pa_cons (pv 1) pa_nil))))))
  (pss_cons (ps_set (i := 3) sc_law.nd rfl (Or.inl rfl) (pv 2))
  (pss_cons (ps_set (i := 4) sc_law.nd rfl (Or.inl rfl) (pe_lst pa_nil))
  (pss_cons (ps_for PassesOwn.never rfl (pi_range1 rfl m_range (pa_cons (pe_ix ix_list (pe_lst (pa_cons pe_int (pa_cons pe_int (pa_cons pe_int (pa_cons pe_int (pa_cons pe_int (pa_cons pe_int pa_nil))))))) (pe_op op_mod (pe_op op_fdiv (pe_call G__law_cell hr (by exact rfl) m__law_cell k__law_cell b__law_cell .nil pass0 (pa_cons (pv 0) (pa_cons pe_int pa_nil))) pe_int) pe_int) (fun _ _ => rfl)) pa_nil)) (pg_name (i := 5) sc_law.nd rfl (Or.inl rfl))
    (pss_cons (ps_set (i := 6) sc_law.nd rfl (Or.inl rfl) (pe_op op_mod (pe_call G__law_mix hr (by exact rfl) m__law_mix k__law_mix b__law_mix .nil pass0 (pa_cons (pe_call G__law_cell hr (by exact rfl) m__law_cell k__law_cell b__law_cell .nil pass0 (pa_cons (pv 0) (pa_cons pe_int pa_nil))) (pa_cons (pe_op op_add pe_int (pv 5)) pa_nil))) (pe_callB call_len_seq (by exact rfl) m_len Ken.boot_len (pa_cons (pv 2) pa_nil))))
  (pss_one (ps_if (pt_cmpR (op_notIn_seq) (pv 6) (pv 4) (by with_unfolding_all rfl))
    (pss_cons (ps_expr (pe_bm PySem.F.plainAttrs_list PySem.F.slot_list_append PySem.F.type_list_append mt_append (pv 4) (pa_cons (pv 6) pa_nil)))
  (pss_one (ps_set (i := 3) sc_law.nd rfl (Or.inl rfl) (pe_call G__law_spoiled hr (by exact rfl) m__law_spoiled k__law_spoiled b__law_spoiled .nil pass0 (pa_cons (pv 3) (pa_cons (pv 6) (pa_cons (pe_call G__law_mix hr (by exact rfl) m__law_mix k__law_mix b__law_mix .nil pass0 (pa_cons (pe_call G__law_cell hr (by exact rfl) m__law_cell k__law_cell b__law_cell .nil pass0 (pa_cons (pv 0) (pa_cons pe_int pa_nil))) (pa_cons (pe_op op_add pe_int (pv 5)) pa_nil))) pa_nil)))))))
    pss_nil))))
  (pss_cons (ps_set (i := 7) sc_law.nd rfl (Or.inl rfl) (pe_lst (pa_cons pe_bl pa_nil)))
  (pss_cons (ps_if (pt_cmpR (op_neD (hu_150 hr)) (pv 4) (pe_lst pa_nil) (nomark _))
    (pss_one (ps_set (i := 7) sc_law.nd rfl (Or.inl rfl) (pe_lst (pa_cons (pe_callB (call_minL rfl) (by exact rfl) m_min Ken.boot_min (pa_cons (pv 4) pa_nil)) (pa_cons pe_bl (pa_cons pe_bl (pa_cons pe_bl (pa_cons pe_bl pa_nil))))))))
    pss_nil)
  (pss_cons (ps_for PassesOwn.never rfl (pi_range1 rfl m_range (pa_cons pe_int pa_nil)) (pg_name (i := 8) sc_law.nd rfl (Or.inl rfl))
    (pss_one (ps_if ((pw_or (pt_cmpR (op_neD (hu_150 hr)) (pe_call G__law_asked hr (by exact rfl) m__law_asked k__law_asked b__law_asked .nil pass0 (pa_cons (pv 3) pa_nil)) (pv 7) (nomark _)) (pw_or1 (pt_cmpR (op_neD (hu_150 hr)) (pe_call G__law_asked hr (by exact rfl) m__law_asked k__law_asked b__law_asked .nil pass0 (pa_cons (pv 2) pa_nil)) (pe_lst (pa_cons pe_bl pa_nil)) (nomark _))))).pt
    (pss_one (ps_ret pe_bl))
    pss_nil)))
  (pss_one (ps_ret (pe_cmpR (op_eqD (hu_150 hr)) (pe_call G__law_asked hr (by exact rfl) m__law_asked k__law_asked b__law_asked .nil pass0 (pa_cons (pe_lst pa_nil) pa_nil)) (pe_lst (pa_cons pe_int (pa_cons pe_bl (pa_cons pe_bl (pa_cons pe_bl (pa_cons pe_bl pa_nil)))))) (nomark _)))))))))))), ?_⟩
  refine seq_then (fun σ' H' => ∃ wa us, σ' = [some (.ref a), some (.ref wa), none, none, none, none, none, none, none] ∧ Same H H' ∧ H' wa = some (.lst (us.map V.str)) ∧ Words us) ?_ ?_
  rotate_left
  · intro C hC
    walk_at "rd"
    refine ⟨a, ns, _, rfl, hS, hl, by decide, by decide, a, ns, _, rfl, hS, hl, by decide, by decide, _, rfl, by decide, _, _, rfl, cell_nn _ _, ?_, ?_, fun r H' ws e hr h hw => hC _ _ ⟨r, ws, rfl, e, h, hw⟩⟩
    · have := Int.emod_nonneg (cellOf ns 1) (show (5 : Int) ≠ 0 by decide)
      omega
    · have := Int.emod_lt_of_pos (cellOf ns 1) (show (0 : Int) < 5 by decide)
      omega
  rintro σ1 H1 ⟨wa, us, rfl, e1, h1, hu⟩
  refine seq_then (fun σ' H' => ∃ lw vs X, σ' = [some (.ref a), some (.ref wa), some (.ref lw), none, none, none, none, none, none] ∧ Same H H' ∧ H' lw = some (.lst vs) ∧ AtXs K H' vs X ∧ GoodWs X) ?_ ?_
  rotate_left
  · intro C hC
    walk_at "rd"
    exact ⟨a, ns, _, _, wa, us, rfl, e1.seq hS, hl, by decide, by decide, by decide, by decide, SqL.of h1, hu, fun r H' vs ws e fr h hW hg hp hi l1 l2 => hC _ _ ⟨r, vs, ws.map toX, rfl, e1.trans e, h, AtWs.toX hW, goodWs_of hu hg hp hi l1 (by omega)⟩⟩
  rintro σ2 H2 ⟨lw, vs, X, rfl, e2, h2, hX, G⟩
  have lv : vs.length = X.length := Paired.length hX
  have x24 := G.len
  have x1 : 1 ≤ X.length := List.length_pos_iff.mpr G.ne
  refine seq_then (fun σ' H' => σ' = [some (.ref a), some (.ref wa), some (.ref lw), some (.ref lw), none, none, none, none, none] ∧ H' = H2) ?_ ?_
  rotate_left
  · intro C hC
    walk_at "rd"
    exact hC _ _ ⟨rfl, rfl⟩
  rintro σ3 H3 ⟨rfl, rfl⟩
  refine seq_then (fun σ' H' => ∃ lb, σ' = [some (.ref a), some (.ref wa), some (.ref lw), some (.ref lw), some (.ref lb), none, none, none, none] ∧ Same H3 H' ∧ H3 lb = none ∧ H' lb = some (.lst [])) ?_ ?_
  rotate_left
  · intro C hC
    walk_at "rd"
    exact ⟨by decide, fun lb hlb => hC _ _ ⟨lb, rfl, same_new hlb _, hlb, upd_same⟩⟩
  rintro σ4 H4 ⟨lb, rfl, e4, f4, h4⟩
  refine seq_then (fun σ' H' => ∃ sl us xs L x5 x6, σ' = [some (.ref a), some (.ref wa), some (.ref lw), some (.ref sl), some (.ref lb), x5, x6, none, none] ∧ Same H3 H' ∧ H' lb = some (.lst (natsV L)) ∧ L.length ≤ 2 ∧ H' sl = some (.lst us) ∧ AtXs K H' us xs ∧ SpI X L xs) ?_ ?_
  rotate_left
  · intro C hC
    walk_at "ri"
    refine ⟨by decide, fun p hp => ⟨a, ns, 1, rfl, ((e2.trans e4).trans (same_new hp _)).seq hS, hl, by decide, by decide, ?_⟩⟩
    have sp := e4.trans (same_new hp (HO.lst [V.int 0, V.int 1, V.int 2, V.int 1, V.int 2, V.int 1]))
    have hb0 := (same_new hp (HO.lst [V.int 0, V.int 1, V.int 2, V.int 1, V.int 2, V.int 1])) _ _ h4
    obtain ⟨v, hv, hat⟩ := at_list (xs := [V.int 0, V.int 1, V.int 2, V.int 1, V.int 2, V.int 1]) (i := cellOf ns 1 / 5 % 6) (Int.emod_nonneg _ (by decide)) (Int.emod_lt_of_pos _ (by decide))
    have hj : ∃ j : Nat, v = .int (j : Nat) ∧ j ≤ 2 := by
      simp only [List.mem_cons, List.not_mem_nil, or_false] at hv
      rcases hv with rfl | rfl | rfl | rfl | rfl | rfl
      · exact ⟨0, rfl, by decide⟩
      · exact ⟨1, rfl, by decide⟩
      · exact ⟨2, rfl, by decide⟩
      · exact ⟨1, rfl, by decide⟩
      · exact ⟨2, rfl, by decide⟩
      · exact ⟨1, rfl, by decide⟩
    obtain ⟨j, rfl, hj2⟩ := hj
    refine ⟨_, rfl, ⟨by decide, by decide⟩, by decide, _, SqL.of upd_same, _, hat, _, rfl, by omega, by omega, ?_⟩
    generalize upd H4 p (HO.lst [V.int 0, V.int 1, V.int 2, V.int 1, V.int 2, V.int 1]) = H5 at sp hb0 ⊢
    refine for_range (D := { nx := C, rt := Q }) (n := ((j : Nat) : Int).toNat) (lo := 0) (fun i σ' H' => ∃ sl us xs L x5 x6, σ' = [some (.ref a), some (.ref wa), some (.ref lw), some (.ref sl), some (.ref lb), x5, x6, none, none] ∧ Same H3 H' ∧ H' lb = some (.lst (natsV L)) ∧ L.length ≤ i ∧ sl ≠ lb ∧ H' sl = some (.lst us) ∧ Paired (AtXn K H' lb) us xs ∧ SpI X L xs) ⟨lw, vs, X, [], none, none, rfl, sp, hb0, Nat.le_refl _, ne_of_none h2 f4, sp _ _ h2, Paired.mapP hX fun _ _ ⟨p, q, e, t1, t2⟩ => ⟨p, q, ne_of_none t2 f4, e, sp.sqt t1, sp _ _ t2⟩, SpI.zero G⟩ (fun i σ' H' hlt hp => ?_) (fun σ' H' hp => ?_)
    rotate_left
    · obtain ⟨sl, us, xs, L, x5, x6, rfl, e, hb, hL, nsl, hsl, hxs, S⟩ := hp
      exact hC _ _ ⟨sl, us, xs, L, x5, x6, rfl, e, hb, by omega, hsl, Paired.mapP hxs fun _ _ z => z.at, S⟩
    obtain ⟨sl, us, xs, L, x5, x6, rfl, e, hb, hL, nsl, hsl, hxs, S⟩ := hp
    show tSeq _ _ _ _ _
    refine seq_then (fun σ' H2 => ∃ n : Nat, n < X.length ∧ σ' = [some (.ref a), some (.ref wa), some (.ref lw), some (.ref sl), some (.ref lb), some (.int (0 + (i : Int))), some (.int (n : Nat)), none, none] ∧ H2 = H') ?_ ?_
    rotate_left
    · intro C hC
      walk_at "rd"
      refine ⟨a, ns, 0, rfl, (e2.trans e).seq hS, hl, by decide, by decide, _, _, rfl, by omega, by omega, vs, .inl (SqL.of (e _ _ h2)), _, rfl, by omega, ?_⟩
      have c0 := Int.emod_nonneg (mix (cellOf ns 0) (70 + (0 + (i : Int)))) (show ((vs.length : Nat) : Int) ≠ 0 by omega)
      have c1 := Int.emod_lt_of_pos (mix (cellOf ns 0) (70 + (0 + (i : Int)))) (show 0 < ((vs.length : Nat) : Int) by omega)
      generalize mix (cellOf ns 0) (70 + (0 + (i : Int))) % ((vs.length : Nat) : Int) = m at c0 c1 ⊢
      exact hC _ _ ⟨m.toNat, by omega, by rw [Int.toNat_of_nonneg c0], rfl⟩
    rintro σ6 H6 ⟨n, hn, rfl, rfl⟩
    walk_at "rd"
    refine ⟨_, .inl (SqL.of hb), rfl, nats_flat _, ?_⟩
    rw [if_pos trivial, in_nats]
    by_cases hin : n ∈ L
    · rw [decide_eq_true hin, if_neg (by decide)]
      exact ⟨e, us, xs, L, hb, by omega, nsl, hsl, hxs, S⟩
    rw [decide_eq_false hin, if_pos (by decide)]
    refine ⟨.inl ⟨rfl, _, SqL.of hb⟩, _, hb, small1M (by rw [natsV_len]; omega), ?_⟩
    have eA : Same H3 (upd H6 lb (.lst (natsV L ++ [V.int (n : Nat)]))) := e.write f4
    have hbA : upd H6 lb (.lst (natsV L ++ [V.int (n : Nat)])) lb = some (.lst (natsV (L ++ [n]))) := by rw [upd_same]; unfold natsV; rw [List.map_append]; rfl
    have hslA : upd H6 lb (.lst (natsV L ++ [V.int (n : Nat)])) sl = some (.lst us) := by rw [upd_ne nsl]; exact hsl
    have hxsA : AtXs K (upd H6 lb (.lst (natsV L ++ [V.int (n : Nat)]))) us xs := Paired.mapP hxs fun _ _ z => (z.write hb).at
    generalize upd H6 lb (.lst (natsV L ++ [V.int (n : Nat)])) = HA at eA hbA hslA hxsA ⊢
    have hx := List.getElem?_eq_getElem hn
    have hxn : xs[n]? = some X[n] := by rw [S.same n hin]; exact hx
    refine ⟨a, ns, 1, rfl, (e2.trans eA).seq hS, hl, by decide, by decide, _, _, rfl, by omega, by omega, sl, n, _, us, xs, X[n], rfl, hslA, hxsA, by rw [S.len]; exact x24, S.ok, hxn, G.okw n _ hx, fun z => G.b0 _ (by rw [← hx, z]), fun z => G.b1 n _ z hx, mix_nn _ _, fun r H7 us7 y e7 fr hr7 hx7 oky hbad => ?_⟩
    refine ⟨r, rfl, eA.trans e7, us7, xs.set n y, L ++ [n], e7 _ _ hbA, by rw [List.length_append, List.length_singleton]; omega, Ne.symm (ne_of_none hbA fr), hr7, Paired.mapP hx7 (fun _ _ z => atx_n (e7 _ _ hbA) (by simp) z), S.step G hin hx oky hbad⟩
  rintro σ5 H5 ⟨sl, us2, xs, L, x5, x6, rfl, e5, hb, hL, hsl, hxs, S⟩
  refine seq_then (fun σ' H' => ∃ ld, σ' = [some (.ref a), some (.ref wa), some (.ref lw), some (.ref sl), some (.ref lb), x5, x6, some (.ref ld), none] ∧ Same H5 H' ∧ H' ld = some (.lst [.bl true])) ?_ ?_
  rotate_left
  · intro C hC
    walk_at "rd"
    exact ⟨by decide, fun ld hld => hC _ _ ⟨ld, rfl, same_new hld _, upd_same⟩⟩
  rintro σ6 H6 ⟨ld, rfl, e6, h6⟩
  refine seq_then (fun σ' H' => ∃ ld, σ' = [some (.ref a), some (.ref wa), some (.ref lw), some (.ref sl), some (.ref lb), x5, x6, some (.ref ld), none] ∧ Same H5 H' ∧ XsOk xs ∧ ((AG xs ∧ H' ld = some (.lst [.bl true])) ∨ ∃ n, FB xs n ∧ H' ld = some (.lst (dueV n)))) ?_ ?_
  rotate_left
  · intro C hC
    walk_at "rd"
    refine ⟨by decide, fun p hp => ?_⟩
    have sp := e6.trans (same_new hp (HO.lst []))
    have hbp := sp _ _ hb
    have dnb : Dn K (upd H6 p (HO.lst [])) (V.ref lb) (.list (natsD L)) := by rw [Dn]; exact ⟨lb, _, rfl, SqL.of hbp, nats_dn _⟩
    refine ⟨_, dnb, _, strs_at (L := []) (SqL.of upd_same), nats_lay _, rfl, Nat.le_trans (Nat.min_le_left _ _) (Nat.le_trans (nats_depth _) (by decide)), ?_⟩
    rw [if_pos trivial]
    match L, hL, hbp, S with
    | [], _, _, S =>
      rw [if_neg (by decide)]
      have ex : xs = X := List.ext_getElem? fun n => S.same n (by simp)
      subst ex
      exact hC _ _ ⟨ld, rfl, sp, G.xok, .inl ⟨G.ag, (same_new hp _) _ _ h6⟩⟩
    | [n], _, hbp, S =>
      rw [if_pos (by rfl)]
      obtain ⟨hf, hk⟩ := S.first G (n := n) (by simp) (fun m hm => by rw [List.mem_singleton.mp hm]; exact Nat.le_refl _)
      exact .inl ⟨_, SqL.of hbp, by decide, fun p1 hp1 => hC _ _ ⟨p1, rfl, sp.trans (same_new hp1 _), hk, .inr ⟨n, hf, upd_same⟩⟩⟩
    | [n, m], _, hbp, S =>
      rw [if_pos (by rfl)]
      refine .inr ⟨_, _, SqL.of hbp, by decide, fun p1 hp1 => ?_⟩
      by_cases hlt : ((m : Nat) : Int) < ((n : Nat) : Int)
      · rw [if_pos hlt]
        obtain ⟨hf, hk⟩ := S.first G (n := m) (by simp) (fun i hi => by simp only [List.mem_cons, List.not_mem_nil, or_false] at hi; omega)
        exact hC _ _ ⟨p1, rfl, sp.trans (same_new hp1 _), hk, .inr ⟨m, hf, upd_same⟩⟩
      · rw [if_neg hlt]
        obtain ⟨hf, hk⟩ := S.first G (n := n) (by simp) (fun i hi => by simp only [List.mem_cons, List.not_mem_nil, or_false] at hi; omega)
        exact hC _ _ ⟨p1, rfl, sp.trans (same_new hp1 _), hk, .inr ⟨n, hf, upd_same⟩⟩
    | _ :: _ :: _ :: _, hL, _, _ => exact absurd hL (by simp)
  rintro σ7 H7 ⟨ld7, rfl, e7, xok, hdue⟩
  refine seq_then (fun σ' H' => ∃ x8, σ' = [some (.ref a), some (.ref wa), some (.ref lw), some (.ref sl), some (.ref lb), x5, x6, some (.ref ld7), x8]) ?_ ?_
  rotate_left
  · intro C hC
    walk_at "ri"
    refine ⟨by decide, by decide, ?_⟩
    refine for_range (D := { nx := C, rt := Q }) (n := Int.toNat 2) (lo := 0) (fun i σ' H' => ∃ x8, σ' = [some (.ref a), some (.ref wa), some (.ref lw), some (.ref sl), some (.ref lb), x5, x6, some (.ref ld7), x8] ∧ Same H7 H') ⟨none, rfl, Same.refl _⟩ (fun i σ' H' hlt hp => ?_) (fun σ' H' ⟨x8, h, _⟩ => hC _ _ ⟨x8, h⟩)
    obtain ⟨x8, rfl, e8⟩ := hp
    have E8 := e7.trans e8
    obtain ⟨D, dD, hA, hF, hself, hlay, hdep⟩ := due_pick (K := K) hdue
    walk_at "rd"
    have tail : ∀ (r : Addr) (H9 : Hp), Same H' H9 → Dn K H9 (.ref r) D → ∃ d, Dn K H9 (.ref r) d ∧ ∃ x, Dn K H9 (.ref ld7) x ∧ d.canLay0 = true ∧ x.canLay0 = true ∧ min d.depth x.depth ≤ 150 ∧
        if (if True then !d.eqv x else d.eqv x) = true then if True then Q (V.bl false) H9 else Same H7 H9
        else sp_ask K [V.ref lw] H9 (fun x H1 => 1 ≤ sizeLine ∧ ∀ p, H1 p = none → ∃ d, Dn K (upd H1 p (HO.lst [V.bl true])) x d ∧ ∃ x, Dn K (upd H1 p (HO.lst [V.bl true])) (V.ref p) x ∧ d.canLay0 = true ∧ x.canLay0 = true ∧ min d.depth x.depth ≤ 150 ∧
          if (if True then !d.eqv x else d.eqv x) = true then Q (V.bl false) (upd H1 p (HO.lst [V.bl true])) else Same H7 (upd H1 p (HO.lst [V.bl true]))) E0 := fun r H9 e9 hr9 => by
      have E9 := (e5.trans E8).trans e9
      refine ⟨D, hr9, D, dD _ (e8.trans e9), hlay, hlay, Nat.le_trans (Nat.min_le_left _ _) (Nat.le_trans hdep (by decide)), ?_⟩
      rw [if_neg (by rw [if_pos trivial, hself]; exact Bool.false_ne_true)]
      refine ⟨lw, vs, X, rfl, E9 _ _ h2, AtXs.keep E9 hX, G.xok, fun _ r2 H10 e10 h10 => ⟨by decide, fun p hp => ?_⟩, fun n f => absurd f fun z => ag_fb G.ag z⟩
      have sp := same_new hp (HO.lst [V.bl true])
      refine ⟨_, yes_dn (sp _ _ h10), _, yes_dn upd_same, rfl, rfl, by decide, ?_⟩
      rw [if_neg (by decide)]
      exact ((e8.trans e9).trans e10).trans sp
    exact ⟨sl, us2, xs, rfl, E8 _ _ hsl, AtXs.keep E8 hxs, xok, fun hg r H9 e9 h9 => tail r H9 e9 (by rw [hA hg]; exact yes_dn h9), fun n hn r H9 e9 h9 => tail r H9 e9 (by rw [hF n hn]; exact due_dn h9)⟩
  intro σ8 H8 hσ
  obtain ⟨x8, rfl⟩ := hσ
  walk_at "rd"
  refine ⟨by decide, fun p hp => ⟨p, [], [], rfl, upd_same, .nil, xok_nil, fun hg => absurd rfl hg.1, fun n hn r H9 e9 h9 => ?_⟩⟩
  have n0 : n = 0 := fb_uniq hn fb_nil
  subst n0
  refine ⟨by decide, fun p2 hp2 => ⟨_, due_dn ((same_new hp2 _) _ _ h9), _, due_dn (n := 0) upd_same, due_lay _, due_lay _, by decide, ?_⟩⟩
  rw [due_self]
  exact q _
end
set_option Elab.async false
set_option linter.all false
set_option maxRecDepth 100000
set_option maxHeartbeats 4000000
local macro_rules | `(tactic| walk_at "rd") => `(tactic| walk_at "rdx_3")
local macro_rules | `(tactic| walk_at "ri") => `(tactic| walk_at "rdx_4")
noncomputable abbrev s__law_asked : Stmt := top 32
theorem sc__law_asked : FnScope ["_law_worlds_here", "_law_handed", "_law_found", "_law_told", "error", "_law_one", "_law_other"] ["_law_worlds_here"] (defScope s__law_asked) := ⟨rfl, rfl, rfl, by decide +kernel, rfl, by decide +kernel, by decide +kernel⟩
section
variable {P : Program} {w : World} {K : PySem.W.Frag} {mg : Str → Option Value} {base : Heap}
theorem ok__law_asked {k : Nat} {f__law_asked : Addr} {fd__law_asked : FuncData} (F__law_asked : Fun K "_law_asked" "_law_asked" s__law_asked f__law_asked fd__law_asked) {f__law_copy : Addr} {fd__law_copy : FuncData} (G__law_copy : FnOk P w K mg base CX0 k f__law_copy fd__law_copy ["_law_worlds_here"] (sp_copyX K)) (m__law_copy : mg "_law_copy" = some (.ref f__law_copy)) (k__law_copy : PySem.W.keepIn K (.ref f__law_copy) = true) (b__law_copy : Binds K fd__law_copy ["_law_worlds_here"] []) {aNoWorlds : Addr} {f_look : Addr} {fd_look : FuncData} (G_look : FnOk P w K mg base (CXe P w) k f_look fd_look ["worlds"] (sp_look K aNoWorlds)) (m_look : mg "look" = some (.ref f_look)) (k_look : PySem.W.keepIn K (.ref f_look) = true) (b_look : Binds K fd_look ["worlds"] []) {aKenError aLarge aNoKind aNoLine aNoRow aNoText aNoTurning aNoWish aNoRule aNotShown aTwice : Addr} (m_NoWorlds : mg "NoWorlds" = some (.ref aNoWorlds)) (xc_NoWorlds : XC K aNoWorlds) (z_NoWorlds : XIsi K aNoWorlds) (w_NoWorlds : PySem.W.findIn K (.ref aNoWorlds) "world" = some none) (d_NoWorlds : PySem.W.hasDictIn K aNoWorlds = true) (m_KenError : mg "KenError" = some (.ref aKenError)) (m_Large : mg "Large" = some (.ref aLarge)) (m_NoKind : mg "NoKind" = some (.ref aNoKind)) (m_NoLine : mg "NoLine" = some (.ref aNoLine)) (m_NoRow : mg "NoRow" = some (.ref aNoRow)) (m_NoText : mg "NoText" = some (.ref aNoText)) (m_NoTurning : mg "NoTurning" = some (.ref aNoTurning)) (m_NoWish : mg "NoWish" = some (.ref aNoWish)) (m_NoRule : mg "NoRule" = some (.ref aNoRule)) (m_NotShown : mg "NotShown" = some (.ref aNotShown)) (m_Twice : mg "Twice" = some (.ref aTwice)) (i_1 : PySem.W.kitOne K (.ref aNoWorlds) (.ref aKenError) = some true) (i_2 : PySem.W.kitOne K (.ref aNoWorlds) (.type "ValueError") = some true) (i_3 : PySem.W.kitAny K (.ref aNoWorlds) [.ref aLarge, .ref aNoKind, .ref aNoLine, .ref aNoRow, .ref aNoRule, .ref aNotShown] = some false) (i_4 : PySem.W.kitAny K (.ref aNoWorlds) [.ref aNoText, .ref aNoTurning, .ref aNoWish, .ref aTwice] = some false) (m_isinstance : mg "isinstance" = none) (m_bool : mg "bool" = none) (m_ValueError : mg "ValueError" = none) : FnOk P w K mg base CX0 (k + 1) f__law_asked fd__law_asked ["_law_worlds_here"] (sp_ask K) := by
  refine F__law_asked.ok sc__law_asked (fun vs H Q E h => ?_) (fun cdv A outer s H vs Q E hr h => ?_)
  · obtain ⟨a, us, xs, rfl, _⟩ := h
    rfl
  obtain ⟨a, us, xs, rfl, ha, hX, hok, q0, q1⟩ := h
  refine ⟨_, (pss_cons (ps_set (i := 1) sc__law_asked.nd rfl (Or.inl rfl) (pe_call G__law_copy hr (by exact rfl) m__law_copy k__law_copy b__law_copy .nil pass0 (pa_cons (pv 0) pa_nil)))
  (pss_cons (ps_set (i := 2) sc__law_asked.nd rfl (Or.inl rfl) pe_non)
  (pss_cons (ps_set (i := 3) sc__law_asked.nd rfl (Or.inl rfl) pe_non)
  (pss_cons (ps_trySA (j := 2) (i := 4) rfl rfl rfl (by exact rfl) m_NoWorlds xc_NoWorlds sc__law_asked.nd rfl (Or.inl rfl) rfl rfl (px_call G_look hr (by exact rfl) m_look k_look b_look .nil (pa_cons (pv 1) pa_nil))
    (fun ea => (pss_cons (ps_set (i := 5) sc__law_asked.nd rfl (Or.inl rfl) (pe_callB (call_isiTK (K := K) rfl) (by exact rfl) m_isinstance Ken.boot_isinstance (pa_cons (pv 4) (pa_cons (pe_tup (pa_cons (pe_glob (v := .ref aLarge) (by exact rfl) m_Large (by exact rfl)) (pa_cons (pe_glob (v := .ref aNoKind) (by exact rfl) m_NoKind (by exact rfl)) (pa_cons (pe_glob (v := .ref aNoLine) (by exact rfl) m_NoLine (by exact rfl)) (pa_cons (pe_glob (v := .ref aNoRow) (by exact rfl) m_NoRow (by exact rfl)) (pa_cons (pe_glob (v := .ref aNoRule) (by exact rfl) m_NoRule (by exact rfl)) (pa_cons (pe_glob (v := .ref aNotShown) (by exact rfl) m_NotShown (by exact rfl)) pa_nil))))))) pa_nil))))
  (pss_cons (ps_set (i := 6) sc__law_asked.nd rfl (Or.inl rfl) (pe_callB (call_isiTK (K := K) rfl) (by exact rfl) m_isinstance Ken.boot_isinstance (pa_cons (pv 4) (pa_cons (pe_tup (pa_cons (pe_glob (v := .ref aNoText) (by exact rfl) m_NoText (by exact rfl)) (pa_cons (pe_glob (v := .ref aNoTurning) (by exact rfl) m_NoTurning (by exact rfl)) (pa_cons (pe_glob (v := .ref aNoWish) (by exact rfl) m_NoWish (by exact rfl)) (pa_cons (pe_glob (v := .ref aTwice) (by exact rfl) m_Twice (by exact rfl)) pa_nil))))) pa_nil))))
  (pss_one (ps_set (i := 3) sc__law_asked.nd rfl (Or.inl rfl) (pe_lst (pa_cons (pe_xfldK (K := K) rfl (pv 4)) (pa_cons (pe_callB (call_isiCK (K := K) rfl) (by exact rfl) m_isinstance Ken.boot_isinstance (pa_cons (pv 4) (pa_cons (pe_glob (v := .ref aKenError) (by exact rfl) m_KenError (by exact rfl)) pa_nil))) (pa_cons (pe_callB (call_isiBK (K := K) rfl) (by exact rfl) m_isinstance Ken.boot_isinstance (pa_cons (pv 4) (pa_cons (pe_bltn (v := .ty "ValueError") (by exact rfl) m_ValueError Ken.boot_ValueError (by exact rfl)) pa_nil))) (pa_cons (pv 5) (pa_cons (pv 6) pa_nil))))))))))))
  (pss_cons (ps_if (pt_cmpR (op_neD (hu_150 hr)) (pv 1) (pv 0) (nomark _))
    (pss_one (ps_ret pe_non))
    pss_nil)
  (pss_cons (ps_if (pt_cmpR (op_isN) (pv 3) pe_non (nomark _))
    (pss_one (ps_ret (pe_lst (pa_cons (pe_cmpR (op_isB) (pv 2) pe_bl (nomark _)) pa_nil))))
    pss_nil)
  (pss_cons (ps_if (pt_val (pe_callB call_isi (by exact rfl) m_isinstance Ken.boot_isinstance (pa_cons (pe_ix ix_list (pv 3) pe_int (fun _ _ => rfl)) (pa_cons (pe_bltn (v := .ty "bool") (by exact rfl) m_bool Ken.boot_bool (by exact rfl)) pa_nil))))
    (pss_one (ps_ret pe_non))
    pss_nil)
  (pss_one (ps_ret (pv 3)))))))))), ?_⟩
  refine seq_then (fun σ' H' => ∃ l ys, σ' = [some (.ref a), some (.ref l), none, none, none, none, none] ∧ Same H H' ∧ H' l = some (.lst ys) ∧ AtXs K H' ys xs) ?_ ?_
  rotate_left
  · intro C hC
    walk_at "rd"
    exact ⟨a, us, xs, rfl, ha, hX, by have := hok.1; omega, fun r H' ys e fr h hy => hC _ _ ⟨r, ys, rfl, e, h, hy⟩⟩
  rintro σ1 H1 ⟨l, ys, rfl, e1, h1, hY⟩
  refine seq_then (fun σ' H' => σ' = [some (.ref a), some (.ref l), some .non, none, none, none, none] ∧ H' = H1) ?_ ?_
  rotate_left
  · intro C hC
    walk_at "rd"
    exact hC _ _ ⟨rfl, rfl⟩
  rintro σ2 H2 ⟨rfl, rfl⟩
  refine seq_then (fun σ' H' => σ' = [some (.ref a), some (.ref l), some .non, some .non, none, none, none] ∧ H' = H2) ?_ ?_
  rotate_left
  · intro C hC
    walk_at "rd"
    exact hC _ _ ⟨rfl, rfl⟩
  rintro σ3 H3 ⟨rfl, rfl⟩
  refine seq_then (fun σ' H' => Same H3 H' ∧ ((AG xs ∧ σ' = [some (.ref a), some (.ref l), some (.bl true), some .non, none, none, none]) ∨ ∃ n t x5 x6, FB xs n ∧ σ' = [some (.ref a), some (.ref l), some .non, some (.ref t), none, x5, x6] ∧ H' t = some (.lst (dueV n)))) ?_ ?_
  rotate_left
  · intro C hC
    walk_at "rd"
    refine ⟨l, ys, xs, rfl, h1, hY, hok, fun hg H' e => hC _ _ ⟨e, .inl ⟨hg, rfl⟩⟩, fun n hn e d H' hx hd => ?_⟩
    obtain ⟨T, hF⟩ := hx.2.2
    refine ⟨e, T, rfl, hF, ?_⟩
    have D : ∀ H2 : Hp, Same H' H2 → XDict H2 (some d) := fun H2 s d' z => by cases z; exact ⟨_, s _ _ hd⟩
    walk_at "rd"
    refine ⟨by decide, fun p hp => ?_⟩
    have s1 := same_new hp (HO.tup [V.ref aLarge, V.ref aNoKind, V.ref aNoLine, V.ref aNoRow, V.ref aNoRule, V.ref aNotShown])
    refine ⟨aNoWorlds, some d, T, s1 _ _ hF.1, D _ s1, z_NoWorlds, [aLarge, aNoKind, aNoLine, aNoRow, aNoRule, aNotShown], upd_same, false, i_3, by decide, fun p2 hp2 => ?_⟩
    have s2 := s1.trans (same_new hp2 (HO.tup [V.ref aNoText, V.ref aNoTurning, V.ref aNoWish, V.ref aTwice]))
    refine ⟨aNoWorlds, some d, T, s2 _ _ hF.1, D _ s2, z_NoWorlds, [aNoText, aNoTurning, aNoWish, aTwice], upd_same, false, i_4, ?_⟩
    have he2 := s2 _ _ hF.1
    have hd2 := s2 _ _ hd
    have D2 := D _ s2
    generalize upd (upd H' p _) p2 _ = H6 at s2 he2 hd2 D2 ⊢
    refine ⟨aNoWorlds, d, T, he2, _, hd2, z_NoWorlds.toXGet, w_NoWorlds, d_NoWorlds, .int (n : Nat), rfl, aNoWorlds, some d, T, he2, D2, z_NoWorlds, true, i_1, aNoWorlds, some d, T, he2, D2, z_NoWorlds, true, i_2, by decide, fun t ht => ?_⟩
    exact hC _ _ ⟨(hx.2.1.trans s2).trans (same_new ht _), .inr ⟨n, t, _, _, hn, rfl, upd_same⟩⟩
  rintro σ4 H4 ⟨e4, hcase⟩
  refine seq_then (fun σ' H' => σ' = σ4 ∧ H' = H4) ?_ ?_
  rotate_left
  · intro C hC
    have dl : Dn K H4 (.ref l) (.list (xs.map xdD)) := xds_at (e4 _ _ h1) (AtXs.keep e4 hY)
    have da : Dn K H4 (.ref a) (.list (xs.map xdD)) := xds_at ((e1.trans e4) _ _ ha) (AtXs.keep (e1.trans e4) hX)
    have dd : min (PyData.list (xs.map xdD)).depth (PyData.list (xs.map xdD)).depth ≤ 150 := Nat.le_trans (Nat.min_le_left _ _) (Nat.le_trans (xds_depth _) (by decide))
    rcases hcase with ⟨hg, rfl⟩ | ⟨n, t, x5, x6, hn, rfl, ht⟩ <;>
    · walk_at "rd"
      refine ⟨_, dl, _, da, xds_lay hok.2.1, xds_lay hok.2.1, dd, ?_⟩
      rw [if_neg (by rw [if_pos trivial, xds_self]; exact Bool.false_ne_true)]
      exact hC _ _ ⟨rfl, rfl⟩
  rintro σ5 H5 ⟨rfl, rfl⟩
  rcases hcase with ⟨hg, rfl⟩ | ⟨n, t, x5, x6, hn, rfl, ht⟩
  · walk_at "rd"
    rw [if_pos trivial]
    refine ⟨.inr trivial, by decide, fun p hp => q0 hg _ _ ((e1.trans e4).trans (same_new hp _)) (by rw [upd_same, decide_eq_true trivial])⟩
  · walk_at "rd"
    rw [if_neg (fun z => nomatch z)]
    refine ⟨_, SqL.of ht, .int (n : Nat), rfl, _, .of (.int _), _, show PySem.W.kitOne K (.type "int") (.type "bool") = some false from rfl, ?_⟩
    rw [if_neg Bool.false_ne_true]
    exact q1 n hn t _ (e1.trans e4) ht
end
set_option Elab.async false
set_option linter.all false
set_option maxRecDepth 100000
set_option maxHeartbeats 4000000
local macro_rules | `(tactic| walk_at "rd") => `(tactic| walk_at "rdx_3")
local macro_rules | `(tactic| walk_at "ri") => `(tactic| walk_at "rdx_4")
noncomputable abbrev s__law_bad_before : Stmt := top 28
theorem sc__law_bad_before : FnScope ["_law_world", "_law_cell_here"] ["_law_world", "_law_cell_here"] (defScope s__law_bad_before) := ⟨rfl, rfl, rfl, by decide +kernel, rfl, by decide +kernel, by decide +kernel⟩
noncomputable abbrev s__law_bad_word : Stmt := top 29
theorem sc__law_bad_word : FnScope ["_law_cell_here"] ["_law_cell_here"] (defScope s__law_bad_word) := ⟨rfl, rfl, rfl, by decide +kernel, rfl, by decide +kernel, by decide +kernel⟩
noncomputable abbrev s__law_bad_words : Stmt := top 30
theorem sc__law_bad_words : FnScope ["_law_words_here", "_law_old", "_law_cell_here", "_law_way", "_law_at"] ["_law_words_here", "_law_old", "_law_cell_here"] (defScope s__law_bad_words) := ⟨rfl, rfl, rfl, by decide +kernel, rfl, by decide +kernel, by decide +kernel⟩
section
variable {P : Program} {w : World} {K : PySem.W.Frag} {mg : Str → Option Value} {base : Heap}
theorem ok__law_bad_before {k : Nat} {f__law_bad_before : Addr} {fd__law_bad_before : FuncData} (F__law_bad_before : Fun K "_law_bad_before" "_law_bad_before" s__law_bad_before f__law_bad_before fd__law_bad_before) : FnOk P w K mg base CX0 (k + 1) f__law_bad_before fd__law_bad_before ["_law_world", "_law_cell_here"] sp_bb := by
  refine F__law_bad_before.ok sc__law_bad_before (fun vs H Q E h => ?_) (fun cdv A outer s H vs Q E hr h => ?_)
  · obtain ⟨n, c, rfl, _⟩ := h
    rfl
  obtain ⟨n, c, rfl, hn, hc, q⟩ := h
  refine ⟨_, (pss_cons (ps_if (pt_cmpR (op_eq) (pv 0) pe_int (nomark _))
    (pss_one (ps_ret (pe_ix ix_list (pe_lst (pa_cons pe_int (pa_cons pe_int (pa_cons (pe_op op_sub (pe_op op_sub pe_int pe_int) (pe_op op_mod (pe_op op_fdiv (pv 1) pe_int) pe_int)) (pa_cons (pe_op op_mod (pe_op op_fdiv (pv 1) pe_int) (pe_op op_pow pe_int pe_int)) pa_nil))))) (pe_op op_mod (pv 1) pe_int) (fun _ _ => rfl))))
    pss_nil)
  (pss_cons (ps_if (pt_cmpR (op_eq) (pe_op op_mod (pv 1) pe_int) pe_int (nomark _))
    (pss_one (ps_ret pe_non))
    pss_nil)
  (pss_one (ps_ret (pe_ix ix_list (pe_lst (pa_cons (pv 0) (pa_cons (pe_op op_add (pv 0) pe_int) (pa_cons (pe_op op_sub (pe_op op_sub pe_int pe_int) (pe_op op_mod (pe_op op_fdiv (pv 1) pe_int) (pv 0))) (pa_cons (pe_op op_add (pv 0) (pe_op op_mod (pe_op op_fdiv (pv 1) pe_int) (pe_op op_pow pe_int pe_int))) pa_nil))))) (pe_op op_mod (pv 1) pe_int) (fun _ _ => rfl)))))), ?_⟩
  refine seq_then (fun σ' H' => σ' = [some (.int (n : Nat)), some (.int c)] ∧ H' = H ∧ n ≠ 0) ?_ ?_
  rotate_left
  · intro C hC
    walk_at "rd"
    refine ite2 (fun h0 => ⟨⟨by decide, by decide⟩, by decide, ⟨by decide, by decide⟩, ⟨by decide, by decide, by decide⟩, by decide, by decide, fun p hp => ⟨by decide, _, SqL.of upd_same, ?_⟩⟩) (fun h0 => hC _ _ ⟨rfl, rfl, by omega⟩)
    obtain ⟨v, hv, hat⟩ := at_list (xs := [V.int 0, V.int 1, V.int (0 - 1 - c / 8 % 9), V.int (c / 8 % 10 ^ Int.toNat 9)]) (i := c % 4) (by omega) (by show c % 4 < 4; omega)
    refine ⟨v, hat, ?_⟩
    have hb : ∃ i : Int, v = iV (some i) := by
      simp only [List.mem_cons, List.not_mem_nil, or_false] at hv
      rcases hv with rfl | rfl | rfl | rfl <;> exact ⟨_, rfl⟩
    obtain ⟨i, rfl⟩ := hb
    exact q _ _ (same_new hp _) ⟨fun _ => (fun z => nomatch z), fun z => absurd z (by omega)⟩
  rintro σ1 H1 ⟨rfl, rfl, hn0⟩
  refine seq_then (fun σ' H' => σ' = [some (.int (n : Nat)), some (.int c)] ∧ H' = H1) ?_ ?_
  rotate_left
  · intro C hC
    walk_at "rd"
    exact ⟨by decide, ite2 (fun _ => q none _ (Same.refl _) ⟨fun z => absurd z hn0, fun _ i z => nomatch z⟩) (fun _ => hC _ _ ⟨rfl, rfl⟩)⟩
  rintro σ2 H2 ⟨rfl, rfl⟩
  walk_at "rd"
  refine ⟨⟨by decide, by decide⟩, by omega, ⟨by decide, by decide⟩, ⟨by decide, by decide, by decide⟩, by decide, by decide, fun p hp => ⟨by decide, _, SqL.of upd_same, ?_⟩⟩
  obtain ⟨v, hv, hat⟩ := at_list (xs := [V.int (n : Nat), V.int ((n : Nat) + 1), V.int (0 - 1 - c / 8 % (n : Nat)), V.int ((n : Nat) + c / 8 % 10 ^ Int.toNat 9)]) (i := c % 4) (by omega) (by show c % 4 < 4; omega)
  refine ⟨v, hat, ?_⟩
  have m0 := Int.emod_nonneg (c / 8) (show ((n : Nat) : Int) ≠ 0 by omega)
  have m1 := Int.emod_nonneg (c / 8) (show (10 ^ Int.toNat 9 : Int) ≠ 0 by decide)
  have hb : ∃ i : Int, v = iV (some i) ∧ ¬ (0 ≤ i ∧ i < (n : Int)) := by
    simp only [List.mem_cons, List.not_mem_nil, or_false] at hv
    rcases hv with rfl | rfl | rfl | rfl
    · exact ⟨_, rfl, by omega⟩
    · exact ⟨_, rfl, by omega⟩
    · exact ⟨_, rfl, by omega⟩
    · exact ⟨_, rfl, by omega⟩
  obtain ⟨i, rfl, hi⟩ := hb
  exact q _ _ (same_new hp _) ⟨fun z => absurd z hn0, fun _ j e => by cases e; exact hi⟩
theorem bads_ok : ∀ x ∈ (["", "K", "kkkkkkkkk", "k k", "k1", "z{", "`k", "k\n", "kkkkkkkk~"] : List Str), isW x = false ∧ x.length ≤ 9 ∧ (PyData.str x).canLay0 = true := by decide +kernel
theorem ok__law_bad_word {k : Nat} {f__law_bad_word : Addr} {fd__law_bad_word : FuncData} (F__law_bad_word : Fun K "_law_bad_word" "_law_bad_word" s__law_bad_word f__law_bad_word fd__law_bad_word) : FnOk P w K mg base CX0 (k + 1) f__law_bad_word fd__law_bad_word ["_law_cell_here"] sp_bwd := by
  refine F__law_bad_word.ok sc__law_bad_word (fun vs H Q E h => ?_) (fun cdv A outer s H vs Q E hr h => ?_)
  · obtain ⟨c, rfl, _⟩ := h
    rfl
  obtain ⟨c, rfl, hc, q⟩ := h
  refine ⟨_, (pss_one (ps_ret (pe_ix ix_list (pe_lst (pa_cons pe_str (pa_cons pe_str (pa_cons pe_str (pa_cons pe_str (pa_cons pe_str (pa_cons pe_str (pa_cons pe_str (pa_cons pe_str (pa_cons pe_str pa_nil)))))))))) (pe_op op_mod (pv 0) pe_int) (fun _ _ => rfl)))), ?_⟩
  walk_at "rd"
  refine ⟨by decide, fun p hp => ⟨by decide, _, SqL.of upd_same, ?_⟩⟩
  obtain ⟨v, hv, hat⟩ := at_list (xs := (["", "K", "kkkkkkkkk", "k k", "k1", "z{", "`k", "k\n", "kkkkkkkk~"] : List Str).map V.str) (i := c % 9) (by omega) (by show c % 9 < 9; omega)
  refine ⟨v, hat, ?_⟩
  obtain ⟨x, hx, rfl⟩ := List.mem_map.mp hv
  have := bads_ok x hx
  exact q _ _ (same_new hp _) this.1 this.2.1 this.2.2
theorem ok__law_bad_words {k : Nat} {f__law_bad_words : Addr} {fd__law_bad_words : FuncData} (F__law_bad_words : Fun K "_law_bad_words" "_law_bad_words" s__law_bad_words f__law_bad_words fd__law_bad_words) {f__law_bad_word : Addr} {fd__law_bad_word : FuncData} (G__law_bad_word : FnOk P w K mg base CX0 k f__law_bad_word fd__law_bad_word ["_law_cell_here"] (sp_bwd)) (m__law_bad_word : mg "_law_bad_word" = some (.ref f__law_bad_word)) (k__law_bad_word : PySem.W.keepIn K (.ref f__law_bad_word) = true) (b__law_bad_word : Binds K fd__law_bad_word ["_law_cell_here"] []) (m_list : mg "list" = none) (m_len : mg "len" = none) (m_reversed : mg "reversed" = none) : FnOk P w K mg base CX0 (k + 1) f__law_bad_words fd__law_bad_words ["_law_words_here", "_law_old", "_law_cell_here"] (sp_bws K) := by
  refine F__law_bad_words.ok sc__law_bad_words (fun vs H Q E h => ?_) (fun cdv A outer s H vs Q E hr h => ?_)
  · obtain ⟨wa, oa, ws, os, c, rfl, _⟩ := h
    rfl
  obtain ⟨wa, oa, ws, os, c, rfl, hw, ho, hW, lo, hO, hc, q⟩ := h
  refine ⟨_, (pss_cons (ps_set (i := 3) sc__law_bad_words.nd rfl (Or.inl rfl) (pe_op op_mod (pv 2) pe_int))
  (pss_cons (ps_if ((pw_and (pt_cmpR (op_eq) (pv 3) pe_int (nomark _)) (pw_and1 (pt_cmpR (op_gt) (pe_callB call_len_seq (by exact rfl) m_len Ken.boot_len (pa_cons (pv 0) pa_nil)) pe_int (nomark _))))).pt
    (pss_one (ps_ret (pe_revd rfl rfl m_list rfl m_reversed (pa_cons (pv 0) pa_nil))))
    pss_nil)
  (pss_cons (ps_if ((pw_and (pt_cmpR (op_eq) (pv 3) pe_int (nomark _)) (pw_and1 (pt_cmpR (op_neD (hu_150 hr)) (pv 0) (pe_lst pa_nil) (nomark _))))).pt
    (pss_cons (ps_set (i := 4) sc__law_bad_words.nd rfl (Or.inl rfl) (pe_op op_mod (pe_op op_fdiv (pv 2) pe_int) (pe_callB call_len_seq (by exact rfl) m_len Ken.boot_len (pa_cons (pv 0) pa_nil))))
  (pss_one (ps_ret (pe_op op_cat (pe_op op_cat (pe_slice sl_list (pv 0) po_none (po_some (pv 4))) (pe_lst (pa_cons (pe_ix ix_list (pv 0) (pv 4) (fun _ _ => rfl)) pa_nil))) (pe_slice sl_list (pv 0) (po_some (pv 4)) po_none)))))
    pss_nil)
  (pss_cons (ps_if ((pw_and (pt_cmpR (op_eq) (pv 3) pe_int (nomark _)) (pw_and1 (pt_cmpR (op_neD (hu_150 hr)) (pv 1) (pe_lst pa_nil) (nomark _))))).pt
    (pss_one (ps_ret (pe_lcG (blkC (N' := ["_law_word", "_law_old", "_law_cell_here"]) (nt := 1) (ci := [1, 2]) ["_law_words_here", "_law_old", "_law_cell_here", "_law_way", "_law_at"] (defScope s__law_bad_words) rfl rfl (by decide +kernel) rfl (by decide +kernel) (by decide +kernel) rfl (by decide +kernel)) rfl (pi_list (pv 0)) (fun _ _ _ _ => (pg_name (i := 0) (show (["_law_word", "_law_old", "_law_cell_here"] : List Str).Nodup from by decide +kernel) rfl (Or.inl rfl))) (fun _ _ => turn_L1 (tg2 := (.Name "" ⟨0, 0, 0, 0⟩)) (iter2 := (.Name "" ⟨0, 0, 0, 0⟩))) (fun _ _ _ _ _ => (pk_test (pt_cmpR (op_ne) (pv 0) (pe_ix (ix_listK (K := K) rfl) (pv 1) (pe_op op_mod (pe_op op_fdiv (pv 2) pe_int) (pe_callB (call_len_seqK (K := K) rfl) (by exact rfl) (by exact m_len) Ken.boot_len (pa_cons (pv 1) pa_nil))) (fun _ _ => rfl)) (nomark _)) (pk_emitL (pv 0)))))))
    pss_nil)
  (pss_cons (ps_set (i := 4) sc__law_bad_words.nd rfl (Or.inl rfl) (pe_op op_mod (pe_op op_fdiv (pv 2) pe_int) (pe_op op_add (pe_callB call_len_seq (by exact rfl) m_len Ken.boot_len (pa_cons (pv 0) pa_nil)) pe_int)))
  (pss_one (ps_ret (pe_op op_cat (pe_op op_cat (pe_slice sl_list (pv 0) po_none (po_some (pv 4))) (pe_lst (pa_cons (pe_call G__law_bad_word hr (by exact rfl) m__law_bad_word k__law_bad_word b__law_bad_word .nil pass0 (pa_cons (pe_op op_fdiv (pv 2) pe_int) pa_nil)) pa_nil))) (pe_slice sl_list (pv 0) (po_some (pv 4)) po_none))))))))), ?_⟩
  refine seq_then (fun σ' H' => σ' = [some (.ref wa), some (.ref oa), some (.int c), some (.int (c % 4)), none] ∧ H' = H) ?_ ?_
  rotate_left
  · intro C hC
    walk_at "rd"
    exact ⟨by decide, hC _ _ ⟨rfl, rfl⟩⟩
  rintro σ1 H1 ⟨rfl, rfl⟩
  refine seq_then (fun σ' H' => σ' = [some (.ref wa), some (.ref oa), some (.int c), some (.int (c % 4)), none] ∧ H' = H1) ?_ ?_
  rotate_left
  · intro C hC
    walk_at "rd"
    refine ite2 (fun _ => ⟨_, .inl hw, ?_⟩) (fun _ => ?_)
    · refine ite2 (fun hl => ⟨_, hw, by rw [List.length_map]; have := hW.len; omega, fun p hp => ?_⟩) (fun _ => hC _ _ ⟨rfl, rfl⟩)
      rw [List.length_map] at hl
      refine q p _ ws.reverse none (same_new hp _) hp (by rw [upd_same, List.map_reverse]) (okx_sub hW (by rw [List.length_reverse]; exact Nat.le_refl _) fun y hy => List.mem_reverse.mp hy) (badW_rev hW (by omega))
    · rw [if_neg Bool.false_ne_true]
      exact hC _ _ ⟨rfl, rfl⟩
  rintro σ2 H2 ⟨rfl, rfl⟩
  refine seq_then (fun σ' H' => ∃ x4, σ' = [some (.ref wa), some (.ref oa), some (.int c), some (.int (c % 4)), x4] ∧ Same H2 H') ?_ ?_
  rotate_left
  · intro C hC
    walk_at "rd"
    refine ite2 (fun _ => ⟨by decide, fun p hp => ?_⟩) (fun _ => ?_)
    rotate_left
    · rw [if_neg Bool.false_ne_true]
      exact hC _ _ ⟨_, rfl, Same.refl _⟩
    have sp := same_new hp (HO.lst [])
    refine ⟨_, strs_at (sp.seq hw), _, strs_at (L := []) (SqL.of upd_same), strs_ly fun y hy => (hW.wd y hy).okx.2, rfl, Nat.le_trans (Nat.min_le_left _ _) (Nat.le_trans (strs_dep _) (by decide)), ?_⟩
    rw [if_pos trivial, strs_eqv]
    by_cases he : ws = []
    · rw [decide_eq_true he, if_neg (by decide)]
      exact hC _ _ ⟨_, rfl, sp⟩
    rw [decide_eq_false he, if_pos (by rfl)]
    have hpos : 0 < ws.length := List.length_pos_iff.mpr he
    have hw1 := sp.seq hw
    generalize upd H2 p (.lst []) = H3 at sp hw1 ⊢
    refine ⟨⟨by decide, by decide⟩, _, .inl hw1, by rw [List.length_map]; omega, _, hw1, ?_⟩
    obtain ⟨i, hi, hil⟩ : ∃ i : Nat, c / 4 % (((ws.map V.str).length : Nat) : Int) = (i : Int) ∧ i < ws.length := by
      rw [List.length_map]
      have := Int.emod_nonneg (c / 4) (show ((ws.length : Nat) : Int) ≠ 0 by omega)
      have := Int.emod_lt_of_pos (c / 4) (show 0 < ((ws.length : Nat) : Int) by omega)
      exact ⟨(c / 4 % ((ws.length : Nat) : Int)).toNat, by omega, by omega⟩
    rw [hi, cut_take (by rw [List.length_map]; omega), ← List.map_take]
    intro p1 hp1
    have s1 := same_new hp1 (HO.lst ((ws.take i).map V.str))
    have hz : ws[i]? = some ws[i] := List.getElem?_eq_getElem hil
    refine ⟨_, s1.seq hw1, .str ws[i], atI_nat (by rw [List.getElem?_map, hz]; rfl), by decide, fun p2 hp2 => ?_⟩
    have s2 := same_new hp2 (HO.lst [V.str ws[i]])
    have lt : (ws.take i).length ≤ ws.length := by rw [List.length_take]; omega
    have l6 := hW.len
    refine ⟨_, s2 _ _ upd_same, _, upd_same, Nat.le_of_lt (small1M (by rw [List.length_map, List.length_singleton]; omega)), fun p3 hp3 => ?_⟩
    have s3 := same_new hp3 (HO.lst ((ws.take i).map V.str ++ [V.str ws[i]]))
    refine ⟨_, ((s1.trans s2).trans s3).seq hw1, fun p4 hp4 => ?_⟩
    rw [cut_dropN (by rw [List.length_map]; omega), ← List.map_drop]
    have s4 := same_new hp4 (HO.lst ((ws.drop i).map V.str))
    refine ⟨_, s4 _ _ upd_same, _, upd_same, Nat.le_of_lt (small1M (by rw [List.length_append, List.length_map, List.length_map, List.length_singleton, List.length_drop]; omega)), fun p5 hp5 => ?_⟩
    have S := (((sp.trans s1).trans s2).trans s3).trans s4
    exact q p5 _ (ws.take i ++ [ws[i]] ++ ws.drop i) none (S.trans (same_new hp5 _)) (S.free hp5) (by rw [upd_same, List.map_append, List.map_append]; rfl) (okx_in hW (hW.wd _ (List.getElem_mem hil)).okx) (badW_in hW (.inl hz))
  rintro σ3 H3 ⟨x4, rfl, e3⟩
  refine seq_then (fun σ' H' => ∃ x4, σ' = [some (.ref wa), some (.ref oa), some (.int c), some (.int (c % 4)), x4] ∧ Same H2 H') ?_ ?_
  rotate_left
  · intro C hC
    walk_at "rd"
    refine ite2 (fun _ => ⟨by decide, fun p hp => ?_⟩) (fun _ => ?_)
    rotate_left
    · rw [if_neg Bool.false_ne_true]
      exact hC _ _ ⟨_, rfl, e3⟩
    have sp := e3.trans (same_new hp (HO.lst []))
    refine ⟨_, strs_at (sp.seq ho), _, strs_at (L := []) (SqL.of upd_same), strs_ly fun y hy => (hO y hy).2, rfl, Nat.le_trans (Nat.min_le_left _ _) (Nat.le_trans (strs_dep _) (by decide)), ?_⟩
    rw [if_pos trivial, strs_eqv]
    by_cases he : os = []
    · rw [decide_eq_true he, if_neg (by decide)]
      exact hC _ _ ⟨_, rfl, sp⟩
    rw [decide_eq_false he, if_pos (by rfl)]
    have hpos : 0 < os.length := List.length_pos_iff.mpr he
    have hw1 := sp.seq hw
    have ho1 := sp.seq ho
    generalize upd H3 p (.lst []) = H4 at sp hw1 ho1 ⊢
    refine ⟨⟨_, hw1⟩, fun acc hacc => ?_⟩
    obtain ⟨i, hi, hil⟩ : ∃ i : Nat, c / 4 % (((os.map V.str).length : Nat) : Int) = (i : Int) ∧ i < os.length := by
      rw [List.length_map]
      have := Int.emod_nonneg (c / 4) (show ((os.length : Nat) : Int) ≠ 0 by omega)
      have := Int.emod_lt_of_pos (c / 4) (show 0 < ((os.length : Nat) : Int) by omega)
      exact ⟨(c / 4 % ((os.length : Nat) : Int)).toNat, by omega, by omega⟩
    have sa := same_new hacc (HO.lst [])
    refine comp_list (xs := ws.map V.str) (fun j H' => Same H4 H' ∧ H' acc = some (.lst (((ws.take j).filter fun y => !decide (y = os[i])).map V.str))) ⟨sa, upd_same⟩ (fun j H' _ ⟨e, _⟩ => e.seq hw1) (fun j x H' N hx ⟨e, h⟩ hN => ?_) (fun H' ⟨e, h⟩ => ?_)
    · rw [List.getElem?_map] at hx
      cases hz : ws[j]? with
      | none => rw [hz] at hx; cases hx
      | some z =>
      rw [hz] at hx
      cases hx
      walk_at "rd"
      have ho2 := e.seq ho1
      refine ⟨wk_set (i := 0) rfl, ⟨by decide, by decide⟩, _, .inl ho2, by rw [List.length_map]; omega, _, ho2, .str os[i], by rw [hi]; exact atI_nat (by rw [List.getElem?_map, List.getElem?_eq_getElem hil]; rfl), rfl, ?_⟩
      have ez : decide (V.str z = V.str os[i]) = decide (z = os[i]) := decide_eq_decide.mpr (by rw [V.str.injEq])
      rw [ez]
      have ht : (ws.take (j + 1)).filter (fun y => !decide (y = os[i])) = (ws.take j).filter (fun y => !decide (y = os[i])) ++ (if (!decide (z = os[i])) = true then [z] else []) := by
        rw [List.take_succ, hz, List.filter_append]
        congr 1
        by_cases hd : z = os[i]
        · rw [decide_eq_true hd]; simp [hd]
        · rw [decide_eq_false hd]; simp [hd]
      rw [ht] at hN
      by_cases hd : (!decide (z = os[i])) = true
      · rw [if_pos hd] at hN ⊢
        refine ⟨_, h, small1M ?_, hN _ ⟨e.write hacc, by rw [upd_same, List.map_append]; rfl⟩⟩
        rw [List.length_map]
        have h1 := List.length_filter_le (fun y => !decide (y = os[i])) (ws.take j)
        rw [List.length_take] at h1
        have := hW.len
        omega
      · rw [if_neg hd] at hN ⊢
        exact hN _ ⟨e, by rw [List.append_nil]; exact h⟩
    · rw [List.length_map, List.take_length] at h
      exact q acc _ _ none (sp.trans e) (sp.free hacc) h (okx_sub hW (List.length_filter_le _ _) fun y hy => (List.mem_filter.mp hy).1) (badW_out (List.getElem_mem hil))
  rintro σ4 H4 ⟨x5, rfl, e4⟩
  walk_at "rd"
  have l6 := hW.len
  have hw1 := e4.seq hw
  refine ⟨⟨by decide, by decide⟩, _, .inl hw1, by omega, _, hw1, fun p1 hp1 => ?_⟩
  obtain ⟨i, hi, hil⟩ : ∃ i : Nat, c / 36 % ((((ws.map V.str).length : Nat) : Int) + 1) = (i : Int) ∧ i ≤ ws.length := by
    rw [List.length_map]
    have := Int.emod_nonneg (c / 36) (show ((ws.length : Nat) : Int) + 1 ≠ 0 by omega)
    have := Int.emod_lt_of_pos (c / 36) (show 0 < ((ws.length : Nat) : Int) + 1 by omega)
    exact ⟨(c / 36 % (((ws.length : Nat) : Int) + 1)).toNat, by omega, by omega⟩
  rw [hi, cut_take (by rw [List.length_map]; omega), ← List.map_take]
  have s1 := same_new hp1 (HO.lst ((ws.take i).map V.str))
  have lt : (ws.take i).length ≤ ws.length := by rw [List.length_take]; omega
  refine ⟨⟨by decide, by decide⟩, c / 4, rfl, by omega, fun z H5 e5 hz hz9 hzl => ⟨by decide, fun p2 hp2 => ?_⟩⟩
  have s2 := same_new hp2 (HO.lst [V.str z])
  refine ⟨_, (e5.trans s2) _ _ upd_same, _, upd_same, Nat.le_of_lt (small1M (by rw [List.length_map, List.length_singleton]; omega)), fun p3 hp3 => ?_⟩
  have s3 := same_new hp3 (HO.lst ((ws.take i).map V.str ++ [V.str z]))
  refine ⟨_, (((s1.trans e5).trans s2).trans s3).seq hw1, fun p4 hp4 => ?_⟩
  rw [cut_dropN (by rw [List.length_map]; omega), ← List.map_drop]
  have s4 := same_new hp4 (HO.lst ((ws.drop i).map V.str))
  refine ⟨_, s4 _ _ upd_same, _, upd_same, Nat.le_of_lt (small1M (by rw [List.length_append, List.length_map, List.length_map, List.length_singleton, List.length_drop]; omega)), fun p5 hp5 => ?_⟩
  have S := ((((e4.trans s1).trans e5).trans s2).trans s3).trans s4
  exact q p5 _ (ws.take i ++ [z] ++ ws.drop i) none (S.trans (same_new hp5 _)) (S.free hp5) (by rw [upd_same, List.map_append, List.map_append]; rfl) (okx_in hW ⟨hz9, hzl⟩) (badW_in hW (.inr hz))
end
set_option Elab.async false
set_option linter.all false
set_option maxRecDepth 100000
set_option maxHeartbeats 4000000
local macro_rules | `(tactic| walk_at "rd") => `(tactic| walk_at "rdx_3")
local macro_rules | `(tactic| walk_at "ri") => `(tactic| walk_at "rdx_4")
noncomputable abbrev s__law_spoiled : Stmt := top 31
theorem sc__law_spoiled : FnScope ["_law_worlds_here", "_law_world", "_law_cell_here", "_law_before", "_law_words_here", "_law_old", "_law_bad"] ["_law_worlds_here", "_law_world", "_law_cell_here"] (defScope s__law_spoiled) := ⟨rfl, rfl, rfl, by decide +kernel, rfl, by decide +kernel, by decide +kernel⟩
section
variable {P : Program} {w : World} {K : PySem.W.Frag} {mg : Str → Option Value} {base : Heap}
theorem ok__law_spoiled {k : Nat} {f__law_spoiled : Addr} {fd__law_spoiled : FuncData} (F__law_spoiled : Fun K "_law_spoiled" "_law_spoiled" s__law_spoiled f__law_spoiled fd__law_spoiled) {f__law_bad_before : Addr} {fd__law_bad_before : FuncData} (G__law_bad_before : FnOk P w K mg base CX0 k f__law_bad_before fd__law_bad_before ["_law_world", "_law_cell_here"] (sp_bb)) (m__law_bad_before : mg "_law_bad_before" = some (.ref f__law_bad_before)) (k__law_bad_before : PySem.W.keepIn K (.ref f__law_bad_before) = true) (b__law_bad_before : Binds K fd__law_bad_before ["_law_world", "_law_cell_here"] []) {f__law_mix : Addr} {fd__law_mix : FuncData} (G__law_mix : FnOk P w K mg base CX0 k f__law_mix fd__law_mix ["_law_cell_here", "_law_k"] (sp_mix)) (m__law_mix : mg "_law_mix" = some (.ref f__law_mix)) (k__law_mix : PySem.W.keepIn K (.ref f__law_mix) = true) (b__law_mix : Binds K fd__law_mix ["_law_cell_here", "_law_k"] []) {f__law_bad_words : Addr} {fd__law_bad_words : FuncData} (G__law_bad_words : FnOk P w K mg base CX0 k f__law_bad_words fd__law_bad_words ["_law_words_here", "_law_old", "_law_cell_here"] (sp_bws K)) (m__law_bad_words : mg "_law_bad_words" = some (.ref f__law_bad_words)) (k__law_bad_words : PySem.W.keepIn K (.ref f__law_bad_words) = true) (b__law_bad_words : Binds K fd__law_bad_words ["_law_words_here", "_law_old", "_law_cell_here"] []) : FnOk P w K mg base CX0 (k + 1) f__law_spoiled fd__law_spoiled ["_law_worlds_here", "_law_world", "_law_cell_here"] (sp_spl K) := by
  refine F__law_spoiled.ok sc__law_spoiled (fun vs H Q E h => ?_) (fun cdv A outer s H vs Q E hr h => ?_)
  · obtain ⟨a, n, c, us, xs, x, rfl, _⟩ := h
    rfl
  obtain ⟨a, n, c, us, xs, x, rfl, ha, hX, l24, hok, hx, hW, hb0, hb1, hc, q⟩ := h
  refine ⟨_, (pss_cons (ps_asg (pe_ix ix_list (pv 0) (pv 1) (fun _ _ => rfl)) (pg_tup rfl (pgs_cons (pg_name (i := 3) sc__law_spoiled.nd rfl (Or.inl rfl)) (pgs_cons (pg_name (i := 4) sc__law_spoiled.nd rfl (Or.inl rfl)) pgs_nil))))
  (pss_cons (ps_set (i := 5) sc__law_spoiled.nd rfl (Or.inl rfl) (pe_lst pa_nil))
  (pss_cons (ps_if (pt_cmpR (op_gt) (pv 1) pe_int (nomark _))
    (pss_one (ps_set (i := 5) sc__law_spoiled.nd rfl (Or.inl rfl) (pe_ix ix_tup (pe_ix ix_list (pv 0) (pv 3) (fun _ _ => rfl)) pe_int (fun _ _ => rfl))))
    pss_nil)
  (pss_cons (ps_set (i := 6) sc__law_spoiled.nd rfl (Or.inl rfl) (pe_tup (pa_cons (pe_call G__law_bad_before hr (by exact rfl) m__law_bad_before k__law_bad_before b__law_bad_before .nil pass0 (pa_cons (pv 1) (pa_cons (pe_call G__law_mix hr (by exact rfl) m__law_mix k__law_mix b__law_mix .nil pass0 (pa_cons (pv 2) (pa_cons pe_int pa_nil))) pa_nil))) (pa_cons (pv 4) pa_nil))))
  (pss_cons (ps_if (pt_cmpR (op_eq) (pe_op op_mod (pv 2) pe_int) pe_int (nomark _))
    (pss_one (ps_set (i := 6) sc__law_spoiled.nd rfl (Or.inl rfl) (pe_tup (pa_cons (pv 3) (pa_cons (pe_call G__law_bad_words hr (by exact rfl) m__law_bad_words k__law_bad_words b__law_bad_words .nil pass0 (pa_cons (pv 4) (pa_cons (pv 5) (pa_cons (pe_call G__law_mix hr (by exact rfl) m__law_mix k__law_mix b__law_mix .nil pass0 (pa_cons (pv 2) (pa_cons pe_int pa_nil))) pa_nil)))) pa_nil)))))
    pss_nil)
  (pss_one (ps_ret (pe_op op_cat (pe_op op_cat (pe_slice sl_list (pv 0) po_none (po_some (pv 1))) (pe_lst (pa_cons (pv 6) pa_nil))) (pe_slice sl_list (pv 0) (po_some (pe_op op_add (pv 1) pe_int)) po_none))))))))), ?_⟩
  have lu : us.length = xs.length := Paired.length hX
  have hn : n < xs.length := (List.getElem?_eq_some_iff.mp hx).1
  have hnu : n < us.length := by omega
  obtain ⟨x', hx', p, qq, hv, hs, hq⟩ := paired_get hX (List.getElem?_eq_getElem hnu)
  rw [hx] at hx'
  cases hx'
  have okx := hok x (List.mem_of_getElem? hx)
  refine seq_then (fun σ' H' => σ' = [some (.ref a), some (.int (n : Nat)), some (.int c), some (iV x.1), some (.ref qq), none, none] ∧ H' = H) ?_ ?_
  rotate_left
  · intro C hC
    walk_at "rd"
    exact ⟨us, SqL.of ha, _, atI_nat (List.getElem?_eq_getElem hnu), p, hv, _, hs, rfl, _, _, rfl, _, _, rfl, rfl, hC _ _ ⟨rfl, rfl⟩⟩
  rintro σ1 H1 ⟨rfl, rfl⟩
  refine seq_then (fun σ' H' => ∃ l, σ' = [some (.ref a), some (.int (n : Nat)), some (.int c), some (iV x.1), some (.ref qq), some (.ref l), none] ∧ Same H1 H' ∧ H' l = some (.lst [])) ?_ ?_
  rotate_left
  · intro C hC
    walk_at "rd"
    exact ⟨by decide, fun l hl => hC _ _ ⟨l, rfl, same_new hl _, upd_same⟩⟩
  rintro σ2 H2 ⟨l, rfl, e2, h2⟩
  refine seq_then (fun σ' H' => ∃ l os, σ' = [some (.ref a), some (.int (n : Nat)), some (.int c), some (iV x.1), some (.ref qq), some (.ref l), none] ∧ Same H1 H' ∧ SqL K H' l (os.map V.str) ∧ os.length ≤ 7 ∧ (∀ y ∈ os, y.length ≤ 9 ∧ (PyData.str y).canLay0 = true) ∧ (n = 0 → os = []) ∧ ∀ j : Nat, x.1 = some (j : Int) → 0 < n → os = oldX xs j) ?_ ?_
  rotate_left
  · intro C hC
    walk_at "rd"
    refine ite2 (fun h0 => ?_) (fun h0 => hC _ _ ⟨l, [], rfl, e2, SqL.of h2, by decide, fun y hy => absurd hy (by simp), fun _ => rfl, fun j hj h1 => absurd h1 (by omega)⟩)
    obtain ⟨j, hj, hjn⟩ := hb1 (by omega)
    have hju : j < us.length := by omega
    obtain ⟨y, hy, p2, q2, hv2, hs2, hq2⟩ := paired_get hX (List.getElem?_eq_getElem hju)
    have oky := hok y (List.mem_of_getElem? hy)
    rw [hj]
    refine ⟨us, _, rfl, SqL.of (e2 _ _ ha), _, atI_nat (List.getElem?_eq_getElem hju), p2, hv2, _, e2.sqt hs2, _, rfl, ?_⟩
    refine hC _ _ ⟨q2, y.2, by rw [hj], e2, SqL.of (e2 _ _ hq2), oky.len, oky.wd, fun z => absurd z (by omega), fun j' e' _ => ?_⟩
    rw [hj] at e'
    have : j = j' := by
      have := Option.some.inj e'
      omega
    subst this
    unfold oldX; rw [hy]
  rintro σ3 H3 ⟨l3, os, rfl, e3, h3, lo, hO, ho0, ho1⟩
  refine seq_then (fun σ' H' => ∃ p y, σ' = [some (.ref a), some (.int (n : Nat)), some (.int c), some (iV x.1), some (.ref qq), some (.ref l3), some (.ref p)] ∧ Same H1 H' ∧ AtX K H' (.ref p) y ∧ OkX y ∧ badE (oldX xs) n x y ∧ Same H3 H') ?_ ?_
  rotate_left
  · intro C hC
    walk_at "rd"
    refine ⟨c, 1, rfl, by decide, by decide, n, _, rfl, by omega, mix_nn _ _, fun b H4 e4 hb => ⟨by decide, fun p hp => ?_⟩⟩
    have sp := same_new hp (HO.tup [iV b, V.ref qq])
    have S := (e3.trans e4).trans sp
    exact hC _ _ ⟨p, (b, x.2), rfl, S, ⟨p, qq, rfl, .inl (.inl upd_same), S _ _ hq⟩, ⟨okx.len, okx.wd⟩, .inl ⟨rfl, hb⟩, e4.trans sp⟩
  rintro σ4 H4 ⟨p4, y4, rfl, e4, hy4, ok4, bad4, h34⟩
  refine seq_then (fun σ' H' => ∃ p y, σ' = [some (.ref a), some (.int (n : Nat)), some (.int c), some (iV x.1), some (.ref qq), some (.ref l3), some (.ref p)] ∧ Same H1 H' ∧ AtX K H' (.ref p) y ∧ OkX y ∧ badE (oldX xs) n x y) ?_ ?_
  rotate_left
  · intro C hC
    walk_at "rd"
    refine ⟨by decide, ite2 (fun _ => ?_) (fun _ => hC _ _ ⟨p4, y4, rfl, e4, hy4, ok4, bad4⟩)⟩
    have h3' : SqL K H4 l3 (os.map V.str) := h34.seq h3
    refine ⟨c, 2, rfl, by decide, by decide, qq, l3, x.2, os, _, rfl, SqL.of (e4 _ _ hq), h3', hW, lo, hO, mix_nn _ _, fun r H6 out b e6 fr hr6 hox hbw => ⟨by decide, fun p hp => ?_⟩⟩
    have sp := same_new hp (HO.tup [iV x.1, V.ref r])
    have S := (e4.trans e6).trans sp
    exact hC _ _ ⟨p, (x.1, out), rfl, S, ⟨p, r, rfl, .inl (.inl upd_same), sp _ _ hr6⟩, ⟨hox.len, hox.wd⟩, .inr ⟨rfl, os, hbw, ho0, ho1⟩⟩
  rintro σ5 H5 ⟨p5, y5, rfl, e5, hy5, ok5, bad5⟩
  walk_at "rd"
  refine ⟨us, SqL.of (e5 _ _ ha), fun p1 hp1 => ?_⟩
  rw [cut_take (by omega)]
  refine ⟨by decide, fun p2 hp2 => ?_⟩
  have s1 := same_new hp1 (HO.lst (us.take n))
  have s2 := same_new hp2 (HO.lst [V.ref p5])
  have lt : (us.take n).length ≤ 24 := by rw [List.length_take]; omega
  refine ⟨_, s2 _ _ upd_same, _, upd_same, Nat.le_of_lt (small1M (by rw [List.length_singleton]; omega)), fun p3 hp3 => ?_⟩
  have s3 := same_new hp3 (HO.lst (us.take n ++ [V.ref p5]))
  have S3 := (s1.trans s2).trans s3
  refine ⟨us, SqL.of (S3 _ _ (e5 _ _ ha)), fun p4 hp4 => ?_⟩
  rw [cut_succ hnu]
  have s4 := same_new hp4 (HO.lst (us.drop (n + 1)))
  refine ⟨_, s4 _ _ upd_same, _, upd_same, Nat.le_of_lt (small1M (by rw [List.length_append, List.length_singleton, List.length_drop]; omega)), fun p6 hp6 => ?_⟩
  have S := (S3.trans s4).trans (same_new hp6 (HO.lst (us.take n ++ [V.ref p5] ++ us.drop (n + 1))))
  refine q p6 _ _ y5 (e5.trans S) (e5.free ((S3.trans s4).free hp6)) upd_same ?_ ok5 bad5
  have t := paired_set (hy5.keep S) n (AtXs.keep (e5.trans S) hX)
  rw [← set_parts hnu] at t
  exact t
end
set_option Elab.async false
set_option linter.all false
set_option maxRecDepth 100000
set_option maxHeartbeats 4000000
local macro_rules | `(tactic| walk_at "rd") => `(tactic| walk_at "rdx_3")
local macro_rules | `(tactic| walk_at "ri") => `(tactic| walk_at "rdx_4")
noncomputable abbrev s_word_end : Stmt := top 15
theorem sc_word_end : FnScope ["text", "at", "end"] ["text", "at"] (defScope s_word_end) := ⟨rfl, rfl, rfl, by decide +kernel, rfl, by decide +kernel, by decide +kernel⟩
noncomputable abbrev s_is_word : Stmt := top 17
theorem sc_is_word : FnScope ["text"] ["text"] (defScope s_is_word) := ⟨rfl, rfl, rfl, by decide +kernel, rfl, by decide +kernel, by decide +kernel⟩
noncomputable abbrev s_are_letters : Stmt := top 18
theorem sc_are_letters : FnScope ["words"] ["words"] (defScope s_are_letters) := ⟨rfl, rfl, rfl, by decide +kernel, rfl, by decide +kernel, by decide +kernel⟩
section
variable {P : Program} {w : World} {K : PySem.W.Frag} {mg : Str → Option Value} {base : Heap}
theorem ok_word_end {k : Nat} {f_word_end : Addr} {fd_word_end : FuncData} (F_word_end : Fun K "word_end" "word_end" s_word_end f_word_end fd_word_end) {tk8 : Tok} (m_LONGEST_WORD : mg "LONGEST_WORD" = some (.int 8 tk8)) : FnOk P w K mg base CX0 (k + 1) f_word_end fd_word_end ["text", "at"] sp_we0 := by
  refine F_word_end.ok sc_word_end (fun vs H Q E h => ?_) (fun cdv A outer s H vs Q E hr h => ?_)
  · obtain ⟨x, rfl, _⟩ := h
    rfl
  obtain ⟨x, rfl, hl, q⟩ := h
  refine ⟨_, (pss_cons (ps_set (i := 2) sc_word_end.nd rfl (Or.inl rfl) (pv 1))
  (pss_cons (ps_while PassesOwn.never ((pw_and (pt_cmpR (op_lt) (pv 2) (pe_op op_add (pv 1) (pe_glob (v := .int 8) (by exact rfl) m_LONGEST_WORD ⟨_, rfl⟩)) (nomark _)) (pw_and1 (pt_chain (op_le_str) (op_le_str) pe_str (pe_slice sl_str (pv 0) (po_some (pv 2)) (po_some (pe_op op_add (pv 2) pe_int))) pe_str)))).pt
    (pss_one (ps_aug (i := 2) sc_word_end.nd rfl (Or.inl rfl) pe_int ip_add)))
  (pss_one (ps_ret (pv 2))))), ?_⟩
  have lw := len_cps x
  have sm : x.length ≤ sizeLine := Nat.le_of_lt (small1M (Nat.le_trans hl (by decide)))
  walk_at "rd"
  refine ⟨fun m σ' H' => ∃ (j : Nat), m = 8 - j ∧ σ' = [some (.str x), some (.int 0), some (.int (j : Nat))] ∧ H' = H ∧ j ≤ 8 ∧ j ≤ x.length ∧ j + wendL (8 - j) (x.cps.toList.drop j) = wendL 8 x.cps.toList, ⟨_, 0, rfl, rfl, rfl, Nat.zero_le _, Nat.zero_le _, by rw [Nat.zero_add]; rfl⟩, ?_⟩
  rintro m σ1 H1 ⟨j, rfl, rfl, rfl, hj, hjl, hw⟩
  have q' : wendL (8 - j) (x.cps.toList.drop j) = 0 → Q (.int ((j : Nat) : Int)) H1 := fun e => by rw [e, Nat.add_zero] at hw; rw [hw]; exact q
  walk_at "rd"
  refine ite2 (fun hlt => ⟨sm, ?_⟩) (fun hge => ?_)
  · obtain ⟨n, hn⟩ : ∃ n, 8 - j = n + 1 := ⟨7 - j, by omega⟩
    cases hd : x.cps.toList.drop j with
    | nil =>
      rw [sign_end hjl hd, if_neg (by decide), if_neg Bool.false_ne_true]
      exact q' (by rw [hd, hn]; rfl)
    | cons c r =>
      rw [sign_at hd]
      have e : wendL (8 - j) (x.cps.toList.drop j) = if 97 ≤ c ∧ c ≤ 122 then wendL n r + 1 else 0 := by rw [hd, hn]; rfl
      by_cases h1 : c < 97
      · rw [if_neg (by
          have : (([c] : List Nat) < [97]) := lt1.mpr h1
          have e : decide (([c] : List Nat) < ("a" : Str).cps.toList) = true := decide_eq_true this
          show ¬ ((!decide (([c] : List Nat) < ("a" : Str).cps.toList)) = true)
          rw [e]; decide), if_neg Bool.false_ne_true]
        exact q' (by rw [e, if_neg (by omega)])
      · rw [if_pos (by
          rw [Bool.not_eq_true', decide_eq_false_iff_not]
          show ¬ (([c] : List Nat) < [97])
          rw [lt1]; omega)]
        by_cases h2 : 122 < c
        · rw [if_neg (by
            have : (([122] : List Nat) < [c]) := lt1.mpr h2
            have e : decide (("z" : Str).cps.toList < ([c] : List Nat)) = true := decide_eq_true this
            show ¬ ((!decide (("z" : Str).cps.toList < ([c] : List Nat))) = true)
            rw [e]; decide)]
          exact q' (by rw [e, if_neg (by omega)])
        · rw [if_pos (by
            rw [Bool.not_eq_true', decide_eq_false_iff_not]
            show ¬ (([122] : List Nat) < [c])
            rw [lt1]; omega)]
          have hdl : (x.cps.toList.drop j).length = x.cps.toList.length - j := List.length_drop
          rw [hd, List.length_cons] at hdl
          refine ⟨_, fun σ' H' z => z, 8 - (j + 1), by omega, j + 1, rfl, rfl, rfl, by omega, by omega, ?_⟩
          have hr2 : x.cps.toList.drop (j + 1) = r := by rw [← List.drop_drop, hd]; rfl
          rw [hr2, show 8 - (j + 1) = n by omega, ← hw, e, if_pos (by omega)]; omega
  · rw [if_neg Bool.false_ne_true]
    exact q' (by rw [show 8 - j = 0 by omega]; rfl)
theorem ok_is_word {k : Nat} {f_is_word : Addr} {fd_is_word : FuncData} (F_is_word : Fun K "is_word" "is_word" s_is_word f_is_word fd_is_word) {f_word_end : Addr} {fd_word_end : FuncData} (G_word_end : FnOk P w K mg base CX0 k f_word_end fd_word_end ["text", "at"] (sp_we0)) (m_word_end : mg "word_end" = some (.ref f_word_end)) (k_word_end : PySem.W.keepIn K (.ref f_word_end) = true) (b_word_end : Binds K fd_word_end ["text", "at"] []) (m_len : mg "len" = none) : FnOk P w K mg base CX0 (k + 1) f_is_word fd_is_word ["text"] sp_isw := by
  refine F_is_word.ok sc_is_word (fun vs H Q E h => ?_) (fun cdv A outer s H vs Q E hr h => ?_)
  · obtain ⟨x, rfl, _⟩ := h
    rfl
  obtain ⟨x, rfl, hl, q⟩ := h
  refine ⟨_, (pss_one (ps_ret (pe_and (pe_cmpR (op_ne) (pv 0) pe_str (nomark _)) (pe_one (pe_cmpR (op_eq) (pe_call G_word_end hr (by exact rfl) m_word_end k_word_end b_word_end .nil pass0 (pa_cons (pv 0) (pa_cons pe_int pa_nil))) (pe_callB call_len_str (by exact rfl) m_len Ken.boot_len (pa_cons (pv 0) pa_nil)) (nomark _)))))), ?_⟩
  walk_at "rd"
  by_cases hx : x = Str.empty
  · subst hx
    exact q
  · rw [if_pos (by rw [decide_eq_false (show ¬ x = Str.ofString "" from hx)]; rfl)]
    refine ⟨x, rfl, hl, Nat.le_of_lt (small1M (Nat.le_trans hl (by decide))), rfl, ?_⟩
    have e : isW x = decide (V.int ((wendL 8 x.cps.toList : Nat) : Int) = V.int ((x.length : Nat) : Int)) := by
      unfold isW
      rw [decide_eq_true (show x ≠ Str.empty from hx), Bool.true_and]
      exact decide_eq_decide.mpr (by rw [V.int.injEq])
    rw [← e]
    exact q
theorem ok_are_letters {k : Nat} {f_are_letters : Addr} {fd_are_letters : FuncData} (F_are_letters : Fun K "are_letters" "are_letters" s_are_letters f_are_letters fd_are_letters) {f_is_word : Addr} {fd_is_word : FuncData} (G_is_word : FnOk P w K mg base CX0 k f_is_word fd_is_word ["text"] (sp_isw)) (m_is_word : mg "is_word" = some (.ref f_is_word)) (k_is_word : PySem.W.keepIn K (.ref f_is_word) = true) (b_is_word : Binds K fd_is_word ["text"] []) (m_all : mg "all" = none) (m_sorted : mg "sorted" = none) (m_set : mg "set" = none) : FnOk P w K mg base CX0 (k + 1) f_are_letters fd_are_letters ["words"] (sp_letW K) := by
  refine F_are_letters.ok sc_are_letters (fun vs H Q E h => ?_) (fun cdv A outer s H vs Q E hr h => ?_)
  · obtain ⟨a, ws, rfl, _⟩ := h
    rfl
  obtain ⟨a, ws, rfl, ha, hl, hw, q⟩ := h
  refine ⟨_, (pss_one (ps_ret (pe_and (pe_callB (call_allB rfl) (by exact rfl) m_all Ken.boot_all (pa_cons (pe_lc (blk0 (N' := ["word"]) (by decide +kernel) (by decide +kernel) rfl (by decide +kernel)) rfl (pi_list (pv 0)) (fun _ _ _ _ => (pg_name (i := 0) (show (["word"] : List Str).Nodup from by decide +kernel) rfl (Or.inl rfl))) (fun _ _ _ _ => (pe_call G_is_word hr (by exact rfl) m_is_word k_is_word b_is_word .nil pass0 (pa_cons (pv 0) pa_nil)))) pa_nil)) (pe_one (pe_cmpR (op_eqD (hu_150 hr)) (pe_callB (call_sortedS (P := P) (w := w) rfl rfl rfl) (by exact rfl) m_sorted Ken.boot_sorted (pa_cons (pe_callTy (call_setL (P := P) (w := w) rfl rfl rfl) (by exact rfl) m_set Ken.boot_set (pa_cons (pv 0) pa_nil)) pa_nil)) (pv 0) (nomark _)))))), ?_⟩
  unfold tRet tLC
  walk_at "rd"
  refine ⟨⟨_, ha⟩, fun acc hacc => ?_⟩
  refine lcW_list (xs := ws.map V.str) (fun i ys H' => Same H H' ∧ H' acc = some (.lst ys) ∧ ys = ((ws.take i).map isW).map V.bl) ⟨same_new hacc _, upd_same, rfl⟩ (fun i ys H' hi ⟨e, h, hy⟩ => ⟨h, ?_, e.seq ha⟩) (fun i x ys H' hx ⟨e, h, hy⟩ C' hC' => ?_) (fun ys H' ⟨e, h, hy⟩ => ?_)
  · rw [hy, List.length_map, List.length_map, List.length_take]
    exact small1M (by omega)
  · rw [List.getElem?_map] at hx
    cases hz : ws[i]? with
    | none => rw [hz] at hx; cases hx
    | some z =>
    rw [hz] at hx
    cases hx
    have hzm : z ∈ ws := List.mem_of_getElem? hz
    walk_at "rd"
    refine ⟨wk_set (i := 0) rfl, z, rfl, by have := (hw z hzm).1; omega, hC' _ _ h ⟨e.write hacc, upd_same, ?_⟩⟩
    rw [hy, List.take_succ, hz, List.map_append, List.map_append]; rfl
  · rw [List.length_map, List.take_length] at hy
    subst hy
    refine ⟨_, rfl, ws.map isW, SqL.of h, ?_⟩
    have e1 : (ws.map isW).all id = ws.all isW := by rw [List.all_map]; rfl
    rw [e1]
    by_cases hall : ws.all isW = true
    · rw [if_pos hall]
      refine ⟨ws, e.seq ha, by omega, fun a3 h3 => ⟨_, upd_same, by have := metS_len (xs := ws) ws.length; omega, fun l ys hl2 hp hs => ?_⟩⟩
      have S := (e.trans (same_new h3 (setO P w a3 (metS ws ws.length)))).trans (same_new hl2 (.lst (ys.map V.str)))
      have mem : ∀ y ∈ ys, y ∈ ws := fun y hy => (metS_in y).mp (hp.mem_iff.mp hy)
      refine ⟨_, strs_at (SqL.of upd_same), _, strs_at (S.seq ha), strs_ly fun y hy => (hw y (mem y hy)).2, strs_ly fun y hy => (hw y hy).2, Nat.le_trans (Nat.min_le_left _ _) (Nat.le_trans (strs_dep _) (by decide)), ?_⟩
      rw [if_neg Bool.false_ne_true, strs_eqv]
      have e2 : lettersB ws = decide (ys = ws) := by
        unfold lettersB
        rw [hall, Bool.true_and]
        have z := sortset hp hs
        by_cases h2 : ys = ws
        · rw [decide_eq_true h2, (z.mp h2).1, decide_eq_true (z.mp h2).2]; rfl
        · rw [decide_eq_false h2]
          by_cases h3 : PyProof.Rows.sortedS ws = true
          · rw [h3, decide_eq_false (fun h4 => h2 (z.mpr ⟨h3, h4⟩))]; rfl
          · rw [show PyProof.Rows.sortedS ws = false by simpa using h3]; rfl
      rw [← e2]
      exact q _ S
    · rw [if_neg hall]
      have e2 : lettersB ws = false := by
        unfold lettersB
        rw [show ws.all isW = false by simpa using hall]; rfl
      rw [← e2]
      exact q _ e
end
set_option Elab.async false
set_option linter.all false
set_option maxRecDepth 100000
set_option maxHeartbeats 4000000
local macro_rules | `(tactic| walk_at "rd") => `(tactic| walk_at "rdx_3")
local macro_rules | `(tactic| walk_at "ri") => `(tactic| walk_at "rdx_4")
noncomputable abbrev s_is_good : Stmt := top 19
theorem sc_is_good : FnScope ["worlds", "number", "before", "words"] ["worlds", "number"] (defScope s_is_good) := ⟨rfl, rfl, rfl, by decide +kernel, rfl, by decide +kernel, by decide +kernel⟩
section
variable {P : Program} {w : World} {K : PySem.W.Frag} {mg : Str → Option Value} {base : Heap}
theorem ok_is_good {k : Nat} {f_is_good : Addr} {fd_is_good : FuncData} (F_is_good : Fun K "is_good" "is_good" s_is_good f_is_good fd_is_good) {f_are_letters : Addr} {fd_are_letters : FuncData} (G_are_letters : FnOk P w K mg base CX0 k f_are_letters fd_are_letters ["words"] (sp_letW K)) (m_are_letters : mg "are_letters" = some (.ref f_are_letters)) (k_are_letters : PySem.W.keepIn K (.ref f_are_letters) = true) (b_are_letters : Binds K fd_are_letters ["words"] []) (m_len : mg "len" = none) (m_set : mg "set" = none) : FnOk P w K mg base CX0 (k + 1) f_is_good fd_is_good ["worlds", "number"] (sp_good K) := by
  refine F_is_good.ok sc_is_good (fun vs H Q E h => ?_) (fun cdv A outer s H vs Q E hr h => ?_)
  · obtain ⟨a, n, us, xs, rfl, _⟩ := h
    rfl
  obtain ⟨a, n, us, xs, rfl, ha, hX, hn, hok, hsz, q⟩ := h
  have lu : us.length = xs.length := Paired.length hX
  have hnu : n < us.length := by omega
  obtain ⟨x, hx, p, qq, hv, hs, hq⟩ := paired_get hX (List.getElem?_eq_getElem hnu)
  have okx := hok x (List.mem_of_getElem? hx)
  have eg : goodX xs n = goodE (oldX xs) n x := by unfold goodX; rw [hx]
  rw [eg] at q
  have hszx := hsz x hx
  refine ⟨_, (pss_cons (ps_asg (pe_ix ix_list (pv 0) (pv 1) (fun _ _ => rfl)) (pg_tup rfl (pgs_cons (pg_name (i := 2) sc_is_good.nd rfl (Or.inl rfl)) (pgs_cons (pg_name (i := 3) sc_is_good.nd rfl (Or.inl rfl)) pgs_nil))))
  (pss_cons (ps_if (pt_not (pt_val (pe_call G_are_letters hr (by exact rfl) m_are_letters k_are_letters b_are_letters .nil pass0 (pa_cons (pv 3) pa_nil))))
    (pss_one (ps_ret pe_bl))
    pss_nil)
  (pss_cons (ps_if (pt_cmpR (op_eq) (pv 1) pe_int (nomark _))
    (pss_one (ps_ret (pe_cmpR (op_isN) (pv 2) pe_non (nomark _))))
    pss_nil)
  (pss_cons (ps_if ((pw_or (pt_cmpR (op_isN) (pv 2) pe_non (nomark _)) (pw_or1 (pt_not (pt_chain (op_le) (op_lt) pe_int (pv 2) (pv 1)))))).pt
    (pss_one (ps_ret pe_bl))
    pss_nil)
  (pss_one (ps_ret (pe_cmpR (op_eq) (pe_callB (call_lenS (P := P) (w := w) rfl rfl) (by exact rfl) m_len Ken.boot_len (pa_cons (pe_op (op_subS (P := P) (w := w) rfl rfl) (pe_callTy (call_setL (P := P) (w := w) rfl rfl rfl) (by exact rfl) m_set Ken.boot_set (pa_cons (pe_ix ix_tup (pe_ix ix_list (pv 0) (pv 2) (fun _ _ => rfl)) pe_int (fun _ _ => rfl)) pa_nil)) (pe_callTy (call_setL (P := P) (w := w) rfl rfl rfl) (by exact rfl) m_set Ken.boot_set (pa_cons (pv 3) pa_nil))) pa_nil)) pe_int (nomark _)))))))), ?_⟩
  refine seq_then (fun σ' H' => σ' = [some (.ref a), some (.int (n : Nat)), some (iV x.1), some (.ref qq)] ∧ H' = H) ?_ ?_
  rotate_left
  · intro C hC
    walk_at "rd"
    exact ⟨us, SqL.of ha, _, atI_nat (List.getElem?_eq_getElem hnu), p, hv, _, hs, rfl, _, _, rfl, _, _, rfl, rfl, hC _ _ ⟨rfl, rfl⟩⟩
  rintro σ1 H1 ⟨rfl, rfl⟩
  refine seq_then (fun σ' H' => σ' = [some (.ref a), some (.int (n : Nat)), some (iV x.1), some (.ref qq)] ∧ Same H1 H' ∧ lettersB x.2 = true) ?_ ?_
  rotate_left
  · intro C hC
    walk_at "rd"
    refine ⟨qq, x.2, rfl, SqL.of hq, by have := okx.len; omega, okx.wd, fun H' e => ⟨_, rfl, ?_⟩⟩
    cases hb : lettersB x.2 with
    | true =>
      rw [if_neg (by decide)]
      exact hC _ _ ⟨rfl, e, hb⟩
    | false =>
      rw [if_pos (by decide)]
      have := q _ e
      rw [goodE_let hb] at this
      exact this
  rintro σ2 H2 ⟨rfl, e2, hlet⟩
  refine seq_then (fun σ' H' => σ' = [some (.ref a), some (.int (n : Nat)), some (iV x.1), some (.ref qq)] ∧ H' = H2 ∧ n ≠ 0) ?_ ?_
  rotate_left
  · intro C hC
    walk_at "rd"
    refine ite2 (fun h0 => ?_) (fun h0 => hC _ _ ⟨rfl, rfl, by omega⟩)
    have h00 : n = 0 := by omega
    subst h00
    have := q _ e2
    rw [goodE_zero hlet] at this
    rw [show decide (iV x.1 = V.non) = x.1.isNone by cases x.1 <;> simp [iV]]
    exact this
  rintro σ3 H3 ⟨rfl, rfl, hn0⟩
  refine seq_then (fun σ' H' => ∃ j : Nat, x.1 = some (j : Int) ∧ j < n ∧ σ' = [some (.ref a), some (.int (n : Nat)), some (iV x.1), some (.ref qq)] ∧ H' = H3) ?_ ?_
  rotate_left
  · intro C hC
    walk_at "rd"
    cases hb : x.1 with
    | none =>
      rw [if_pos (by rfl), if_pos trivial]
      have := q _ e2
      rw [goodE_none hn0 hb] at this
      exact this
    | some b =>
      rw [if_neg (fun z => nomatch z)]
      have far : ¬ (0 ≤ b ∧ b < (n : Int)) → Q (V.bl false) H3 := fun hf => by
        have := q _ e2
        rw [goodE_far hn0 hb hf] at this
        exact this
      refine ⟨b, rfl, ite2 (fun h0 => ⟨b, rfl, ?_⟩) (fun h0 => ?_)⟩
      · by_cases hlt : b < (n : Int)
        · rw [if_neg (by rw [decide_eq_true hlt]; decide)]
          exact hC _ _ ⟨b.toNat, by rw [hb, Int.toNat_of_nonneg h0], by omega, by rw [hb], rfl⟩
        · rw [if_pos (by rw [decide_eq_false hlt]; rfl)]
          exact far fun z => hlt z.2
      · rw [if_pos (by rfl)]
        exact far fun z => h0 z.1
  rintro σ4 H4 ⟨j, hxj, hjn, rfl, rfl⟩
  rw [hxj]
  walk_at "rd"
  have hju : j < us.length := by omega
  obtain ⟨y, hy, p2, q2, hv2, hs2, hq2⟩ := paired_get hX (List.getElem?_eq_getElem hju)
  have oky := hok y (List.mem_of_getElem? hy)
  have eold : oldX xs j = y.2 := by unfold oldX; rw [hy]
  refine ⟨us, _, rfl, SqL.of (e2 _ _ ha), _, atI_nat (List.getElem?_eq_getElem hju), p2, hv2, _, e2.sqt hs2, _, rfl, q2, rfl, y.2, SqL.of (e2 _ _ hq2), by have := oky.len; omega, fun A1 hA1 => ⟨x.2, SqL.of (((same_new hA1 _) _ _ (e2 _ _ hq))), by have := okx.len; omega, fun A2 hA2 => ⟨_, (same_new hA2 _) _ _ upd_same, _, upd_same, ?_, ?_, fun r zs hr2 hz => ?_⟩⟩⟩
  · have l1 := metS_len (xs := y.2) y.2.length
    have l2 := oky.len
    rcases hszx _ hxj (by omega) (by omega) with h3 | h3
    · rw [show ((j : Int).toNat) = j from rfl, eold] at h3
      omega
    · have := metS_pos h3
      omega
  · have l1 := metS_len (xs := y.2) y.2.length
    have l2 := oky.len
    omega
  · have S := ((e2.trans (same_new hA1 (setO P w A1 (metS y.2 y.2.length)))).trans (same_new hA2 (setO P w A2 (metS x.2 x.2.length)))).trans (same_new hr2 (setO P w r zs))
    refine ⟨zs, upd_same, ?_⟩
    have := q _ S
    rw [goodE_in hn0 hlet hxj hjn, eold] at this
    have e : (y.2.all fun z => decide (z ∈ x.2)) = decide (((zs.length : Nat) : Int) = 0) := by
      rw [← Bool.coe_iff_coe, List.all_eq_true, decide_eq_true_eq]
      constructor
      · intro h
        have : zs = [] := List.eq_nil_iff_forall_not_mem.mpr fun z hz' => by
          have h2 := (hz z).mp hz'
          exact h2.2 ((metS_in z).mpr (of_decide_eq_true (h z ((metS_in z).mp h2.1))))
        rw [this]; rfl
      · intro h z hzy
        have hzs : zs = [] := List.eq_nil_of_length_eq_zero (by omega)
        refine decide_eq_true (Classical.byContradiction fun hc => ?_)
        have h2 := (hz z).mpr ⟨(metS_in z).mpr hzy, fun h3 => hc ((metS_in z).mp h3)⟩
        rw [hzs] at h2; cases h2
    rw [e] at this
    exact this
end
set_option Elab.async false
set_option linter.all false
set_option maxRecDepth 100000
set_option maxHeartbeats 4000000
local macro_rules | `(tactic| walk_at "rd") => `(tactic| walk_at "rdx_3")
local macro_rules | `(tactic| walk_at "ri") => `(tactic| walk_at "rdx_4")
noncomputable abbrev s_NoWorlds___init__ : Stmt := inClass (top 3) 0
theorem sc_NoWorlds___init__ : FnScope ["self", "world"] ["self", "world"] (defScope s_NoWorlds___init__) := ⟨rfl, rfl, rfl, by decide +kernel, rfl, by decide +kernel, by decide +kernel⟩
noncomputable abbrev s_look : Stmt := top 20
theorem sc_look : FnScope ["worlds", "number"] ["worlds"] (defScope s_look) := ⟨rfl, rfl, rfl, by decide +kernel, rfl, by decide +kernel, by decide +kernel⟩
section
variable {P : Program} {w : World} {K : PySem.W.Frag} {mg : Str → Option Value} {base : Heap}
theorem nums_small (i : Nat) (h : i < 24) : (Str.ofString "world ").length + (Str.ofString (toString ((i : Nat) : Int))).length + (Str.ofString " is no good one").length ≤ 100 := by
  have : ∀ i : Fin 24, (Str.ofString "world ").length + (Str.ofString (toString ((i.1 : Nat) : Int))).length + (Str.ofString " is no good one").length ≤ 100 := by decide +kernel
  exact this ⟨i, h⟩
theorem nums_log (i : Nat) (h : i < 24) : ((i : Nat) : Int).natAbs.log2 < 1920 := by
  have : ∀ i : Fin 24, ((i.1 : Nat) : Int).natAbs.log2 < 1920 := by decide +kernel
  exact this ⟨i, h⟩
theorem ok_NoWorlds___init__ {k : Nat} {f_NoWorlds___init__ : Addr} {fd_NoWorlds___init__ : FuncData} (F_NoWorlds___init__ : Fun K "__init__" "NoWorlds.__init__" s_NoWorlds___init__ f_NoWorlds___init__ fd_NoWorlds___init__) {aKenError aNoWorlds : Addr} (m_KenError : mg "KenError" = some (.ref aKenError)) (xi_KenError : XIni K aKenError) (xc_NoWorlds : XC K aNoWorlds) (xs_NoWorlds : XSet K aNoWorlds "world") : FnOk P w K mg base CX0 (k + 1) f_NoWorlds___init__ fd_NoWorlds___init__ ["self", "world"] (sp_xinit aNoWorlds) := by
  refine F_NoWorlds___init__.ok sc_NoWorlds___init__ (fun vs H Q E h => ?_) (fun cdv A outer s H vs Q E hr h => ?_)
  · obtain ⟨e, i, T, rfl, _⟩ := h
    rfl
  obtain ⟨e, i, T, rfl, hi, he, q⟩ := h
  refine ⟨_, (pss_cons (ps_expr (pe_xini (C := aNoWorlds) xi_KenError (by exact rfl) m_KenError xc_NoWorlds (pa_cons (pv 0) (pa_cons (pe_fstr (pf_str (pf_valI (pv 1) (pf_str pf_nil)))) pa_nil))))
  (pss_one (ps_xfld xs_NoWorlds xc_NoWorlds (pv 0) (pv 1)))), ?_⟩
  have h1 := nums_small i hi
  have h2 := nums_log i hi
  walk_at "rd"
  have h3 : (Str.empty ++ Str.ofString "world ").length ≤ 100 := by rw [Str.length_append]; show 0 + _ ≤ _; omega
  have h4 : (Str.empty ++ Str.ofString "world " ++ Str.ofString (toString ((i : Nat) : Int))).length ≤ 100 := by rw [Str.length_append, Str.length_append]; show 0 + _ + _ ≤ _; omega
  have h5 : (Str.empty ++ Str.ofString "world " ++ Str.ofString (toString ((i : Nat) : Int)) ++ Str.ofString " is no good one").length ≤ 100 := by rw [Str.length_append, Str.length_append, Str.length_append]; show 0 + _ + _ + _ ≤ _; omega
  exact ⟨Nat.le_of_lt (small1000 (by omega)), h2, Nat.le_of_lt (small1000 (by omega)), Nat.le_of_lt (small1000 (by omega)), Nat.le_of_lt (small1000 (by omega)), _, _, he, T, he, q⟩
theorem raiseN {C ea : Addr} {n : Nat} {H : Hp} {E : XK} (hn : n < 24) (hea : H ea = none) (q : ∀ e d H', Xtd H e (.ref C) (some d) H' → H' d = some (.xd [("world", .int (n : Nat))]) → E (.ref e) (some d) H') :
    sp_xinit C [.ref ea, .int (n : Nat)] (upd H ea (ExcO ea (.ref C) none none)) (fun r H2 => r = V.non ∧ ∃ dd, H2 ea = some (ExcO ea (.ref C) dd none) ∧ (∀ d : Addr, dd = some d → d ≠ ea) ∧ Same H H2 ∧ ∀ H' : Hp, Xtd H ea (.ref C) dd H' → (∀ (d : Addr) (o : HO), dd = some d → H2 d = some o → H' d = some o) → E (.ref ea) dd H') E0 :=
  ⟨ea, n, none, rfl, hn, upd_same, fun d hd hde => ⟨rfl, some d, upd_same, fun d' e => by cases e; exact hde, ((same_new hea _).trans (same_new hd _)).write hea, fun H' hx hk => q ea d H' hx (hk d _ rfl (by rw [upd_ne hde, upd_same]))⟩⟩
theorem ok_look {k : Nat} {f_look : Addr} {fd_look : FuncData} (F_look : Fun K "look" "look" s_look f_look fd_look) {f_is_good : Addr} {fd_is_good : FuncData} (G_is_good : FnOk P w K mg base CX0 (k + 1) f_is_good fd_is_good ["worlds", "number"] (sp_good K)) (m_is_good : mg "is_good" = some (.ref f_is_good)) (k_is_good : PySem.W.keepIn K (.ref f_is_good) = true) (b_is_good : Binds K fd_is_good ["worlds", "number"] []) {aNoWorlds : Addr} (m_NoWorlds : mg "NoWorlds" = some (.ref aNoWorlds)) {f_NoWorlds___init__ : Addr} {fd_NoWorlds___init__ : FuncData} (G_NoWorlds___init__ : FnOk P w K mg base CX0 k f_NoWorlds___init__ fd_NoWorlds___init__ ["self", "world"] (sp_xinit aNoWorlds)) (b_NoWorlds___init__ : Binds K fd_NoWorlds___init__ ["self", "world"] []) (x_NoWorlds : XClsI K aNoWorlds f_NoWorlds___init__) (m_range : mg "range" = none) (m_len : mg "len" = none) : FnOk P w K mg base (CXe P w) (k + 1 + 1) f_look fd_look ["worlds"] (sp_look K aNoWorlds) := by
  refine F_look.okX sc_look (fun vs H Q E h => ?_) (fun cdv A outer s H vs Q E hr h => ?_)
  · obtain ⟨a, us, xs, rfl, _⟩ := h
    rfl
  obtain ⟨a, us, xs, rfl, ha, hX, hok, q0, q1⟩ := h
  refine ⟨_, (pss_cons (ps_if (pt_not (pt_truth (pv 0) (fun _ => rfl)))
    (pss_one (ps_raiseI G_NoWorlds___init__ hr b_NoWorlds___init__ xok_cxOf rfl (by exact rfl) m_NoWorlds x_NoWorlds (pa_cons pe_int pa_nil)))
    pss_nil)
  (pss_cons (ps_for PassesOwn.leaving rfl (pi_range1 rfl m_range (pa_cons (pe_callB call_len_seq (by exact rfl) m_len Ken.boot_len (pa_cons (pv 0) pa_nil)) pa_nil)) (pg_name (i := 1) sc_look.nd rfl (Or.inl rfl))
    (pss_one (ps_if (pt_not (pt_val (pe_call G_is_good hr (by exact rfl) m_is_good k_is_good b_is_good .nil pass0 (pa_cons (pv 0) (pa_cons (pv 1) pa_nil)))))
    (pss_one (ps_raiseI G_NoWorlds___init__ hr b_NoWorlds___init__ xok_cxOf rfl (by exact rfl) m_NoWorlds x_NoWorlds (pa_cons (pv 1) pa_nil)))
    pss_nil)))
  (pss_one (ps_ret pe_bl)))), ?_⟩
  have lu : us.length = xs.length := Paired.length hX
  have l24 := hok.1
  refine seq_then (fun σ' H' => σ' = [some (.ref a), none] ∧ H' = H ∧ xs ≠ []) ?_ ?_
  rotate_left
  · intro C hC
    walk_at "rd"
    refine ⟨_, .inl ⟨us, SqL.of ha, rfl⟩, ?_⟩
    by_cases he : xs = []
    · have hu : us = [] := List.eq_nil_of_length_eq_zero (by rw [lu, he]; rfl)
      rw [hu, if_pos (by rfl)]
      exact ⟨by decide, fun ea hea => raiseN (n := 0) (by decide) hea (q1 0 (.inl ⟨he, rfl⟩))⟩
    · have hu : us.isEmpty = false := by cases us with
        | nil => exact absurd (List.eq_nil_of_length_eq_zero lu.symm) he
        | cons _ _ => rfl
      rw [hu, if_neg (by decide)]
      exact hC _ _ ⟨rfl, rfl, he⟩
  rintro σ1 H1 ⟨rfl, rfl, hne⟩
  refine seq_then (fun σ' H' => ∃ x1, σ' = [some (.ref a), x1] ∧ Same H1 H' ∧ ∀ n, n < xs.length → goodX xs n = true) ?_ ?_
  rotate_left
  · intro C hC
    walk_at "ri"
    refine ⟨_, .inl (SqL.of ha), by omega, by omega, ?_⟩
    refine for_range (D := { nx := C, rt := Q }) (n := ((us.length : Nat) : Int).toNat) (lo := 0) (fun i σ' H' => ∃ x1, σ' = [some (.ref a), x1] ∧ Same H1 H' ∧ ∀ n, n < i → goodX xs n = true) ⟨none, rfl, Same.refl _, fun n z => absurd z (Nat.not_lt_zero _)⟩ (fun i σ' H' hlt hp => ?_) (fun σ' H' ⟨x1, h1, h2, h3⟩ => hC _ _ ⟨x1, h1, h2, fun n hn => h3 n (by omega)⟩)
    obtain ⟨x1, rfl, e, hg⟩ := hp
    walk_at "rd"
    rw [show (0 : Int) + (i : Int) = ((i : Nat) : Int) by omega]
    have hi : i < xs.length := by omega
    refine ⟨a, i, us, xs, rfl, e _ _ ha, AtXs.keep e hX, hi, hok.2.1, hok.2.2 i hg, fun H2 e2 => ⟨_, rfl, ?_⟩⟩
    cases hb : goodX xs i with
    | true =>
      rw [if_neg (by decide)]
      refine ⟨e.trans e2, fun n hn => ?_⟩
      rcases Nat.lt_or_ge n i with h | h
      · exact hg n h
      · rw [show n = i by omega]; exact hb
    | false =>
      rw [if_pos (by decide)]
      refine ⟨by decide, fun ea hea => raiseN (by have := hok.1; omega) hea fun e3 d H' hx hd => q1 i (.inr ⟨hi, hb, hg⟩) e3 d H' (hx.mono (e.trans e2)) hd⟩
  rintro σ2 H2 ⟨x1, rfl, e2, hg⟩
  walk_at "rd"
  exact q0 ⟨hne, hg⟩ _ e2
end
set_option Elab.async false
set_option linter.all false
set_option maxRecDepth 100000
set_option maxHeartbeats 4000000
local macro_rules | `(tactic| walk_at "rd") => `(tactic| walk_at "rdx_1")
local macro_rules | `(tactic| walk_at "ri") => `(tactic| walk_at "rdx_2")
section
variable {P : Program} {w : World} {K : PySem.W.Frag} {mg : Str → Option Value} {base : Heap}
theorem ok__law_words {k : Nat} {f__law_words : Addr} {fd__law_words : FuncData} (F__law_words : Fun K "_law_words" "_law_words" s__law_words f__law_words fd__law_words) (m_range : mg "range" = none) : FnOk P w K mg base CX0 (k + 1) f__law_words fd__law_words ["_law_cell_here", "_law_many"] sp_words := by
  refine F__law_words.ok sc__law_words (fun vs H Q E h => ?_) (fun cdv A outer s H vs Q E hr h => ?_)
  · obtain ⟨c, m, rfl, _⟩ := h
    rfl
  obtain ⟨c, m, rfl, hc0, h0, h1, q⟩ := h
  refine ⟨_, (pss_cons (ps_set (i := 2) sc__law_words.nd rfl (Or.inl rfl) (pe_lst (pa_cons pe_str (pa_cons pe_str (pa_cons pe_str (pa_cons pe_str (pa_cons pe_str (pa_cons pe_str pa_nil))))))))
  (pss_cons (ps_if (pt_cmpR (op_eq) (pe_op op_mod (pv 0) pe_int) pe_int (nomark _))
    (pss_one (ps_setLC (i := 2) sc__law_words.nd rfl (Or.inl rfl) (blk0 (N' := ["_law_k"]) (by decide +kernel) (by decide +kernel) rfl (by decide +kernel)) rfl (pi_range1 rfl m_range (pa_cons pe_int pa_nil)) (fun _ _ _ _ => (pg_name (i := 0) (show (["_law_k"] : List Str).Nodup from by decide +kernel) rfl (Or.inl rfl))) (fun _ _ _ _ => (pe_op op_mulS pe_str (pe_op op_add pe_int (pv 0)))) rfl))
    pss_nil)
  (pss_cons (ps_if (pt_cmpR (op_eq) (pe_op op_mod (pv 0) pe_int) pe_int (nomark _))
    (pss_cons (ps_set (i := 3) sc__law_words.nd rfl (Or.inr rfl) (pe_op op_add pe_int (pe_op op_mod (pe_op op_fdiv (pv 0) pe_int) pe_int)))
  (pss_cons (ps_set (i := 4) sc__law_words.nd rfl (Or.inr rfl) (pe_op op_mod (pe_op op_fdiv (pv 0) pe_int) (pv 3)))
  (pss_one (ps_setLC (i := 2) sc__law_words.nd rfl (Or.inl rfl) (blkC (N' := ["_law_k", "_law_at", "_law_size"]) (nt := 1) (ci := [4, 3]) ["_law_cell_here", "_law_many", "_law_some_here", "_law_size", "_law_at", "_law_start"] (defScope s__law_words) rfl rfl (by decide +kernel) rfl (by decide +kernel) (by decide +kernel) rfl (by decide +kernel)) rfl (pi_range1 rfl m_range (pa_cons pe_int pa_nil)) (fun _ _ _ _ => (pg_name (i := 0) (show (["_law_k", "_law_at", "_law_size"] : List Str).Nodup from by decide +kernel) rfl (Or.inl rfl))) (fun _ _ _ _ => (pe_op op_add_str (pe_op op_add_str (pe_op op_mulS pe_str (pv 1)) (pe_ix ix_str pe_str (pv 0) (fun _ _ => rfl))) (pe_op op_mulS pe_str (pe_op op_sub (pe_op op_sub (pv 2) pe_int) (pv 1))))) rfl))))
    pss_nil)
  (pss_cons (ps_if (pt_cmpR (op_eq) (pe_op op_mod (pv 0) pe_int) pe_int (nomark _))
    (pss_one (ps_set (i := 2) sc__law_words.nd rfl (Or.inl rfl) (pe_lst (pa_cons pe_str (pa_cons pe_str (pa_cons pe_str (pa_cons pe_str (pa_cons pe_str (pa_cons pe_str pa_nil)))))))))
    pss_nil)
  (pss_cons (ps_set (i := 5) sc__law_words.nd rfl (Or.inl rfl) (pe_op op_mod (pe_op op_fdiv (pv 0) pe_int) pe_int))
  (pss_one (ps_ret (pe_slice sl_list (pe_op op_cat (pe_slice sl_list (pv 2) (po_some (pv 5)) po_none) (pe_slice sl_list (pv 2) po_none (po_some (pv 5)))) po_none (po_some (pv 1)))))))))), ?_⟩
  have lit : ∀ (ws : List Str) (H1 : Hp) (p : Addr), Same H H1 → H1 p = none → ws.length = 6 → (ws.all wordB) = true → Six H (upd H1 p (.lst (ws.map V.str))) p ws := fun ws H1 p e hp hl hw =>
    ⟨e.trans (same_new hp _), e.free hp, upd_same, hl, fun x hx => word_of (List.all_eq_true.mp hw x hx)⟩
  refine seq_then (fun σ' H' => ∃ p ws x3 x4, σ' = [some (.int c), some (.int m), some (.ref p), x3, x4, none] ∧ Six H H' p ws) ?_ ?_
  rotate_left
  · intro C hC
    walk_at "rd"
    exact ⟨by decide, fun p hp => hC _ _ ⟨p, ["a", "b", "c", "d", "e", "f"], none, none, rfl, lit ["a", "b", "c", "d", "e", "f"] H p (Same.refl H) hp rfl (by decide +kernel)⟩⟩
  rintro σ1 H1 ⟨p1, w1, x3, x4, rfl, S1⟩
  refine seq_then (fun σ' H' => ∃ p ws x3 x4, σ' = [some (.int c), some (.int m), some (.ref p), x3, x4, none] ∧ Six H H' p ws) ?_ ?_
  rotate_left
  · intro C hC
    walk_at "rd"
    refine ⟨by decide, ite2 (fun _ => ?_) (fun _ => hC _ _ ⟨p1, w1, x3, x4, rfl, S1⟩)⟩
    unfold tLC
    walk_at "rd"
    refine ⟨by decide, by decide, fun acc hacc => ?_⟩
    refine lcW_range (n := 6) (lo := 0) (fun i ys H2 => H2 = upd H1 acc (.lst ys) ∧ ∃ ws, ys = ws.map V.str ∧ ws.length = i ∧ ∀ x ∈ ws, Word x) ⟨rfl, [], rfl, rfl, by simp⟩ (fun i ys H2 hi ⟨e, ws, e2, e3, _⟩ => ?_) (fun i ys H2 hi ⟨e, ws, e2, e3, e4⟩ C' hC' => ?_) (fun ys H2 ⟨e, ws, e2, e3, e4⟩ => ?_)
    · subst e; subst e2
      refine ⟨upd_same, ?_⟩
      rw [List.length_map, e3]; exact small1000 (by omega)
    · subst e; subst e2
      walk_at "rd"
      refine ⟨wk_head, by decide, by omega, by omega, ?_⟩
      refine hC' _ _ upd_same ⟨by rw [upd_upd], ws ++ [Txt.mul "k" (1 + (0 + (i : Int)))], by rw [List.map_append]; rfl, by rw [List.length_append, e3]; rfl, fun x hx => ?_⟩
      rcases List.mem_append.mp hx with z | z
      · exact e4 x z
      · have z' : x = Txt.mul "k" (1 + (0 + (i : Int))) := by simpa using z
        rw [z']
        exact word_mul (c := 107) (by decide) (by decide) (by omega) (by omega)
    · subst e; subst e2
      exact hC _ _ ⟨acc, ws, x3, x4, rfl, S1.1.trans (same_new hacc _), S1.1.free hacc, upd_same, e3, e4⟩
  rintro σ2 H2 ⟨p2, w2, x3, x4, rfl, S2⟩
  refine seq_then (fun σ' H' => ∃ p ws x3 x4, σ' = [some (.int c), some (.int m), some (.ref p), x3, x4, none] ∧ Six H H' p ws) ?_ ?_
  rotate_left
  · intro C hC
    walk_at "rd"
    refine ⟨by decide, ite2 (fun _ => ?_) (fun _ => hC _ _ ⟨p2, w2, x3, x4, rfl, S2⟩)⟩
    refine ⟨⟨by decide, by decide⟩, by decide, ⟨by decide, by decide⟩, by omega, ?_⟩
    unfold tLC
    walk_at "rd"
    refine ⟨by decide, by decide, fun acc hacc => ?_⟩
    have a0 := Int.emod_nonneg (c / 32) (show 1 + c / 4 % 8 ≠ 0 by omega)
    have a1 := Int.emod_lt_of_pos (c / 32) (show 0 < 1 + c / 4 % 8 by omega)
    generalize ea : c / 32 % (1 + c / 4 % 8) = at' at a0 a1 ⊢
    generalize es : 1 + c / 4 % 8 = size at a1 ⊢
    have hs8 : size ≤ 8 := by omega
    refine lcW_range (n := 6) (lo := 0) (fun i ys H3 => H3 = upd H2 acc (.lst ys) ∧ ∃ ws, ys = ws.map V.str ∧ ws.length = i ∧ ∀ x ∈ ws, Word x) ⟨rfl, [], rfl, rfl, by simp⟩ (fun i ys H3 hi ⟨e, ws, e2, e3, _⟩ => ?_) (fun i ys H3 hi ⟨e, ws, e2, e3, e4⟩ C' hC' => ?_) (fun ys H3 ⟨e, ws, e2, e3, e4⟩ => ?_)
    · subst e; subst e2
      refine ⟨upd_same, ?_⟩
      rw [List.length_map, e3]; exact small1000 (by omega)
    · subst e; subst e2
      walk_at "rd"
      have hcd : ∃ d : Nat, atI ("aghmxz" : Str).cps.toList (0 + (i : Int)) = some d ∧ 97 ≤ d ∧ d ≤ 122 := by
        have : i = 0 ∨ i = 1 ∨ i = 2 ∨ i = 3 ∨ i = 4 ∨ i = 5 := by omega
        rcases this with rfl | rfl | rfl | rfl | rfl | rfl
        · exact ⟨97, rfl, by decide, by decide⟩
        · exact ⟨103, rfl, by decide, by decide⟩
        · exact ⟨104, rfl, by decide, by decide⟩
        · exact ⟨109, rfl, by decide, by decide⟩
        · exact ⟨120, rfl, by decide, by decide⟩
        · exact ⟨122, rfl, by decide, by decide⟩
      obtain ⟨d, hd, d1, d2⟩ := hcd
      have l1 : (Txt.mul "m" at').length ≤ 8 := by rw [show ("m" : Str) = ⟨#[109]⟩ from rfl, mul_len]; omega
      have l2 : (Txt.mul "m" (size - 1 - at')).length ≤ 8 := by rw [show ("m" : Str) = ⟨#[109]⟩ from rfl, mul_len]; omega
      have l3 : (⟨#[d]⟩ : Str).length = 1 := rfl
      have l4 : (Txt.mul "m" at' ++ (⟨#[d]⟩ : Str)).length ≤ 9 := by rw [strLen_append]; omega
      refine ⟨wk_head, by decide, by omega, by omega, by decide, d, hd, ?_, by decide, by omega, by omega, ?_, ?_⟩
      · exact Nat.le_of_lt (small1000 (by omega))
      · exact Nat.le_of_lt (small1000 (by omega))
      refine hC' _ _ upd_same ⟨by rw [upd_upd], ws ++ [Txt.mul "m" at' ++ (⟨#[d]⟩ : Str) ++ Txt.mul "m" (size - 1 - at')], by rw [List.map_append]; rfl, by rw [List.length_append, e3]; rfl, fun x hx => ?_⟩
      rcases List.mem_append.mp hx with z | z
      · exact e4 x z
      · have z' : x = Txt.mul "m" at' ++ (⟨#[d]⟩ : Str) ++ Txt.mul "m" (size - 1 - at') := by simpa using z
        rw [z']
        exact word_mid (c := 109) (by decide) (by decide) d1 d2 (by omega) (by omega) (by omega)
    · subst e; subst e2
      exact hC _ _ ⟨acc, ws, _, _, rfl, S2.1.trans (same_new hacc _), S2.1.free hacc, upd_same, e3, e4⟩
  rintro σ3 H3 ⟨p3, w3, x3, x4, rfl, S3⟩
  refine seq_then (fun σ' H' => ∃ p ws x3 x4, σ' = [some (.int c), some (.int m), some (.ref p), x3, x4, none] ∧ Six H H' p ws) ?_ ?_
  rotate_left
  · intro C hC
    walk_at "rd"
    refine ⟨by decide, ite2 (fun _ => ?_) (fun _ => hC _ _ ⟨p3, w3, x3, x4, rfl, S3⟩)⟩
    exact ⟨by decide, fun p hp => hC _ _ ⟨p, ["low", "one", "both", "then", "letter", "lows"], _, _, rfl, lit ["low", "one", "both", "then", "letter", "lows"] H3 p S3.1 hp rfl (by decide +kernel)⟩⟩
  rintro σ4 H4 ⟨p4, w4, x3, x4, rfl, S4⟩
  walk_at "rd"
  have b0 := Int.emod_nonneg (c / 256) (show (6 : Int) ≠ 0 by decide)
  have b1 := Int.emod_lt_of_pos (c / 256) (show (0 : Int) < 6 by decide)
  generalize c / 256 % 6 = st at b0 b1 ⊢
  obtain ⟨e4, f4, h4, l4, o4⟩ := S4
  refine ⟨⟨by decide, by decide⟩, by decide, w4.map V.str, .inl (.inl h4), fun q1 hq1 => ⟨w4.map V.str, ?_, fun q2 hq2 => ?_⟩⟩
  · exact sqL_ne (.inl (.inl h4)) (ne_of_none h4 hq1)
  have n21 : q2 ≠ q1 := fun z => by subst z; rw [upd_same] at hq2; cases hq2
  refine ⟨cutV (w4.map V.str) (some st) none, ?_, cutV (w4.map V.str) none (some st), upd_same, ?_, fun q3 hq3 => ⟨_, .inl (.inl upd_same), fun q4 hq4 => ?_⟩⟩
  · rw [upd_ne (Ne.symm n21), upd_same]
  · have z1 := cutV_length (w4.map V.str) (some st) none
    have z2 := cutV_length (w4.map V.str) none (some st)
    rw [List.length_map] at z1 z2
    exact Nat.le_of_lt (small1000 (by omega))
  rw [cut_map, cut_map, ← List.map_append] at hq4 ⊢
  rw [cut_map]
  have e3' : Same H4 (upd (upd (upd H4 q1 (.lst (cutV (w4.map V.str) (some st) none))) q2 (.lst (cutV (w4.map V.str) none (some st)))) q3 (.lst (cutV (w4.map V.str) (some st) none ++ cutV (w4.map V.str) none (some st)))) := ((same_new hq1 _).trans (same_new hq2 _)).trans (same_new hq3 _)
  rw [cut_map, cut_map, ← List.map_append] at e3'
  have eA := e4.trans e3'
  have hst : st = ((st.toNat : Nat) : Int) := by omega
  have hm : m = ((m.toNat : Nat) : Int) := by omega
  refine q _ _ _ (eA.trans (same_new hq4 _)) (eA.free hq4) upd_same ⟨?_, ?_, fun x hx => ?_⟩
  · rw [hst, hm]
    simp only [List.length_take, List.length_drop, List.length_append, HT.sIx_nat, HT.sIx_none, l4]
    omega
  · rw [hst, hm]
    simp only [List.length_take, List.length_drop, List.length_append, HT.sIx_nat, HT.sIx_none, l4]
    omega
  · have hx1 := List.mem_of_mem_drop (List.mem_of_mem_take hx)
    rcases List.mem_append.mp hx1 with z | z
    · exact o4 x (List.mem_of_mem_drop (List.mem_of_mem_take z))
    · exact o4 x (List.mem_of_mem_drop (List.mem_of_mem_take z))
end
set_option Elab.async false
set_option linter.all false
set_option maxRecDepth 100000
set_option maxHeartbeats 4000000
local macro_rules | `(tactic| walk_at "rd") => `(tactic| walk_at "rdx_1")
local macro_rules | `(tactic| walk_at "ri") => `(tactic| walk_at "rdx_2")
noncomputable abbrev s__law_some : Stmt := top 26
theorem sc__law_some : FnScope ["_law_cell_here", "_law_old", "_law_words_here", "_law_found", "_law_k", "_law_word"] ["_law_cell_here", "_law_old", "_law_words_here"] (defScope s__law_some) := ⟨rfl, rfl, rfl, by decide +kernel, rfl, by decide +kernel, by decide +kernel⟩
noncomputable abbrev s__law_copy : Stmt := top 27
theorem sc__law_copy : FnScope ["_law_worlds_here"] ["_law_worlds_here"] (defScope s__law_copy) := ⟨rfl, rfl, rfl, by decide +kernel, rfl, by decide +kernel, by decide +kernel⟩
section
variable {P : Program} {w : World} {K : PySem.W.Frag} {mg : Str → Option Value} {base : Heap}
theorem ok__law_some {k : Nat} {f__law_some : Addr} {fd__law_some : FuncData} (F__law_some : Fun K "_law_some" "_law_some" s__law_some f__law_some fd__law_some) {f__law_mix : Addr} {fd__law_mix : FuncData} (G__law_mix : FnOk P w K mg base CX0 k f__law_mix fd__law_mix ["_law_cell_here", "_law_k"] (sp_mix)) (m__law_mix : mg "_law_mix" = some (.ref f__law_mix)) (k__law_mix : PySem.W.keepIn K (.ref f__law_mix) = true) (b__law_mix : Binds K fd__law_mix ["_law_cell_here", "_law_k"] []) (m_list : mg "list" = none) (m_enumerate : mg "enumerate" = none) (m_sorted : mg "sorted" = none) : FnOk P w K mg base CX0 (k + 1) f__law_some fd__law_some ["_law_cell_here", "_law_old", "_law_words_here"] (sp_someQ K) := by
  refine F__law_some.ok sc__law_some (fun vs H Q E h => ?_) (fun cdv A outer s H vs Q E hr h => ?_)
  · obtain ⟨c, a, wa, os, ws, rfl, _⟩ := h
    rfl
  obtain ⟨c, a, wa, os, ws, rfl, hS, hw, hWs, hnd, hsub, q⟩ := h
  refine ⟨_, (pss_cons (ps_set (i := 3) sc__law_some.nd rfl (Or.inl rfl) (pe_callTy call_list_of (by exact rfl) m_list Ken.boot_list (pa_cons (pv 1) pa_nil)))
  (pss_cons (ps_for PassesOwn.never rfl (pi_enum rfl m_enumerate (pa_cons (pv 2) pa_nil)) (pg_tup rfl (pgs_cons (pg_name (i := 4) sc__law_some.nd rfl (Or.inl rfl)) (pgs_cons (pg_name (i := 5) sc__law_some.nd rfl (Or.inl rfl)) pgs_nil)))
    (pss_one (ps_if ((pw_and (pt_cmpR (op_notIn_seq) (pv 5) (pv 3) (by with_unfolding_all rfl)) (pw_and1 (pt_cmpR (op_eq) (pe_op op_mod (pe_call G__law_mix hr (by exact rfl) m__law_mix k__law_mix b__law_mix .nil pass0 (pa_cons (pv 0) (pa_cons (pe_op op_add pe_int (pv 4)) pa_nil))) pe_int) pe_int (nomark _))))).pt
    (pss_one (ps_expr (pe_bm PySem.F.plainAttrs_list PySem.F.slot_list_append PySem.F.type_list_append mt_append (pv 3) (pa_cons (pv 5) pa_nil))))
    pss_nil)))
  (pss_one (ps_ret (pe_callB call_sorted_strs (by exact rfl) m_sorted Ken.boot_sorted (pa_cons (pv 3) pa_nil)))))), ?_⟩
  refine seq_then (fun σ' H' => ∃ l, σ' = [some (.int c), some (.ref a), some (.ref wa), some (.ref l), none, none] ∧ Same H H' ∧ H l = none ∧ H' l = some (.lst (os.map V.str))) ?_ ?_
  rotate_left
  · intro C hC
    walk_at "rd"
    exact ⟨_, .inl hS, fun l hl => hC _ _ ⟨l, rfl, same_new hl _, hl, upd_same⟩⟩
  rintro σ1 H1 ⟨l, rfl, e1, f1, h1⟩
  refine seq_then (fun σ' H' => ∃ (x4 x5 : Option V) (out : List Str), σ' = [some (.int c), some (.ref a), some (.ref wa), some (.ref l), x4, x5] ∧ Same H H' ∧ H' l = some (.lst (out.map V.str)) ∧ out.Nodup ∧ (∀ y ∈ out, y ∈ ws) ∧ ∀ y ∈ os, y ∈ out) ?_ ?_
  rotate_left
  · intro C hC
    walk_at "ri"
    refine ⟨⟨_, e1.seq hw⟩, ?_⟩
    refine for_enum (D := { nx := C, rt := Q }) (xs := ws.map V.str) (fun i σ' H' => ∃ (x4 x5 : Option V) (out : List Str), σ' = [some (.int c), some (.ref a), some (.ref wa), some (.ref l), x4, x5] ∧ Same H H' ∧ H' l = some (.lst (out.map V.str)) ∧ out.Nodup ∧ (∀ y ∈ out, y ∈ ws) ∧ ∀ y ∈ os, y ∈ out) ⟨none, none, os, rfl, e1, h1, hnd, hsub, fun y hy => hy⟩ (fun i σ' H' hi hp => ?_) (fun i x σ' H' T hx hT hp => ?_) (fun σ' H' hp => hC _ _ hp)
    · obtain ⟨x4, x5, out, rfl, e, _⟩ := hp
      exact e.seq hw
    obtain ⟨x4, x5, out, rfl, e, h, hn, hs, ho⟩ := hp
    rw [List.getElem?_map] at hx
    cases hz : ws[i]? with
    | none => rw [hz] at hx; cases hx
    | some z =>
    rw [hz] at hx
    cases hx
    have hzm : z ∈ ws := List.mem_of_getElem? hz
    have hi6 : i < ws.length := (List.getElem?_eq_some_iff.mp hz).1
    have w6 := hWs.2.1
    have ol := len_le_of_sub hn hs
    walk_at "rd"
    have eT : Same H (upd H' T (.tup [.int i, .str z])) := e.trans (same_new hT _)
    have hT' := (same_new hT (.tup [.int i, .str z])) _ _ h
    refine ⟨_, .inl (.inl upd_same), rfl, _, _, rfl, _, _, rfl, rfl, ?_⟩
    refine ⟨_, .inl (SqL.of hT'), rfl, strs_flat _, ?_⟩
    rw [if_pos trivial, in_strs]
    by_cases hin : z ∈ out
    · rw [decide_eq_true hin, if_neg (by decide), if_neg Bool.false_ne_true]
      exact ⟨eT, out, hT', hn, hs, ho⟩
    · rw [decide_eq_false hin, if_pos (by decide)]
      refine ⟨_, rfl, c, _, rfl, by omega, by omega, _, rfl, by decide, ite2 (fun _ => ?_) (fun _ => ⟨eT, out, hT', hn, hs, ho⟩)⟩
      refine ⟨.inl ⟨rfl, _, SqL.of hT'⟩, _, hT', small1M (by rw [List.length_map]; omega), eT.write f1, out ++ [z], by rw [upd_same, List.map_append]; rfl, nd_snoc hn hin, fun y hy => ?_, fun y hy => List.mem_append_left _ (ho y hy)⟩
      rcases List.mem_append.mp hy with hy | hy
      · exact hs y hy
      · have : y = z := by simpa using hy
        rw [this]; exact hzm
  rintro σ2 H2 ⟨x4, x5, out, rfl, e2, h2, hn2, hs2, ho2⟩
  walk_at "rd"
  have := len_le_of_sub hn2 hs2
  have := hWs.2.1
  refine ⟨out, SqL.of h2, by omega, fun r out' hr' hp hs => ?_⟩
  exact q r _ out' (e2.trans (same_new hr' _)) (e2.free hr') upd_same ⟨hp.nodup_iff.mpr hn2, hs⟩ (fun y hy => hs2 y (hp.mem_iff.mp hy)) fun y hy => hp.mem_iff.mpr (ho2 y hy)
theorem ok__law_copy {k : Nat} {f__law_copy : Addr} {fd__law_copy : FuncData} (F__law_copy : Fun K "_law_copy" "_law_copy" s__law_copy f__law_copy fd__law_copy) (m_list : mg "list" = none) : FnOk P w K mg base CX0 (k + 1) f__law_copy fd__law_copy ["_law_worlds_here"] (sp_copyX K) := by
  refine F__law_copy.ok sc__law_copy (fun vs H Q E h => ?_) (fun cdv A outer s H vs Q E hr h => ?_)
  · obtain ⟨a, xs, ws, rfl, _⟩ := h
    rfl
  obtain ⟨a, xs, ws, rfl, ha, hW, hl, q⟩ := h
  have lx : xs.length = ws.length := Paired.length hW
  refine ⟨_, (pss_one (ps_ret (pe_lc (blk0 (N' := ["_law_before", "_law_words_here"]) (by decide +kernel) (by decide +kernel) rfl (by decide +kernel)) rfl (pi_list (pv 0)) (fun _ _ _ _ => (pg_tupK (K := K) (n := 2) rfl rfl (pgs_cons (pg_name (i := 0) (show (["_law_before", "_law_words_here"] : List Str).Nodup from by decide +kernel) rfl (Or.inl rfl)) (pgs_cons (pg_name (i := 1) (show (["_law_before", "_law_words_here"] : List Str).Nodup from by decide +kernel) rfl (Or.inl rfl)) pgs_nil)) rfl rfl)) (fun _ _ _ _ => (pe_tup (pa_cons (pv 0) (pa_cons (pe_callTy (call_list_ofK (K := K) rfl) (by exact rfl) m_list Ken.boot_list (pa_cons (pv 1) pa_nil)) pa_nil))))))), ?_⟩
  unfold tRet tLC
  walk_at "rd"
  refine ⟨⟨_, SqL.of ha⟩, fun acc hacc => ?_⟩
  refine lcW_list (xs := xs) (fun i ys H' => Same H H' ∧ H' acc = some (.lst ys) ∧ Paired (AtXn K H' acc) ys (ws.take i)) ⟨same_new hacc _, upd_same, .nil⟩ (fun i ys H' hi ⟨e, h, hy⟩ => ⟨h, ?_, SqL.of (e _ _ ha)⟩) (fun i x ys H' hx ⟨e, h, hy⟩ C' hC' => ?_) (fun ys H' ⟨e, h, hy⟩ => ?_)
  · have := Paired.length hy
    rw [List.length_take] at this
    exact small1M (by omega)
  · obtain ⟨y, hy', p, qq, rfl, hs, hq⟩ := paired_get hW hx
    walk_at "rd"
    refine ⟨_, e.sqt hs, rfl, _, _, rfl, _, _, rfl, rfl, Wk.trans (wk_set (i := 0) rfl) (wk_set (i := 1) rfl), qq, rfl, _, .inl (SqL.of (e _ _ hq)), fun l hl => ⟨by decide, fun p1 hp1 => ?_⟩⟩
    have S5 : Same H' (upd (upd H' l (.lst (y.2.map V.str))) p1 (.tup [iV y.1, .ref l])) := (same_new hl _).trans (same_new hp1 _)
    have hl5 : upd (upd H' l (.lst (y.2.map V.str))) p1 (.tup [iV y.1, .ref l]) l = some (.lst (y.2.map V.str)) := (same_new hp1 _) _ _ upd_same
    have hp5 : SqT K (upd (upd H' l (.lst (y.2.map V.str))) p1 (.tup [iV y.1, .ref l])) p1 [iV y.1, .ref l] := .inl (.inl upd_same)
    generalize upd (upd H' l (.lst (y.2.map V.str))) p1 (.tup [iV y.1, .ref l]) = H5 at S5 hl5 hp5 ⊢
    have h5 := S5 _ _ h
    refine hC' _ _ h5 ⟨(e.trans S5).write hacc, upd_same, ?_⟩
    rw [List.take_succ, hy']
    refine Paired.snoc (Paired.mapP hy fun _ _ z => (z.keep S5).write h5) ⟨p1, l, Ne.symm (ne_of_none h hl), rfl, keepT_lst h5 _ _ hp5, ?_⟩
    rw [upd_ne (Ne.symm (ne_of_none h hl))]
    exact hl5
  · rw [lx, List.take_length] at hy
    exact q _ _ ys e hacc h (Paired.mapP hy fun _ _ z => z.at)
end
set_option Elab.async false
set_option linter.all false
set_option maxRecDepth 100000
set_option maxHeartbeats 4000000
local macro_rules | `(tactic| walk_at "rd") => `(tactic| walk_at "rdx_1")
local macro_rules | `(tactic| walk_at "ri") => `(tactic| walk_at "rdx_2")
noncomputable abbrev s__law_worlds : Stmt := top 25
theorem sc__law_worlds : FnScope ["_law_script", "_law_start", "_law_most", "_law_words_here", "_law_made", "_law_k", "_law_cell_here", "_law_before"] ["_law_script", "_law_start", "_law_most", "_law_words_here"] (defScope s__law_worlds) := ⟨rfl, rfl, rfl, by decide +kernel, rfl, by decide +kernel, by decide +kernel⟩
section
variable {P : Program} {w : World} {K : PySem.W.Frag} {mg : Str → Option Value} {base : Heap}
theorem ok__law_worlds {k : Nat} {f__law_worlds : Addr} {fd__law_worlds : FuncData} (F__law_worlds : Fun K "_law_worlds" "_law_worlds" s__law_worlds f__law_worlds fd__law_worlds) {f__law_mix : Addr} {fd__law_mix : FuncData} (G__law_mix : FnOk P w K mg base CX0 k f__law_mix fd__law_mix ["_law_cell_here", "_law_k"] (sp_mix)) (m__law_mix : mg "_law_mix" = some (.ref f__law_mix)) (k__law_mix : PySem.W.keepIn K (.ref f__law_mix) = true) (b__law_mix : Binds K fd__law_mix ["_law_cell_here", "_law_k"] []) {f__law_some : Addr} {fd__law_some : FuncData} (G__law_some : FnOk P w K mg base CX0 k f__law_some fd__law_some ["_law_cell_here", "_law_old", "_law_words_here"] (sp_someQ K)) (m__law_some : mg "_law_some" = some (.ref f__law_some)) (k__law_some : PySem.W.keepIn K (.ref f__law_some) = true) (b__law_some : Binds K fd__law_some ["_law_cell_here", "_law_old", "_law_words_here"] []) {f__law_cell : Addr} {fd__law_cell : FuncData} (G__law_cell : FnOk P w K mg base CX0 k f__law_cell fd__law_cell ["_law_script", "_law_k"] (sp_cell K)) (m__law_cell : mg "_law_cell" = some (.ref f__law_cell)) (k__law_cell : PySem.W.keepIn K (.ref f__law_cell) = true) (b__law_cell : Binds K fd__law_cell ["_law_script", "_law_k"] []) (m_range : mg "range" = none) (m_max : mg "max" = none) (m_len : mg "len" = none) : FnOk P w K mg base CX0 (k + 1) f__law_worlds fd__law_worlds ["_law_script", "_law_start", "_law_most", "_law_words_here"] (sp_worldsQ K) := by
  refine F__law_worlds.ok sc__law_worlds (fun vs H Q E h => ?_) (fun cdv A outer s H vs Q E hr h => ?_)
  · obtain ⟨a, ns, st, mo, wa, us, rfl, _⟩ := h
    rfl
  obtain ⟨a, ns, start, most, wa, us, rfl, hS, hl, s0, s1, m0, m1, hw, hWs, q⟩ := h
  refine ⟨_, (pss_cons (ps_set (i := 4) sc__law_worlds.nd rfl (Or.inl rfl) (pe_lst (pa_cons (pe_tup (pa_cons pe_non (pa_cons (pe_call G__law_some hr (by exact rfl) m__law_some k__law_some b__law_some .nil pass0 (pa_cons (pe_call G__law_cell hr (by exact rfl) m__law_cell k__law_cell b__law_cell .nil pass0 (pa_cons (pv 0) (pa_cons (pv 1) pa_nil))) (pa_cons (pe_lst pa_nil) (pa_cons (pv 3) pa_nil)))) pa_nil))) pa_nil)))
  (pss_cons (ps_for PassesOwn.never rfl (pi_range2 rfl m_range (pa_cons pe_int (pa_cons (pe_op op_add pe_int (pe_op op_mod (pe_call G__law_cell hr (by exact rfl) m__law_cell k__law_cell b__law_cell .nil pass0 (pa_cons (pv 0) (pa_cons (pe_op op_add (pv 1) pe_int) pa_nil))) (pv 2))) pa_nil))) (pg_name (i := 5) sc__law_worlds.nd rfl (Or.inl rfl))
    (pss_cons (ps_set (i := 6) sc__law_worlds.nd rfl (Or.inl rfl) (pe_call G__law_mix hr (by exact rfl) m__law_mix k__law_mix b__law_mix .nil pass0 (pa_cons (pe_call G__law_cell hr (by exact rfl) m__law_cell k__law_cell b__law_cell .nil pass0 (pa_cons (pv 0) (pa_cons (pe_op op_add (pe_op op_add (pv 1) pe_int) (pe_op op_mod (pv 5) (pe_callB (call_max2 rfl) (by exact rfl) m_max Ken.boot_max (pa_cons pe_int (pa_cons (pe_callB call_len_seq (by exact rfl) m_len Ken.boot_len (pa_cons (pv 0) pa_nil)) pa_nil))))) pa_nil))) (pa_cons (pe_op op_add (pv 5) pe_int) pa_nil))))
  (pss_cons (ps_set (i := 7) sc__law_worlds.nd rfl (Or.inl rfl) (pe_op op_mod (pv 6) (pv 5)))
  (pss_cons (ps_if (pt_cmpR (op_eq) (pe_op op_mod (pe_op op_fdiv (pv 6) pe_int) pe_int) pe_int (nomark _))
    (pss_one (ps_set (i := 7) sc__law_worlds.nd rfl (Or.inl rfl) (pe_op op_sub (pv 5) pe_int)))
    pss_nil)
  (pss_one (ps_expr (pe_bm PySem.F.plainAttrs_list PySem.F.slot_list_append PySem.F.type_list_append mt_append (pv 4) (pa_cons (pe_tup (pa_cons (pv 7) (pa_cons (pe_call G__law_some hr (by exact rfl) m__law_some k__law_some b__law_some .nil pass0 (pa_cons (pe_op op_fdiv (pv 6) pe_int) (pa_cons (pe_ix ix_tup (pe_ix ix_list (pv 4) (pv 7) (fun _ _ => rfl)) pe_int (fun _ _ => rfl)) (pa_cons (pv 3) pa_nil)))) pa_nil))) pa_nil))))))))
  (pss_one (ps_ret (pv 4))))), ?_⟩
  refine seq_then (fun σ' H' => ∃ l vs ws, σ' = [some (.ref a), some (.int start), some (.int most), some (.ref wa), some (.ref l), none, none, none] ∧ Same H H' ∧ H l = none ∧ H' l = some (.lst vs) ∧ Paired (AtWn K H' l) vs ws ∧ goodB ws ∧ persB ws ∧ inWq us ws ∧ ws.length = 1) ?_ ?_
  rotate_left
  · intro C hC
    walk_at "rd"
    refine ⟨a, ns, start, rfl, hS, hl, s0, by omega, by decide, fun p0 hp0 => ⟨_, p0, wa, [], us, rfl, SqL.of upd_same, (same_new hp0 _).seq hw, hWs, List.nodup_nil, by simp, fun r H1 out e1 fr h1 hn hs _ => ⟨by decide, fun p1 hp1 => ⟨by decide, fun p2 hp2 => ?_⟩⟩⟩⟩
    have S1 : Same H H1 := (same_new hp0 _).trans e1
    have hr1 := (same_new hp1 (.tup [.non, .ref r])) _ _ h1
    refine hC _ _ ⟨p2, [.ref p1], [(none, out)], rfl, (S1.trans (same_new hp1 _)).trans (same_new hp2 _), (S1.trans (same_new hp1 _)).free hp2, upd_same, .cons ⟨p1, r, ne_of_none hr1 hp2, rfl, (same_new hp2 _).sqt (.inl (.inl upd_same)), (same_new hp2 _) _ _ hr1⟩ .nil, ?_, ?_, ?_, rfl⟩
    · intro k x hx
      cases k with
      | zero => cases hx; exact ⟨fun _ => rfl, fun z => absurd z (Nat.lt_irrefl _)⟩
      | succ k => cases hx
    · intro k x hx j ej
      cases k with
      | zero => cases hx; cases ej
      | succ k => cases hx
    · intro x hx
      rcases List.mem_singleton.mp hx with rfl
      exact ⟨hn, hs⟩
  rintro σ1 H1 ⟨l, vs, ws, rfl, e1, f1, h1, hW, hg, hpb, hi, hl1⟩
  refine seq_then (fun σ' H' => ∃ (x5 x6 x7 : Option V) (vs : List V) (ws : List Wd), σ' = [some (.ref a), some (.int start), some (.int most), some (.ref wa), some (.ref l), x5, x6, x7] ∧ Same H H' ∧ H' l = some (.lst vs) ∧ Paired (AtWn K H' l) vs ws ∧ goodB ws ∧ persB ws ∧ inWq us ws ∧ 1 ≤ ws.length ∧ (ws.length : Int) ≤ most) ?_ ?_
  rotate_left
  · intro C hC
    walk_at "ri"
    have b0 := Int.emod_nonneg (cellOf ns (start + 1)) (show most ≠ 0 by omega)
    have b1 := Int.emod_lt_of_pos (cellOf ns (start + 1)) (show 0 < most by omega)
    refine ⟨a, ns, _, rfl, e1.seq hS, hl, by omega, by omega, _, rfl, by omega, by decide, by decide, by omega, by omega, ?_⟩
    generalize cellOf ns (start + 1) % most = mm at b0 b1 ⊢
    refine for_range (D := { nx := C, rt := Q }) (n := (1 + mm - 1).toNat) (lo := 1) (fun i σ' H' => ∃ (x5 x6 x7 : Option V) (vs : List V) (ws : List Wd), σ' = [some (.ref a), some (.int start), some (.int most), some (.ref wa), some (.ref l), x5, x6, x7] ∧ Same H H' ∧ H' l = some (.lst vs) ∧ Paired (AtWn K H' l) vs ws ∧ goodB ws ∧ persB ws ∧ inWq us ws ∧ ws.length = i + 1) ⟨none, none, none, vs, ws, rfl, e1, h1, hW, hg, hpb, hi, hl1⟩ (fun i σ' H' hlt hp => ?_) (fun σ' H' hp => ?_)
    rotate_left
    · obtain ⟨x5, x6, x7, vs, ws, rfl, e, h, hW, hg, hpb, hi, hlen⟩ := hp
      exact hC _ _ ⟨x5, x6, x7, vs, ws, rfl, e, h, hW, hg, hpb, hi, by omega, by omega⟩
    obtain ⟨x5, x6, x7, vs, ws, rfl, e, h, hW, hg, hpb, hi, hlen⟩ := hp
    show tSeq _ _ _ _ _
    refine seq_then (fun σ' H2 => ∃ c : Int, 0 ≤ c ∧ σ' = [some (.ref a), some (.int start), some (.int most), some (.ref wa), some (.ref l), some (.int (1 + (i : Int))), some (.int c), x7] ∧ H2 = H') ?_ ?_
    rotate_left
    · intro C hC
      walk_at "rd"
      refine ⟨_, .inl (e.seq hS), ?_⟩
      have mx : ∃ m : Int, (if ((ns.map V.int).length : Int) > 1 then ((ns.map V.int).length : Int) else 1) = m ∧ 1 ≤ m ∧ m ≤ 63 := by
        rw [List.length_map]
        by_cases c1 : (ns.length : Int) > 1
        · rw [if_pos c1]; exact ⟨_, rfl, by omega, by omega⟩
        · rw [if_neg c1]; exact ⟨1, rfl, by decide, by decide⟩
      obtain ⟨mxv, em, hm1, hm2⟩ := mx
      rw [em]
      have c0 := Int.emod_nonneg (1 + (i : Int)) (show mxv ≠ 0 by omega)
      have c1 := Int.emod_lt_of_pos (1 + (i : Int)) (show 0 < mxv by omega)
      exact ⟨by omega, a, ns, _, rfl, e.seq hS, hl, by omega, by omega, _, _, rfl, by omega, by omega, hC _ _ ⟨_, mix_nn _ _, rfl, rfl⟩⟩
    rintro σ3 H3 ⟨c, hc, rfl, rfl⟩
    refine seq_then (fun σ' H2 => σ' = [some (.ref a), some (.int start), some (.int most), some (.ref wa), some (.ref l), some (.int (1 + (i : Int))), some (.int c), some (.int (c % (1 + (i : Int))))] ∧ H2 = H3) ?_ ?_
    rotate_left
    · intro C hC
      walk_at "rd"
      exact ⟨by omega, hC _ _ ⟨rfl, rfl⟩⟩
    rintro σ4 H4 ⟨rfl, rfl⟩
    refine seq_then (fun σ' H2 => ∃ b : Nat, b < 1 + i ∧ σ' = [some (.ref a), some (.int start), some (.int most), some (.ref wa), some (.ref l), some (.int (1 + (i : Int))), some (.int c), some (.int b)] ∧ H2 = H4) ?_ ?_
    rotate_left
    · intro C hC
      have c0 := Int.emod_nonneg c (show 1 + (i : Int) ≠ 0 by omega)
      have c1 := Int.emod_lt_of_pos c (show 0 < 1 + (i : Int) by omega)
      walk_at "rd"
      refine ⟨⟨by decide, by decide⟩, by decide, ite2 (fun _ => hC _ _ ⟨i, by omega, ?_, rfl⟩) (fun _ => hC _ _ ⟨(c % (1 + (i : Int))).toNat, by omega, ?_, rfl⟩)⟩
      · rw [show (1 + (i : Int) - 1) = (i : Int) by omega]
      · rw [show (((c % (1 + (i : Int))).toNat : Nat) : Int) = c % (1 + (i : Int)) by omega]
    rintro σ5 H5 ⟨b, hb, rfl, rfl⟩
    have lv : vs.length = ws.length := Paired.length hW
    have hbl : b < vs.length := by omega
    obtain ⟨y, hy, p, qq, nq, hv, hs, hq⟩ := paired_get hW (List.getElem?_eq_getElem hbl)
    have hyi := hi y (List.mem_of_getElem? hy)
    walk_at "rd"
    refine ⟨.inl ⟨rfl, _, SqL.of h⟩, ⟨by decide, by decide⟩, vs, SqL.of h, _, atI_nat (List.getElem?_eq_getElem hbl), p, hv, _, hs, .ref qq, rfl, _, qq, wa, y.2, us, rfl, SqL.of hq, e.seq hw, hWs, hyi.1.1, hyi.2, fun r H6 out e6 fr h6 hn hs' ho => ⟨by decide, fun p1 hp1 => ?_⟩⟩
    have hl6 := e6 _ _ h
    have S7 := same_new hp1 (.tup [.int (b : Nat), .ref r])
    have hl7 := S7 _ _ hl6
    have hr7 := S7 _ _ h6
    have nrl : r ≠ l := Ne.symm (ne_of_none h fr)
    refine ⟨vs, hl7, small1M (by omega), ((e.trans e6).trans S7).write f1, vs ++ [.ref p1], upd_same, ws ++ [(some b, out)], Paired.snoc (Paired.mapP hW fun _ _ z => (z.keep (e6.trans S7)).write hl7) ⟨p1, r, nrl, rfl, keepT_lst hl7 _ _ (.inl (.inl upd_same)), by rw [upd_ne nrl]; exact hr7⟩, ?_, ?_, ?_, by rw [List.length_append, hlen]; rfl⟩
    · intro k x hx
      by_cases hk : k < ws.length
      · rw [List.getElem?_append_left hk] at hx
        exact hg k x hx
      · have hk2 : k < (ws ++ [(some b, out)]).length := (List.getElem?_eq_some_iff.mp hx).1
        rw [List.length_append, List.length_singleton] at hk2
        have ek : k = ws.length := by omega
        subst ek
        rw [List.getElem?_append_right (Nat.le_refl _), Nat.sub_self] at hx
        cases hx
        exact ⟨fun z => absurd z (by omega), fun _ => ⟨b, rfl, by omega⟩⟩
    · intro k x hx j ej y' hy'
      by_cases hk : k < ws.length
      · rw [List.getElem?_append_left hk] at hx
        have hj : j < k := by
          rcases Nat.eq_zero_or_pos k with z | z
          · subst z
            rw [(hg 0 x hx).1 rfl] at ej; cases ej
          · obtain ⟨j', e', l'⟩ := (hg k x hx).2 z
            rw [e'] at ej; cases ej; exact l'
        rw [List.getElem?_append_left (by omega)] at hy'
        exact hpb k x hx j ej y' hy'
      · have hk2 : k < (ws ++ [(some b, out)]).length := (List.getElem?_eq_some_iff.mp hx).1
        rw [List.length_append, List.length_singleton] at hk2
        have ek : k = ws.length := by omega
        subst ek
        rw [List.getElem?_append_right (Nat.le_refl _), Nat.sub_self] at hx
        cases hx
        have ej' : j = b := by cases ej; rfl
        subst ej'
        rw [List.getElem?_append_left (by omega), hy] at hy'
        cases hy'
        exact ho
    · intro x hx
      rcases List.mem_append.mp hx with hx | hx
      · exact hi x hx
      · rcases List.mem_singleton.mp hx with rfl
        exact ⟨hn, hs'⟩
  rintro σ2 H2 ⟨x5, x6, x7, vs2, ws2, rfl, e2, h2, hW2, hg2, hp2, hi2, hl2, hl3⟩
  walk_at "rd"
  exact q _ _ vs2 ws2 e2 f1 h2 (Paired.mapP hW2 fun _ _ z => z.at) hg2 hp2 hi2 hl2 hl3
end
set_option Elab.async false
set_option linter.all false
set_option maxRecDepth 100000
set_option maxHeartbeats 4000000
theorem all_mk {l : PySem.W.OpenLaw} {w : World} {K : PySem.W.Frag} {h : Heap} {mg : Str → Option Value} {fa : Addr} (X : K.In h) (G : h.Ns mainGlobals mg) (hfa : mg "law" = some (.ref fa))
    {f__law_mix : Addr} {od__law_mix an__law_mix : Option Addr} {sl__law_mix : Array (Option Value)} {oc__law_mix kV__law_mix dc__law_mix pm__law_mix cd__law_mix ct__law_mix : Value}
    {f__law_cell : Addr} {od__law_cell an__law_cell : Option Addr} {sl__law_cell : Array (Option Value)} {oc__law_cell kV__law_cell dc__law_cell pm__law_cell cd__law_cell ct__law_cell : Value}
    {f__law_words : Addr} {od__law_words an__law_words : Option Addr} {sl__law_words : Array (Option Value)} {oc__law_words kV__law_words dc__law_words pm__law_words cd__law_words ct__law_words : Value}
    {f__law_some : Addr} {od__law_some an__law_some : Option Addr} {sl__law_some : Array (Option Value)} {oc__law_some kV__law_some dc__law_some pm__law_some cd__law_some ct__law_some : Value}
    {f__law_worlds : Addr} {od__law_worlds an__law_worlds : Option Addr} {sl__law_worlds : Array (Option Value)} {oc__law_worlds kV__law_worlds dc__law_worlds pm__law_worlds cd__law_worlds ct__law_worlds : Value}
    {f__law_copy : Addr} {od__law_copy an__law_copy : Option Addr} {sl__law_copy : Array (Option Value)} {oc__law_copy kV__law_copy dc__law_copy pm__law_copy cd__law_copy ct__law_copy : Value}
    {f_word_end : Addr} {od_word_end an_word_end : Option Addr} {sl_word_end : Array (Option Value)} {oc_word_end kV_word_end dc_word_end pm_word_end cd_word_end ct_word_end : Value}
    {f_is_word : Addr} {od_is_word an_is_word : Option Addr} {sl_is_word : Array (Option Value)} {oc_is_word kV_is_word dc_is_word pm_is_word cd_is_word ct_is_word : Value}
    {f_are_letters : Addr} {od_are_letters an_are_letters : Option Addr} {sl_are_letters : Array (Option Value)} {oc_are_letters kV_are_letters dc_are_letters pm_are_letters cd_are_letters ct_are_letters : Value}
    {f_is_good : Addr} {od_is_good an_is_good : Option Addr} {sl_is_good : Array (Option Value)} {oc_is_good kV_is_good dc_is_good pm_is_good cd_is_good ct_is_good : Value}
    {f_NoWorlds___init__ : Addr} {od_NoWorlds___init__ an_NoWorlds___init__ : Option Addr} {sl_NoWorlds___init__ : Array (Option Value)} {kV_NoWorlds___init__ dc_NoWorlds___init__ pm_NoWorlds___init__ cd_NoWorlds___init__ ct_NoWorlds___init__ : Value}
    {f_look : Addr} {od_look an_look : Option Addr} {sl_look : Array (Option Value)} {oc_look kV_look dc_look pm_look cd_look ct_look : Value}
    {f__law_bad_before : Addr} {od__law_bad_before an__law_bad_before : Option Addr} {sl__law_bad_before : Array (Option Value)} {oc__law_bad_before kV__law_bad_before dc__law_bad_before pm__law_bad_before cd__law_bad_before ct__law_bad_before : Value}
    {f__law_bad_word : Addr} {od__law_bad_word an__law_bad_word : Option Addr} {sl__law_bad_word : Array (Option Value)} {oc__law_bad_word kV__law_bad_word dc__law_bad_word pm__law_bad_word cd__law_bad_word ct__law_bad_word : Value}
    {f__law_bad_words : Addr} {od__law_bad_words an__law_bad_words : Option Addr} {sl__law_bad_words : Array (Option Value)} {oc__law_bad_words kV__law_bad_words dc__law_bad_words pm__law_bad_words cd__law_bad_words ct__law_bad_words : Value}
    {f__law_spoiled : Addr} {od__law_spoiled an__law_spoiled : Option Addr} {sl__law_spoiled : Array (Option Value)} {oc__law_spoiled kV__law_spoiled dc__law_spoiled pm__law_spoiled cd__law_spoiled ct__law_spoiled : Value}
    {f__law_asked : Addr} {od__law_asked an__law_asked : Option Addr} {sl__law_asked : Array (Option Value)} {oc__law_asked kV__law_asked dc__law_asked pm__law_asked cd__law_asked ct__law_asked : Value}
    {f_law : Addr} {od_law an_law : Option Addr} {sl_law : Array (Option Value)} {oc_law kV_law dc_law pm_law cd_law ct_law : Value}
    {tk_LONGEST_WORD : Tok}
    {aKenError : Addr}
    {aNoWorlds : Addr}
    {aLarge : Addr}
    {aNoKind : Addr}
    {aNoLine : Addr}
    {aNoRow : Addr}
    {aNoRule : Addr}
    {aNotShown : Addr}
    {aNoText : Addr}
    {aNoTurning : Addr}
    {aNoWish : Addr}
    {aTwice : Addr}
    {bN : Addr} {bnm bq : Str} {bbs bbm : List Value} {bhd : Bool} {bsn : List Str} {bsub : List Value} {bab : Bool} {bcol : Option Bool} {bdd b1 c1 : Option Addr} {bk0 bk1 bk2 bk3 bk5 : Option Value} {bes ces : Array DictEntry} {bep cep : Nat} {bsl csl : Array (Option Value)}
    {cN : Addr} {cnm cq : Str} {cbs : List Value} {chd : Bool} {csn : List Str} {csub : List Value} {cab : Bool} {ccol : Option Bool} {cdd : Option Addr} {ck0 ck1 ck2 ck3 ck5 : Option Value}
    (a__law_mix : PySem.W.nsIn K mainGlobals "_law_mix" = some (some (.ref f__law_mix))) (l__law_mix : K.lookup f__law_mix = some ⟨oc__law_mix, od__law_mix, .func (PySem.W.fnOf "_law_mix" "_law_mix" (defArgs s__law_mix) (defBody s__law_mix) (defScope s__law_mix) .none kV__law_mix dc__law_mix pm__law_mix an__law_mix cd__law_mix ct__law_mix), sl__law_mix⟩) (c__law_mix : PySem.W.codeIn K cd__law_mix "_law_mix" = true) (k__law_mix : PySem.W.keepIn K (.ref f__law_mix) = true)
    (a__law_cell : PySem.W.nsIn K mainGlobals "_law_cell" = some (some (.ref f__law_cell))) (l__law_cell : K.lookup f__law_cell = some ⟨oc__law_cell, od__law_cell, .func (PySem.W.fnOf "_law_cell" "_law_cell" (defArgs s__law_cell) (defBody s__law_cell) (defScope s__law_cell) .none kV__law_cell dc__law_cell pm__law_cell an__law_cell cd__law_cell ct__law_cell), sl__law_cell⟩) (c__law_cell : PySem.W.codeIn K cd__law_cell "_law_cell" = true) (k__law_cell : PySem.W.keepIn K (.ref f__law_cell) = true)
    (a__law_words : PySem.W.nsIn K mainGlobals "_law_words" = some (some (.ref f__law_words))) (l__law_words : K.lookup f__law_words = some ⟨oc__law_words, od__law_words, .func (PySem.W.fnOf "_law_words" "_law_words" (defArgs s__law_words) (defBody s__law_words) (defScope s__law_words) .none kV__law_words dc__law_words pm__law_words an__law_words cd__law_words ct__law_words), sl__law_words⟩) (c__law_words : PySem.W.codeIn K cd__law_words "_law_words" = true) (k__law_words : PySem.W.keepIn K (.ref f__law_words) = true)
    (a__law_some : PySem.W.nsIn K mainGlobals "_law_some" = some (some (.ref f__law_some))) (l__law_some : K.lookup f__law_some = some ⟨oc__law_some, od__law_some, .func (PySem.W.fnOf "_law_some" "_law_some" (defArgs s__law_some) (defBody s__law_some) (defScope s__law_some) .none kV__law_some dc__law_some pm__law_some an__law_some cd__law_some ct__law_some), sl__law_some⟩) (c__law_some : PySem.W.codeIn K cd__law_some "_law_some" = true) (k__law_some : PySem.W.keepIn K (.ref f__law_some) = true)
    (a__law_worlds : PySem.W.nsIn K mainGlobals "_law_worlds" = some (some (.ref f__law_worlds))) (l__law_worlds : K.lookup f__law_worlds = some ⟨oc__law_worlds, od__law_worlds, .func (PySem.W.fnOf "_law_worlds" "_law_worlds" (defArgs s__law_worlds) (defBody s__law_worlds) (defScope s__law_worlds) .none kV__law_worlds dc__law_worlds pm__law_worlds an__law_worlds cd__law_worlds ct__law_worlds), sl__law_worlds⟩) (c__law_worlds : PySem.W.codeIn K cd__law_worlds "_law_worlds" = true) (k__law_worlds : PySem.W.keepIn K (.ref f__law_worlds) = true)
    (a__law_copy : PySem.W.nsIn K mainGlobals "_law_copy" = some (some (.ref f__law_copy))) (l__law_copy : K.lookup f__law_copy = some ⟨oc__law_copy, od__law_copy, .func (PySem.W.fnOf "_law_copy" "_law_copy" (defArgs s__law_copy) (defBody s__law_copy) (defScope s__law_copy) .none kV__law_copy dc__law_copy pm__law_copy an__law_copy cd__law_copy ct__law_copy), sl__law_copy⟩) (c__law_copy : PySem.W.codeIn K cd__law_copy "_law_copy" = true) (k__law_copy : PySem.W.keepIn K (.ref f__law_copy) = true)
    (a_word_end : PySem.W.nsIn K mainGlobals "word_end" = some (some (.ref f_word_end))) (l_word_end : K.lookup f_word_end = some ⟨oc_word_end, od_word_end, .func (PySem.W.fnOf "word_end" "word_end" (defArgs s_word_end) (defBody s_word_end) (defScope s_word_end) .none kV_word_end dc_word_end pm_word_end an_word_end cd_word_end ct_word_end), sl_word_end⟩) (c_word_end : PySem.W.codeIn K cd_word_end "word_end" = true) (k_word_end : PySem.W.keepIn K (.ref f_word_end) = true)
    (a_is_word : PySem.W.nsIn K mainGlobals "is_word" = some (some (.ref f_is_word))) (l_is_word : K.lookup f_is_word = some ⟨oc_is_word, od_is_word, .func (PySem.W.fnOf "is_word" "is_word" (defArgs s_is_word) (defBody s_is_word) (defScope s_is_word) .none kV_is_word dc_is_word pm_is_word an_is_word cd_is_word ct_is_word), sl_is_word⟩) (c_is_word : PySem.W.codeIn K cd_is_word "is_word" = true) (k_is_word : PySem.W.keepIn K (.ref f_is_word) = true)
    (a_are_letters : PySem.W.nsIn K mainGlobals "are_letters" = some (some (.ref f_are_letters))) (l_are_letters : K.lookup f_are_letters = some ⟨oc_are_letters, od_are_letters, .func (PySem.W.fnOf "are_letters" "are_letters" (defArgs s_are_letters) (defBody s_are_letters) (defScope s_are_letters) .none kV_are_letters dc_are_letters pm_are_letters an_are_letters cd_are_letters ct_are_letters), sl_are_letters⟩) (c_are_letters : PySem.W.codeIn K cd_are_letters "are_letters" = true) (k_are_letters : PySem.W.keepIn K (.ref f_are_letters) = true)
    (a_is_good : PySem.W.nsIn K mainGlobals "is_good" = some (some (.ref f_is_good))) (l_is_good : K.lookup f_is_good = some ⟨oc_is_good, od_is_good, .func (PySem.W.fnOf "is_good" "is_good" (defArgs s_is_good) (defBody s_is_good) (defScope s_is_good) .none kV_is_good dc_is_good pm_is_good an_is_good cd_is_good ct_is_good), sl_is_good⟩) (c_is_good : PySem.W.codeIn K cd_is_good "is_good" = true) (k_is_good : PySem.W.keepIn K (.ref f_is_good) = true)
    (l_NoWorlds___init__ : K.lookup f_NoWorlds___init__ = some ⟨.type "function", od_NoWorlds___init__, .func (PySem.W.fnOf "__init__" "NoWorlds.__init__" (defArgs s_NoWorlds___init__) (defBody s_NoWorlds___init__) (defScope s_NoWorlds___init__) .none kV_NoWorlds___init__ dc_NoWorlds___init__ pm_NoWorlds___init__ an_NoWorlds___init__ cd_NoWorlds___init__ ct_NoWorlds___init__), sl_NoWorlds___init__⟩) (c_NoWorlds___init__ : PySem.W.codeIn K cd_NoWorlds___init__ "NoWorlds.__init__" = true) (k_NoWorlds___init__ : PySem.W.keepIn K (.ref f_NoWorlds___init__) = true)
    (a_look : PySem.W.nsIn K mainGlobals "look" = some (some (.ref f_look))) (l_look : K.lookup f_look = some ⟨oc_look, od_look, .func (PySem.W.fnOf "look" "look" (defArgs s_look) (defBody s_look) (defScope s_look) .none kV_look dc_look pm_look an_look cd_look ct_look), sl_look⟩) (c_look : PySem.W.codeIn K cd_look "look" = true) (k_look : PySem.W.keepIn K (.ref f_look) = true)
    (a__law_bad_before : PySem.W.nsIn K mainGlobals "_law_bad_before" = some (some (.ref f__law_bad_before))) (l__law_bad_before : K.lookup f__law_bad_before = some ⟨oc__law_bad_before, od__law_bad_before, .func (PySem.W.fnOf "_law_bad_before" "_law_bad_before" (defArgs s__law_bad_before) (defBody s__law_bad_before) (defScope s__law_bad_before) .none kV__law_bad_before dc__law_bad_before pm__law_bad_before an__law_bad_before cd__law_bad_before ct__law_bad_before), sl__law_bad_before⟩) (c__law_bad_before : PySem.W.codeIn K cd__law_bad_before "_law_bad_before" = true) (k__law_bad_before : PySem.W.keepIn K (.ref f__law_bad_before) = true)
    (a__law_bad_word : PySem.W.nsIn K mainGlobals "_law_bad_word" = some (some (.ref f__law_bad_word))) (l__law_bad_word : K.lookup f__law_bad_word = some ⟨oc__law_bad_word, od__law_bad_word, .func (PySem.W.fnOf "_law_bad_word" "_law_bad_word" (defArgs s__law_bad_word) (defBody s__law_bad_word) (defScope s__law_bad_word) .none kV__law_bad_word dc__law_bad_word pm__law_bad_word an__law_bad_word cd__law_bad_word ct__law_bad_word), sl__law_bad_word⟩) (c__law_bad_word : PySem.W.codeIn K cd__law_bad_word "_law_bad_word" = true) (k__law_bad_word : PySem.W.keepIn K (.ref f__law_bad_word) = true)
    (a__law_bad_words : PySem.W.nsIn K mainGlobals "_law_bad_words" = some (some (.ref f__law_bad_words))) (l__law_bad_words : K.lookup f__law_bad_words = some ⟨oc__law_bad_words, od__law_bad_words, .func (PySem.W.fnOf "_law_bad_words" "_law_bad_words" (defArgs s__law_bad_words) (defBody s__law_bad_words) (defScope s__law_bad_words) .none kV__law_bad_words dc__law_bad_words pm__law_bad_words an__law_bad_words cd__law_bad_words ct__law_bad_words), sl__law_bad_words⟩) (c__law_bad_words : PySem.W.codeIn K cd__law_bad_words "_law_bad_words" = true) (k__law_bad_words : PySem.W.keepIn K (.ref f__law_bad_words) = true)
    (a__law_spoiled : PySem.W.nsIn K mainGlobals "_law_spoiled" = some (some (.ref f__law_spoiled))) (l__law_spoiled : K.lookup f__law_spoiled = some ⟨oc__law_spoiled, od__law_spoiled, .func (PySem.W.fnOf "_law_spoiled" "_law_spoiled" (defArgs s__law_spoiled) (defBody s__law_spoiled) (defScope s__law_spoiled) .none kV__law_spoiled dc__law_spoiled pm__law_spoiled an__law_spoiled cd__law_spoiled ct__law_spoiled), sl__law_spoiled⟩) (c__law_spoiled : PySem.W.codeIn K cd__law_spoiled "_law_spoiled" = true) (k__law_spoiled : PySem.W.keepIn K (.ref f__law_spoiled) = true)
    (a__law_asked : PySem.W.nsIn K mainGlobals "_law_asked" = some (some (.ref f__law_asked))) (l__law_asked : K.lookup f__law_asked = some ⟨oc__law_asked, od__law_asked, .func (PySem.W.fnOf "_law_asked" "_law_asked" (defArgs s__law_asked) (defBody s__law_asked) (defScope s__law_asked) .none kV__law_asked dc__law_asked pm__law_asked an__law_asked cd__law_asked ct__law_asked), sl__law_asked⟩) (c__law_asked : PySem.W.codeIn K cd__law_asked "_law_asked" = true) (k__law_asked : PySem.W.keepIn K (.ref f__law_asked) = true)
    (a_law : PySem.W.nsIn K mainGlobals "law" = some (some (.ref f_law))) (l_law : K.lookup f_law = some ⟨oc_law, od_law, .func (PySem.W.fnOf "law" "law" (defArgs s_law) (defBody s_law) (defScope s_law) .none kV_law dc_law pm_law an_law cd_law ct_law), sl_law⟩) (c_law : PySem.W.codeIn K cd_law "law" = true) (k_law : PySem.W.keepIn K (.ref f_law) = true)
    (g_LONGEST_WORD : PySem.W.nsIn K mainGlobals "LONGEST_WORD" = some (some (.int 8 tk_LONGEST_WORD)))
    (z_len : PySem.W.nsIn K mainGlobals "len" = some none)
    (z_range : PySem.W.nsIn K mainGlobals "range" = some none)
    (z_list : PySem.W.nsIn K mainGlobals "list" = some none)
    (z_enumerate : PySem.W.nsIn K mainGlobals "enumerate" = some none)
    (z_sorted : PySem.W.nsIn K mainGlobals "sorted" = some none)
    (z_max : PySem.W.nsIn K mainGlobals "max" = some none)
    (z_all : PySem.W.nsIn K mainGlobals "all" = some none)
    (z_set : PySem.W.nsIn K mainGlobals "set" = some none)
    (z_reversed : PySem.W.nsIn K mainGlobals "reversed" = some none)
    (z_isinstance : PySem.W.nsIn K mainGlobals "isinstance" = some none)
    (z_bool : PySem.W.nsIn K mainGlobals "bool" = some none)
    (z_ValueError : PySem.W.nsIn K mainGlobals "ValueError" = some none)
    (z_min : PySem.W.nsIn K mainGlobals "min" = some none)
    (g_KenError : PySem.W.nsIn K mainGlobals "KenError" = some (some (.ref aKenError)))
    (g_NoWorlds : PySem.W.nsIn K mainGlobals "NoWorlds" = some (some (.ref aNoWorlds)))
    (g_Large : PySem.W.nsIn K mainGlobals "Large" = some (some (.ref aLarge)))
    (g_NoKind : PySem.W.nsIn K mainGlobals "NoKind" = some (some (.ref aNoKind)))
    (g_NoLine : PySem.W.nsIn K mainGlobals "NoLine" = some (some (.ref aNoLine)))
    (g_NoRow : PySem.W.nsIn K mainGlobals "NoRow" = some (some (.ref aNoRow)))
    (g_NoRule : PySem.W.nsIn K mainGlobals "NoRule" = some (some (.ref aNoRule)))
    (g_NotShown : PySem.W.nsIn K mainGlobals "NotShown" = some (some (.ref aNotShown)))
    (g_NoText : PySem.W.nsIn K mainGlobals "NoText" = some (some (.ref aNoText)))
    (g_NoTurning : PySem.W.nsIn K mainGlobals "NoTurning" = some (some (.ref aNoTurning)))
    (g_NoWish : PySem.W.nsIn K mainGlobals "NoWish" = some (some (.ref aNoWish)))
    (g_Twice : PySem.W.nsIn K mainGlobals "Twice" = some (some (.ref aTwice)))
    (kx_l : K.lookup aNoWorlds = some (PySem.excClassObj cnm cq aNoWorlds cN cbs (.ref aKenError :: bmV) chd csn csub cab ccol cdd ck0 ck1 ck2 ck3 ck5 "ValueError.__new__"))
    (kx_bl : K.lookup aKenError = some (PySem.excClassObj bnm bq aKenError bN bbs bbm bhd bsn bsub bab bcol bdd bk0 bk1 bk2 bk3 bk5 "ValueError.__new__"))
    (kx_bn : K.lookup bN = some ⟨.type "dict", b1, .dict bes bep, bsl⟩)
    (kx_be : (bes.toList.all fun e => match e.key with | .str _ _ => true | _ => false) = true)
    (kx_bi : PySem.W.nsIn K bN "__init__" = some none)
    (kx_cn : K.lookup cN = some ⟨.type "dict", c1, .dict ces cep, csl⟩)
    (kx_ce : (ces.toList.all fun e => match e.key with | .str _ _ => true | _ => false) = true)
    (kx_i : PySem.W.nsIn K cN "__init__" = some (some (.ref f_NoWorlds___init__)))
    (kx_ga : PySem.W.findIn K (.ref aNoWorlds) "__getattribute__" = some (some (.builtin "BaseException.__getattribute__")))
    (kx_gt : PySem.W.findIn K (.ref aNoWorlds) "__getattr__" = some none)
    (kx_mb : PySem.W.mroIn K aNoWorlds (.type "BaseException") = some true)
    (kx_ca : PySem.W.findIn K (.ref aNoWorlds) "__class__" = some (some (.builtin "object.__class__")))
    (kx_mo : PySem.W.mroIn K aNoWorlds (.type "object") = some true)
    (kx_sa : PySem.W.findIn K (.ref aNoWorlds) "__setattr__" = some (some (.builtin "object.__setattr__")))
    (kx_na : PySem.W.findIn K (.ref aNoWorlds) "world" = some none)
    (kx_hd : PySem.W.hasDictIn K aNoWorlds = true)
    (kx_ia : PySem.W.specialIn K (.ref aKenError) "__getattribute__" = some (some (.builtin "type.__getattribute__")))
    (kx_ir : PySem.W.readsIn K aKenError (.type "type") = true)
    (kx_if : PySem.W.findCls K (.ref aKenError) (.type "type") "__init__" = some (.val (.builtin "ValueError.__init__")))
    (i_1 : PySem.W.kitOne K (.ref aNoWorlds) (.ref aKenError) = some true)
    (i_2 : PySem.W.kitOne K (.ref aNoWorlds) (.type "ValueError") = some true)
    (i_3 : PySem.W.kitAny K (.ref aNoWorlds) [.ref aLarge, .ref aNoKind, .ref aNoLine, .ref aNoRow, .ref aNoRule, .ref aNotShown] = some false)
    (i_4 : PySem.W.kitAny K (.ref aNoWorlds) [.ref aNoText, .ref aNoTurning, .ref aNoWish, .ref aTwice] = some false) :
    ∃ fd : FuncData, (∀ (s : Shared) (v : Value), BindsTo s fd ⟨[v], []⟩ [("_law_script", v)]) ∧ ∀ base : Heap, K.In base → base.Ns mainGlobals mg → FnOk l.prog w K mg base CX0 7 fa fd ["_law_script"] (sp_law K) := by
  have e := hfa.symm.trans (PySem.W.mg_of X G a_law)
  cases e
  have m__law_mix := PySem.W.mg_of X G a__law_mix
  have b__law_mix := (fun_mk (st := s__law_mix) l__law_mix c__law_mix k__law_mix).binds (ps := ["_law_cell_here", "_law_k"]) fun _ _ _ _ _ _ us hl => match us, hl with | [_, _], _ => rfl
  have F__law_mix := fun_mk (st := s__law_mix) l__law_mix c__law_mix k__law_mix
  have m__law_cell := PySem.W.mg_of X G a__law_cell
  have b__law_cell := (fun_mk (st := s__law_cell) l__law_cell c__law_cell k__law_cell).binds (ps := ["_law_script", "_law_k"]) fun _ _ _ _ _ _ us hl => match us, hl with | [_, _], _ => rfl
  have F__law_cell := fun_mk (st := s__law_cell) l__law_cell c__law_cell k__law_cell
  have m__law_words := PySem.W.mg_of X G a__law_words
  have b__law_words := (fun_mk (st := s__law_words) l__law_words c__law_words k__law_words).binds (ps := ["_law_cell_here", "_law_many"]) fun _ _ _ _ _ _ us hl => match us, hl with | [_, _], _ => rfl
  have F__law_words := fun_mk (st := s__law_words) l__law_words c__law_words k__law_words
  have m__law_some := PySem.W.mg_of X G a__law_some
  have b__law_some := (fun_mk (st := s__law_some) l__law_some c__law_some k__law_some).binds (ps := ["_law_cell_here", "_law_old", "_law_words_here"]) fun _ _ _ _ _ _ us hl => match us, hl with | [_, _, _], _ => rfl
  have F__law_some := fun_mk (st := s__law_some) l__law_some c__law_some k__law_some
  have m__law_worlds := PySem.W.mg_of X G a__law_worlds
  have b__law_worlds := (fun_mk (st := s__law_worlds) l__law_worlds c__law_worlds k__law_worlds).binds (ps := ["_law_script", "_law_start", "_law_most", "_law_words_here"]) fun _ _ _ _ _ _ us hl => match us, hl with | [_, _, _, _], _ => rfl
  have F__law_worlds := fun_mk (st := s__law_worlds) l__law_worlds c__law_worlds k__law_worlds
  have m__law_copy := PySem.W.mg_of X G a__law_copy
  have b__law_copy := (fun_mk (st := s__law_copy) l__law_copy c__law_copy k__law_copy).binds (ps := ["_law_worlds_here"]) fun _ _ _ _ _ _ us hl => match us, hl with | [_], _ => rfl
  have F__law_copy := fun_mk (st := s__law_copy) l__law_copy c__law_copy k__law_copy
  have m_word_end := PySem.W.mg_of X G a_word_end
  have b_word_end := (fun_mk (st := s_word_end) l_word_end c_word_end k_word_end).binds (ps := ["text", "at"]) fun _ _ _ _ _ _ us hl => match us, hl with | [_, _], _ => rfl
  have F_word_end := fun_mk (st := s_word_end) l_word_end c_word_end k_word_end
  have m_is_word := PySem.W.mg_of X G a_is_word
  have b_is_word := (fun_mk (st := s_is_word) l_is_word c_is_word k_is_word).binds (ps := ["text"]) fun _ _ _ _ _ _ us hl => match us, hl with | [_], _ => rfl
  have F_is_word := fun_mk (st := s_is_word) l_is_word c_is_word k_is_word
  have m_are_letters := PySem.W.mg_of X G a_are_letters
  have b_are_letters := (fun_mk (st := s_are_letters) l_are_letters c_are_letters k_are_letters).binds (ps := ["words"]) fun _ _ _ _ _ _ us hl => match us, hl with | [_], _ => rfl
  have F_are_letters := fun_mk (st := s_are_letters) l_are_letters c_are_letters k_are_letters
  have m_is_good := PySem.W.mg_of X G a_is_good
  have b_is_good := (fun_mk (st := s_is_good) l_is_good c_is_good k_is_good).binds (ps := ["worlds", "number"]) fun _ _ _ _ _ _ us hl => match us, hl with | [_, _], _ => rfl
  have F_is_good := fun_mk (st := s_is_good) l_is_good c_is_good k_is_good
  have b_NoWorlds___init__ := (fun_mk (st := s_NoWorlds___init__) l_NoWorlds___init__ c_NoWorlds___init__ k_NoWorlds___init__).binds (ps := ["self", "world"]) fun _ _ _ _ _ _ us hl => match us, hl with | [_, _], _ => rfl
  have F_NoWorlds___init__ := fun_mk (st := s_NoWorlds___init__) l_NoWorlds___init__ c_NoWorlds___init__ k_NoWorlds___init__
  have m_look := PySem.W.mg_of X G a_look
  have b_look := (fun_mk (st := s_look) l_look c_look k_look).binds (ps := ["worlds"]) fun _ _ _ _ _ _ us hl => match us, hl with | [_], _ => rfl
  have F_look := fun_mk (st := s_look) l_look c_look k_look
  have m__law_bad_before := PySem.W.mg_of X G a__law_bad_before
  have b__law_bad_before := (fun_mk (st := s__law_bad_before) l__law_bad_before c__law_bad_before k__law_bad_before).binds (ps := ["_law_world", "_law_cell_here"]) fun _ _ _ _ _ _ us hl => match us, hl with | [_, _], _ => rfl
  have F__law_bad_before := fun_mk (st := s__law_bad_before) l__law_bad_before c__law_bad_before k__law_bad_before
  have m__law_bad_word := PySem.W.mg_of X G a__law_bad_word
  have b__law_bad_word := (fun_mk (st := s__law_bad_word) l__law_bad_word c__law_bad_word k__law_bad_word).binds (ps := ["_law_cell_here"]) fun _ _ _ _ _ _ us hl => match us, hl with | [_], _ => rfl
  have F__law_bad_word := fun_mk (st := s__law_bad_word) l__law_bad_word c__law_bad_word k__law_bad_word
  have m__law_bad_words := PySem.W.mg_of X G a__law_bad_words
  have b__law_bad_words := (fun_mk (st := s__law_bad_words) l__law_bad_words c__law_bad_words k__law_bad_words).binds (ps := ["_law_words_here", "_law_old", "_law_cell_here"]) fun _ _ _ _ _ _ us hl => match us, hl with | [_, _, _], _ => rfl
  have F__law_bad_words := fun_mk (st := s__law_bad_words) l__law_bad_words c__law_bad_words k__law_bad_words
  have m__law_spoiled := PySem.W.mg_of X G a__law_spoiled
  have b__law_spoiled := (fun_mk (st := s__law_spoiled) l__law_spoiled c__law_spoiled k__law_spoiled).binds (ps := ["_law_worlds_here", "_law_world", "_law_cell_here"]) fun _ _ _ _ _ _ us hl => match us, hl with | [_, _, _], _ => rfl
  have F__law_spoiled := fun_mk (st := s__law_spoiled) l__law_spoiled c__law_spoiled k__law_spoiled
  have m__law_asked := PySem.W.mg_of X G a__law_asked
  have b__law_asked := (fun_mk (st := s__law_asked) l__law_asked c__law_asked k__law_asked).binds (ps := ["_law_worlds_here"]) fun _ _ _ _ _ _ us hl => match us, hl with | [_], _ => rfl
  have F__law_asked := fun_mk (st := s__law_asked) l__law_asked c__law_asked k__law_asked
  have F_law := fun_mk (st := s_law) l_law c_law k_law
  have m_LONGEST_WORD := PySem.W.mg_of X G g_LONGEST_WORD
  have m_len := PySem.W.mg_none_of X G z_len
  have m_range := PySem.W.mg_none_of X G z_range
  have m_list := PySem.W.mg_none_of X G z_list
  have m_enumerate := PySem.W.mg_none_of X G z_enumerate
  have m_sorted := PySem.W.mg_none_of X G z_sorted
  have m_max := PySem.W.mg_none_of X G z_max
  have m_all := PySem.W.mg_none_of X G z_all
  have m_set := PySem.W.mg_none_of X G z_set
  have m_reversed := PySem.W.mg_none_of X G z_reversed
  have m_isinstance := PySem.W.mg_none_of X G z_isinstance
  have m_bool := PySem.W.mg_none_of X G z_bool
  have m_ValueError := PySem.W.mg_none_of X G z_ValueError
  have m_min := PySem.W.mg_none_of X G z_min
  have m_KenError := PySem.W.mg_of X G g_KenError
  have m_NoWorlds := PySem.W.mg_of X G g_NoWorlds
  have m_Large := PySem.W.mg_of X G g_Large
  have m_NoKind := PySem.W.mg_of X G g_NoKind
  have m_NoLine := PySem.W.mg_of X G g_NoLine
  have m_NoRow := PySem.W.mg_of X G g_NoRow
  have m_NoRule := PySem.W.mg_of X G g_NoRule
  have m_NotShown := PySem.W.mg_of X G g_NotShown
  have m_NoText := PySem.W.mg_of X G g_NoText
  have m_NoTurning := PySem.W.mg_of X G g_NoTurning
  have m_NoWish := PySem.W.mg_of X G g_NoWish
  have m_Twice := PySem.W.mg_of X G g_Twice
  have x_NoWorlds : XClsI K aNoWorlds f_NoWorlds___init__ := xclsI_mk kx_l (tail_own kx_bl (nsOk_mk kx_bn kx_be) kx_bi) (nsOk_mk kx_cn kx_ce) kx_i l_NoWorlds___init__ rfl
  have xc_NoWorlds := x_NoWorlds.xc
  have z_NoWorlds : XIsi K aNoWorlds := ⟨⟨kx_ga, kx_gt, kx_mb⟩, cls_some kx_hd, kx_ca, kx_mo⟩
  have xs_NoWorlds : XSet K aNoWorlds "world" := ⟨kx_sa, kx_na, kx_hd, kx_mo⟩
  have xi_KenError : XIni K aKenError := ⟨kx_ia, kx_ir, kx_if⟩
  have w_NoWorlds := kx_na
  have d_NoWorlds := kx_hd
  refine ⟨PySem.W.fnOf "law" "law" (defArgs s_law) (defBody s_law) (defScope s_law) .none kV_law dc_law pm_law an_law cd_law ct_law, fun s v => .of_eq rfl, fun base _ _ => ?_⟩
  have G__law_mix := ok__law_mix (P := l.prog) (w := w) (K := K) (mg := mg) (base := base) (k := 0) F__law_mix
  have G__law_cell := ok__law_cell (P := l.prog) (w := w) (K := K) (mg := mg) (base := base) (k := 1) F__law_cell (G__law_mix.mono (by decide)) m__law_mix k__law_mix b__law_mix m_len
  have G__law_words := ok__law_words (P := l.prog) (w := w) (K := K) (mg := mg) (base := base) (k := 0) F__law_words m_range
  have G__law_some := ok__law_some (P := l.prog) (w := w) (K := K) (mg := mg) (base := base) (k := 1) F__law_some (G__law_mix.mono (by decide)) m__law_mix k__law_mix b__law_mix m_list m_enumerate m_sorted
  have G__law_worlds := ok__law_worlds (P := l.prog) (w := w) (K := K) (mg := mg) (base := base) (k := 2) F__law_worlds (G__law_mix.mono (by decide)) m__law_mix k__law_mix b__law_mix (G__law_some.mono (by decide)) m__law_some k__law_some b__law_some (G__law_cell.mono (by decide)) m__law_cell k__law_cell b__law_cell m_range m_max m_len
  have G__law_copy := ok__law_copy (P := l.prog) (w := w) (K := K) (mg := mg) (base := base) (k := 0) F__law_copy m_list
  have G_word_end := ok_word_end (P := l.prog) (w := w) (K := K) (mg := mg) (base := base) (k := 0) F_word_end m_LONGEST_WORD
  have G_is_word := ok_is_word (P := l.prog) (w := w) (K := K) (mg := mg) (base := base) (k := 1) F_is_word (G_word_end.mono (by decide)) m_word_end k_word_end b_word_end m_len
  have G_are_letters := ok_are_letters (P := l.prog) (w := w) (K := K) (mg := mg) (base := base) (k := 2) F_are_letters (G_is_word.mono (by decide)) m_is_word k_is_word b_is_word m_all m_sorted m_set
  have G_is_good := ok_is_good (P := l.prog) (w := w) (K := K) (mg := mg) (base := base) (k := 3) F_is_good (G_are_letters.mono (by decide)) m_are_letters k_are_letters b_are_letters m_len m_set
  have G_NoWorlds___init__ := ok_NoWorlds___init__ (P := l.prog) (w := w) (K := K) (mg := mg) (base := base) (k := 0) F_NoWorlds___init__ m_KenError xi_KenError xc_NoWorlds xs_NoWorlds
  have G_look := ok_look (P := l.prog) (w := w) (K := K) (mg := mg) (base := base) (k := 3) F_look (G_is_good.mono (by decide)) m_is_good k_is_good b_is_good m_NoWorlds (G_NoWorlds___init__.mono (by decide)) b_NoWorlds___init__ x_NoWorlds m_range m_len
  have G__law_bad_before := ok__law_bad_before (P := l.prog) (w := w) (K := K) (mg := mg) (base := base) (k := 0) F__law_bad_before
  have G__law_bad_word := ok__law_bad_word (P := l.prog) (w := w) (K := K) (mg := mg) (base := base) (k := 0) F__law_bad_word
  have G__law_bad_words := ok__law_bad_words (P := l.prog) (w := w) (K := K) (mg := mg) (base := base) (k := 1) F__law_bad_words (G__law_bad_word.mono (by decide)) m__law_bad_word k__law_bad_word b__law_bad_word m_list m_len m_reversed
  have G__law_spoiled := ok__law_spoiled (P := l.prog) (w := w) (K := K) (mg := mg) (base := base) (k := 2) F__law_spoiled (G__law_bad_before.mono (by decide)) m__law_bad_before k__law_bad_before b__law_bad_before (G__law_mix.mono (by decide)) m__law_mix k__law_mix b__law_mix (G__law_bad_words.mono (by decide)) m__law_bad_words k__law_bad_words b__law_bad_words
  have G__law_asked := ok__law_asked (P := l.prog) (w := w) (K := K) (mg := mg) (base := base) (k := 5) F__law_asked (G__law_copy.mono (by decide)) m__law_copy k__law_copy b__law_copy (G_look.mono (by decide)) m_look k_look b_look m_NoWorlds xc_NoWorlds z_NoWorlds w_NoWorlds d_NoWorlds m_KenError m_Large m_NoKind m_NoLine m_NoRow m_NoText m_NoTurning m_NoWish m_NoRule m_NotShown m_Twice i_1 i_2 i_3 i_4 m_isinstance m_bool m_ValueError
  have G_law := ok_law (P := l.prog) (w := w) (K := K) (mg := mg) (base := base) (k := 6) F_law (G__law_words.mono (by decide)) m__law_words k__law_words b__law_words (G__law_worlds.mono (by decide)) m__law_worlds k__law_worlds b__law_worlds (G__law_cell.mono (by decide)) m__law_cell k__law_cell b__law_cell (G__law_asked.mono (by decide)) m__law_asked k__law_asked b__law_asked (G__law_mix.mono (by decide)) m__law_mix k__law_mix b__law_mix (G__law_spoiled.mono (by decide)) m__law_spoiled k__law_spoiled b__law_spoiled m_range m_len m_min
  exact G_law
theorem walk {l : PySem.W.OpenLaw} {q : Program} {loose : List Str} {XP : (Str → Option Value) → Heap → Prop} {YP : World → Heap → Prop} {d : DefRec} {K : Params → PySem.W.Frag} (hn : l.most = some 63) (hdf : d.params.defaults = [])
    (hY : ∀ (w : World) (h : Heap), YP w h → (K w.params).In h)
    (F : ∀ (w : World) (mg : Str → Option Value) (fa : Addr) (h : Heap), (K w.params).In h → h.Ns mainGlobals mg → mg d.name = some (.ref fa) →
      ∃ fd : FuncData, (∀ (s : Shared) (u : Value), BindsTo s fd ⟨[u], []⟩ [("_law_script", u)]) ∧ ∀ base : Heap, (K w.params).In base → base.Ns mainGlobals mg → FnOk l.prog w (K w.params) mg base CX0 7 fa fd ["_law_script"] (sp_law (K w.params))) :
    PySem.W.WalkO q loose XP YP l.row.toRowW d [] (fun f vs => PySem.call f vs) :=
  L2.walk_of (n := 63) (k := 7) (x := "_law_script") (CX := fun _ => CX0) (sp := fun w => sp_law (K w.params)) hn (by decide) hdf ⟨rfl, by decide, by decide⟩ hY F (fun _ _ a ns hl _ hS => ⟨a, ns, rfl, hS, hl, fun _ => rfl⟩) fun _ _ _ _ _ z => z
end KLaw
open PySem PySem.W PyProof.Rows
set_option maxRecDepth 100000 in
set_option maxHeartbeats 0 in
theorem PySem.Challenge.cw_ken_k11_good_worlds_holds : PySem.Challenge.rw_ken_k11_good_worlds.Holds := by
  w_on; o_law; k_head; (case hw => w_witness2)
  k_fill
  refine KLaw.walk (l := PySem.Challenge.rw_ken_k11_good_worlds) rfl rfl (fun w h Y => PySem.W.kIn_of Y) ?F
  case F =>
    intro w mg fa h KX G hmg
    refine' KLaw.all_mk KX G hmg ?a__law_mix ?l__law_mix ?c__law_mix ?k__law_mix ?a__law_cell ?l__law_cell ?c__law_cell ?k__law_cell ?a__law_words ?l__law_words ?c__law_words ?k__law_words ?a__law_some ?l__law_some ?c__law_some ?k__law_some ?a__law_worlds ?l__law_worlds ?c__law_worlds ?k__law_worlds ?a__law_copy ?l__law_copy ?c__law_copy ?k__law_copy ?a_word_end ?l_word_end ?c_word_end ?k_word_end ?a_is_word ?l_is_word ?c_is_word ?k_is_word ?a_are_letters ?l_are_letters ?c_are_letters ?k_are_letters ?a_is_good ?l_is_good ?c_is_good ?k_is_good ?l_NoWorlds___init__ ?c_NoWorlds___init__ ?k_NoWorlds___init__ ?a_look ?l_look ?c_look ?k_look ?a__law_bad_before ?l__law_bad_before ?c__law_bad_before ?k__law_bad_before ?a__law_bad_word ?l__law_bad_word ?c__law_bad_word ?k__law_bad_word ?a__law_bad_words ?l__law_bad_words ?c__law_bad_words ?k__law_bad_words ?a__law_spoiled ?l__law_spoiled ?c__law_spoiled ?k__law_spoiled ?a__law_asked ?l__law_asked ?c__law_asked ?k__law_asked ?a_law ?l_law ?c_law ?k_law ?g_LONGEST_WORD ?z_len ?z_range ?z_list ?z_enumerate ?z_sorted ?z_max ?z_all ?z_set ?z_reversed ?z_isinstance ?z_bool ?z_ValueError ?z_min ?g_KenError ?g_NoWorlds ?g_Large ?g_NoKind ?g_NoLine ?g_NoRow ?g_NoRule ?g_NotShown ?g_NoText ?g_NoTurning ?g_NoWish ?g_Twice ?kx_l ?kx_bl ?kx_bn ?kx_be ?kx_bi ?kx_cn ?kx_ce ?kx_i ?kx_ga ?kx_gt ?kx_mb ?kx_ca ?kx_mo ?kx_sa ?kx_na ?kx_hd ?kx_ia ?kx_ir ?kx_if ?i_1 ?i_2 ?i_3 ?i_4
    (case a__law_mix => k_is)
    (case l__law_mix => k_is)
    (case c__law_mix => k_is)
    (case k__law_mix => k_is)
    (case a__law_cell => k_is)
    (case l__law_cell => k_is)
    (case c__law_cell => k_is)
    (case k__law_cell => k_is)
    (case a__law_words => k_is)
    (case l__law_words => k_is)
    (case c__law_words => k_is)
    (case k__law_words => k_is)
    (case a__law_some => k_is)
    (case l__law_some => k_is)
    (case c__law_some => k_is)
    (case k__law_some => k_is)
    (case a__law_worlds => k_is)
    (case l__law_worlds => k_is)
    (case c__law_worlds => k_is)
    (case k__law_worlds => k_is)
    (case a__law_copy => k_is)
    (case l__law_copy => k_is)
    (case c__law_copy => k_is)
    (case k__law_copy => k_is)
    (case a_word_end => k_is)
    (case l_word_end => k_is)
    (case c_word_end => k_is)
    (case k_word_end => k_is)
    (case a_is_word => k_is)
    (case l_is_word => k_is)
    (case c_is_word => k_is)
    (case k_is_word => k_is)
    (case a_are_letters => k_is)
    (case l_are_letters => k_is)
    (case c_are_letters => k_is)
    (case k_are_letters => k_is)
    (case a_is_good => k_is)
    (case l_is_good => k_is)
    (case c_is_good => k_is)
    (case k_is_good => k_is)
    (case a_look => k_is)
    (case l_look => k_is)
    (case c_look => k_is)
    (case k_look => k_is)
    (case a__law_bad_before => k_is)
    (case l__law_bad_before => k_is)
    (case c__law_bad_before => k_is)
    (case k__law_bad_before => k_is)
    (case a__law_bad_word => k_is)
    (case l__law_bad_word => k_is)
    (case c__law_bad_word => k_is)
    (case k__law_bad_word => k_is)
    (case a__law_bad_words => k_is)
    (case l__law_bad_words => k_is)
    (case c__law_bad_words => k_is)
    (case k__law_bad_words => k_is)
    (case a__law_spoiled => k_is)
    (case l__law_spoiled => k_is)
    (case c__law_spoiled => k_is)
    (case k__law_spoiled => k_is)
    (case a__law_asked => k_is)
    (case l__law_asked => k_is)
    (case c__law_asked => k_is)
    (case k__law_asked => k_is)
    (case a_law => k_is)
    (case l_law => k_is)
    (case c_law => k_is)
    (case k_law => k_is)
    (case g_LONGEST_WORD => k_is)
    (case z_len => k_is)
    (case z_range => k_is)
    (case z_list => k_is)
    (case z_enumerate => k_is)
    (case z_sorted => k_is)
    (case z_max => k_is)
    (case z_all => k_is)
    (case z_set => k_is)
    (case z_reversed => k_is)
    (case z_isinstance => k_is)
    (case z_bool => k_is)
    (case z_ValueError => k_is)
    (case z_min => k_is)
    (case g_KenError => k_is)
    (case g_NoWorlds => k_is)
    (case g_Large => k_is)
    (case g_NoKind => k_is)
    (case g_NoLine => k_is)
    (case g_NoRow => k_is)
    (case g_NoRule => k_is)
    (case g_NotShown => k_is)
    (case g_NoText => k_is)
    (case g_NoTurning => k_is)
    (case g_NoWish => k_is)
    (case g_Twice => k_is)
    (case kx_l => k_is)
    (case kx_bl => k_is)
    (case kx_bn => k_is)
    (case kx_be => rfl)
    (case kx_bi => k_is)
    (case kx_cn => k_is)
    (case kx_ce => rfl)
    (case kx_ga => k_is)
    (case kx_gt => k_is)
    (case kx_mb => k_is)
    (case kx_ca => k_is)
    (case kx_mo => k_is)
    (case kx_sa => k_is)
    (case kx_na => k_is)
    (case kx_hd => k_is)
    (case kx_ia => k_is)
    (case kx_ir => k_is)
    (case kx_if => k_is)
    (case i_1 => rfl)
    (case i_2 => rfl)
    (case i_3 => rfl)
    (case i_4 => rfl)
    (case kx_i => k_is)
    (case l_NoWorlds___init__ => k_is)
    (case c_NoWorlds___init__ => k_is)
    (case k_NoWorlds___init__ => k_is)
