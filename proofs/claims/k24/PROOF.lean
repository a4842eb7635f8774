import PyProof.Rows.All
import Wide.All
import OpenK.AllK
import Wide.FinOn
import Lean
import PyProof.EqAt
import PyProof.EqKinds
import PyProof.TupleCall
import PyProof.NeData
import PyProof.P3In
import PyProof.ZipIter
import PyProof.Rows.ZipGen
import KE.KRevIter
import PyProof.CollectIter
import PyProof.ListRange
import PyProof.EnumMake
import PyProof.EnumFor
import PyProof.EnumStmt
import PyProof.Rows.SortStr
import KE.KDictList
import KE.KSortTup
import KE.KSortAsk
import PyProof.SumAny
import PyProof.WalksMore
import KE.KTupSum
import PyProof.FactsAll.tuple_2
import PyProof.FactsAll.set
import PyProof.Rows.Range3
import PyProof.Rows.SetFrom
import PyProof.Rows.SeqMore2
import PyProof.InstStoreFacts
import PyProof.SeqI3
import PySem.Challenge.RW_ken_k24_lines_checked
set_option Elab.async false
set_option linter.all false
set_option maxRecDepth 100000
namespace L2
open PySem PySem.Spec PyProof.Rows
noncomputable abbrev Key:=Sum Int Str
noncomputable def keyIs:Key→Value→Bool
  | .inl k,v=>Value.isInt k v
  | .inr x,v=>Value.isStrOf x v
noncomputable def keyH (w:World):Key→Int
  | .inl k=>hashInt k
  | .inr x=>hashStr w x
theorem Ze7:∀ {k:Key} {v:Value},keyIs k v=true→(∃ i t,k=Sum.inl i∧v=Value.int i t)∨(∃ x t,k=Sum.inr x∧v=Value.str x t)
  | .inl i,v,h=>by
    obtain⟨t,e⟩:=Value.isInt_shape (k:=i) (v:=v) h
    exact .inl ⟨i,t,rfl,e⟩
  | .inr x,v,h=>by
    obtain⟨t,e⟩:=Value.isStrOf_shape (x:=x) (v:=v) h
    exact .inr ⟨x,t,rfl,e⟩
theorem keyIs_int (i:Int) (t:Tok):keyIs (.inl i) (.int i t)=true:=by simp[keyIs,Value.isInt]
theorem keyIs_str (x:Str) (t:Tok):keyIs (.inr x) (.str x t)=true:=by simp[keyIs,Value.isStrOf]
theorem key_ll (a b:Int):decide ((Sum.inl a:Key)=Sum.inl b)=(a == b):=by
  by_cases e:a=b
  · subst e;simp
  · have h:¬ (Sum.inl a:Key)=Sum.inl b:=fun q=>e (Sum.inl.inj q)
    rw[decide_eq_false h]
    exact (beq_eq_false_iff_ne.mpr e).symm
theorem key_rr (a b:Str):decide ((Sum.inr a:Key)=Sum.inr b)=decide (a=b):=by
  by_cases e:a=b
  · subst e;simp
  · have h:¬ (Sum.inr a:Key)=Sum.inr b:=fun q=>e (Sum.inr.inj q)
    rw[decide_eq_false h,decide_eq_false e]
theorem key_lr (a:Int) (b:Str):decide ((Sum.inl a:Key)=Sum.inr b)=false:=decide_eq_false (fun q=>nomatch q)
theorem key_rl (a:Str) (b:Int):decide ((Sum.inr a:Key)=Sum.inl b)=false:=decide_eq_false (fun q=>nomatch q)
noncomputable def mixKind (prog:Program) (w:World):PySem.KeyKind prog w Key where
  is:=keyIs
  hash:=keyH w
  inj:=fun v a b ha hb=>by
    rcases Ze7 ha with ⟨i,t,rfl,rfl⟩ | ⟨x,t,rfl,rfl⟩
    · rcases Ze7 hb with ⟨j,u,rfl,e⟩ | ⟨y,u,rfl,e⟩
      · injection e with e1 _;rw[e1]
      · exact nomatch e
    · rcases Ze7 hb with ⟨j,u,rfl,e⟩ | ⟨y,u,rfl,e⟩
      · exact nomatch e
      · injection e with e1 _;rw[e1]
  byValue:=fun k v h=>by
    rcases Ze7 h with ⟨i,t,rfl,rfl⟩ | ⟨x,t,rfl,rfl⟩<;>rfl
  pyHash:=fun hv h=>by
    rcases Ze7 hv with ⟨i,t,rfl,rfl⟩ | ⟨x,t,rfl,rfl⟩
    · exact wpAny_pyHash_int h
    · exact wpAny_pyHash_str h
  eqBool:=fun hu hv h=>by
    rcases Ze7 hu with ⟨i,t,rfl,rfl⟩ | ⟨x,t,rfl,rfl⟩
    · rcases Ze7 hv with ⟨j,u,rfl,rfl⟩ | ⟨y,u,rfl,rfl⟩
      · rw[key_ll] at h;exact wpAny_eqBool_int h
      · rw[key_lr] at h;exact SeqAt.EqAt.int_str i t y u _ _ _ _ h
    · rcases Ze7 hv with ⟨j,u,rfl,rfl⟩ | ⟨y,u,rfl,rfl⟩
      · rw[key_rl] at h;exact SeqAt.EqAt.str_int x t j u _ _ _ _ h
      · rw[key_rr] at h;exact wpAny_eqBool_str h
  «strs»:=fun k x t v h=>by
    rcases Ze7 h with ⟨i,u,rfl,e⟩ | ⟨y,u,rfl,e⟩
    · exact nomatch e
    · injection e with e1 _
      subst e1
      cases v<;>rfl
theorem mixKind_int (prog:Program) (w:World) (i:Int) (t:Tok):(mixKind prog w).is (.inl i) (.int i t)=true:=keyIs_int i t
theorem mixKind_str (prog:Program) (w:World) (x:Str) (t:Tok):(mixKind prog w).is (.inr x) (.str x t)=true:=keyIs_str x t
end L2
namespace L2
open PySem PySem.Spec PyProof.Rows
inductive V where
  | non | bl (b:Bool) | int (i:Int) | str (x:Str) | byt (b:Array UInt8) | flt (b:UInt64) | ref (a:Addr) | ty (n:String)
  deriving DecidableEq
noncomputable def RelV:V→Value→Prop
  | .non,u=>u=Value.none
  | .bl b,u=>u=Value.bool b
  | .int i,u=>∃ t,u=Value.int i t
  | .str x,u=>∃ t,u=Value.str x t
  | .byt b,u=>∃ t,u=Value.bytes b t
  | .flt b,u=>∃ t,u=Value.float b t
  | .ref a,u=>u=Value.ref a
  | .ty n,u=>u=Value.type n
noncomputable abbrev Vals:List V→List Value→Prop:=Paired RelV
theorem Vals.length {xs:List V} {us:List Value} (r:Vals xs us):xs.length=us.length:=Paired.length r
theorem Vals.get:∀ {xs:List V} {us:List Value} {i:Nat} {x:V},Vals xs us→xs[i]?=some x→∃ u,us[i]?=some u∧RelV x u
  | _,_,_,_,.nil,e=>by simp at e
  | _,_,0,_,.cons r _,e=>by simp at e;subst e;exact⟨_,rfl,r⟩
  | _,_,i+1,x,.cons _ t,e=>by
    obtain⟨u,h1,h2⟩:=Vals.get (i:=i) (x:=x) t (by simpa using e)
    exact⟨u,by simpa using h1,h2⟩
theorem Vals.append:∀ {xs ys:List V} {us ws:List Value},Vals xs us→Vals ys ws→Vals (xs++ys) (us++ws)
  | _,_,_,_,.nil,s=>s
  | _,_,_,_,.cons r t,s=>.cons r (Vals.append t s)
theorem Vals.take:∀ {xs:List V} {us:List Value} (n:Nat),Vals xs us→Vals (xs.take n) (us.take n)
  | _,_,0,_=>.nil
  | _,_,_+1,.nil=>.nil
  | _,_,n+1,.cons r t=>.cons r (Vals.take n t)
theorem Vals.drop:∀ {xs:List V} {us:List Value} (n:Nat),Vals xs us→Vals (xs.drop n) (us.drop n)
  | _,_,0,r=>r
  | _,_,_+1,.nil=>.nil
  | _,_,n+1,.cons _ t=>Vals.drop n t
noncomputable def RelO:Option V→Option Value→Prop
  | some v,some u=>RelV v u
  | none,none=>True
  | _,_=>False
noncomputable def KV {κ:Type}:List (κ×V)→List (κ×Value)→Prop:=Paired fun (p:κ×V) (q:κ×Value)=>p.1=q.1∧RelV p.2 q.2
noncomputable def kV:Key→V
  | .inl i=>.int i
  | .inr x=>.str x
inductive HO where
  | lst (xs:List V)
  | tup (xs:List V)
  | dK (kvs:List (Key×V)) | dT (kvs:List (List Key×V))
  | set (S:Int→Bool) (n:Nat)
  | ins (C dx:Addr) (fs:List (Str×V))
  | own (x:Addr)
  | xd (fs:List (Str×V))
  | met (f x:Addr)
  | rng (lo hi:Int)
  | frz (o:Obj) (u:HO)
  | tbl (ps:Array Value)
  | ext (φ:Heap→Prop)
noncomputable abbrev Hp:=Addr→Option HO
noncomputable def upd (H:Hp) (a:Addr) (o:HO):Hp:=fun b=>if b=a then some o else H b
theorem Za2 {H:Hp} {a:Addr} {o:HO}:upd H a o a=some o:=by unfold upd;rw[if_pos rfl]
theorem Zc8 {H:Hp} {a b:Addr} {o:HO} (h:b≠a):upd H a o b=H b:=by unfold upd;rw[if_neg h]
theorem upd_upd {H:Hp} {a:Addr} {o u:HO}:upd (upd H a o) a u=upd H a u:=by
  funext b;unfold upd;split<;>rfl
theorem ne_of {H:Hp} {a b:Addr} {o u:HO} (h:H a=some o) (h':H b=some u) (d:o≠u):a≠b:=by
  intro e;subst e;rw[h] at h';exact d (Option.some.inj h')
theorem Zb1 {H:Hp} {a b:Addr} {o:HO} (h:H a=some o) (h':H b=none):a≠b:=by
  intro e;subst e;rw[h] at h';cases h'
section
variable (P:Program) (w:World)
noncomputable def ObjOk (H:Hp) (h:Heap) (a:Addr):HO→Prop
  | .lst xs=>xs.length≤sizeLine∧∃ (its:List Value) (n:Nat),Vals xs its∧h.get? a=some { cls:=.type "list",data:=.seq its.toArray n }
  | .tup xs=>xs.length≤sizeLine∧∃ its:List Value,Vals xs its∧IsTup h a its.toArray
  | .dK kvs=>kvs.length≤sizeLine∧(a == sysModules)=false∧∃ vs,KV kvs vs∧h.DictOf (mixKind P w) a vs
  | .dT kvs=>kvs.length≤sizeLine∧(a == sysModules)=false∧∃ xs:List (List Key×Addr×Value),
      Paired (fun (p:List Key×V) (q:List Key×Addr×Value)=>p.1=q.1∧H q.2.1=some (.tup (p.1.map kV))∧RelV p.2 q.2.2) kvs xs ∧
      ∃ o es ep,h.get? a=some o∧o.ExactDict∧o.data=.dict es ep∧es.toList=xs.map (entryOfKey (tupleKind (mixKind P w)))∧(xs.map (·.1)).Nodup
  | .set S n=>h.SetOf (intKind P w) a S n
  | .ins C dx fs=>H dx=some (.own a)∧fs.length≤1000∧dx≠a∧h.get? a=some (PySem.W.instObj C dx) ∧
      ∃ mA,h.Ns1 dx mA∧(∀ f,RelO (fs.lookup f) (mA f))∧PySem.Within mA (fs.map (·.1))
  | .own _=>∃ o,h.get? a=some o
  | .xd fs=>∃ mA,h.Ns1 a mA∧∀ f,RelO (fs.lookup f) (mA f)
  | .rng lo hi=>∃ t u v,h.get? a=some { cls:=.type "range",data:=.fields #[.int lo t,.int hi u,.int 1 v] }
  | .frz o u=>h.get? a=some o∧ObjOk H h a u
  | .tbl ps=>h.get? a=some { cls:=.none,data:=.fields ps }
  | .met f x=>h.get? a=some (PySem.W.methodObj (.ref f) (.ref x))
  | .ext φ=>φ h∧(∃ o,h.get? a=some o)∧∀ h1 h2:Heap,φ h1→(∀ o,h1.get? a=some o→h2.get? a=some o)→φ h2
noncomputable def HOk (H:Hp) (h:Heap):Prop:=∀ a o,H a=some o→ObjOk P w H h a o
end
section
variable {P:Program} {w:World} {H H':Hp} {h h':Heap} {a:Addr} {o:HO}
theorem ObjOk.lt (x:ObjOk P w H h a o):a < h.objs.size:=by
  cases o with
  | lst xs=>obtain⟨_,_,_,_,e⟩:=x;exact Heap.lt_size e
  | tup xs=>obtain⟨_,_,_,p⟩:=x;exact p.lt
  | dK kvs=>obtain⟨_,_,_,_,o,_,_,e,_⟩:=x;exact Heap.lt_size e
  | dT kvs=>obtain⟨_,_,_,_,o,_,_,e,_⟩:=x;exact Heap.lt_size e
  | set S n=>obtain⟨o,_,_,_,e,_⟩:=x;exact Heap.lt_size e
  | ins C dx fs=>obtain⟨_,_,_,e,_⟩:=x;exact Heap.lt_size e
  | own y=>obtain⟨_,e⟩:=x;exact Heap.lt_size e
  | xd fs=>obtain⟨_,⟨_,_,_,e,_⟩,_⟩:=x;exact Heap.lt_size e
  | rng lo hi=>obtain⟨_,_,_,e⟩:=x;exact Heap.lt_size e
  | frz ob u=>obtain⟨e,_⟩:=x;exact Heap.lt_size e
  | tbl ps=>exact Heap.lt_size (show h.get? a=some _ from x)
  | met f y=>exact Heap.lt_size (show h.get? a=some _ from x)
  | ext φ=>obtain⟨_,⟨_,e⟩,_⟩:=x;exact Heap.lt_size e
theorem Paired.mapP {α β:Type} {F G:α→β→Prop}:∀ {l₁:List α} {l₂:List β},Paired F l₁ l₂→(∀ a b,F a b→G a b)→Paired G l₁ l₂
  | _,_,.nil,_=>.nil
  | _,_,.cons r t,f=>.cons (f _ _ r) (Paired.mapP t f)
theorem ObjOk.stay (x:ObjOk P w H h a o) (k:∀ b u,(b=a∨H b=some (.own a))→h.get? b=some u→h'.get? b=some u)
    (ho:∀ b,H b=some (.own a)→H' b=some (.own a)) (ht:∀ b xs,H b=some (.tup xs)→H' b=some (.tup xs)):ObjOk P w H' h' a o:=by
  induction o with
  | lst xs=>obtain⟨z,its,n,r,e⟩:=x;exact⟨z,its,n,r,k _ _ (.inl rfl) e⟩
  | tup xs=>obtain⟨z,its,r,ob,e,c⟩:=x;exact⟨z,its,r,ob,k _ _ (.inl rfl) e,c⟩
  | dK kvs=>obtain⟨z,y,vs,r,ob,es,ep,e,c⟩:=x;exact⟨z,y,vs,r,ob,es,ep,k _ _ (.inl rfl) e,c⟩
  | dT kvs =>
    obtain⟨z,y,xs,r,ob,es,ep,e,c⟩:=x
    exact⟨z,y,xs,Paired.mapP r fun p q z=>⟨z.1,ht _ _ z.2.1,z.2.2⟩,ob,es,ep,k _ _ (.inl rfl) e,c⟩
  | set S n=>obtain⟨ob,es,ep,t,e,c⟩:=x;exact⟨ob,es,ep,t,k _ _ (.inl rfl) e,c⟩
  | ins C dx fs =>
    obtain⟨d,z,ne,e,mA,⟨od,es,ep,e2,c⟩,r⟩:=x
    exact⟨ho _ d,z,ne,k _ _ (.inl rfl) e,mA,⟨od,es,ep,k _ _ (.inr d) e2,c⟩,r⟩
  | own y=>obtain⟨ob,e⟩:=x;exact⟨ob,k _ _ (.inl rfl) e⟩
  | xd fs=>obtain⟨mA,⟨od,es,ep,e,c⟩,r⟩:=x;exact⟨mA,⟨od,es,ep,k _ _ (.inl rfl) e,c⟩,r⟩
  | rng lo hi=>obtain⟨t,u,v,e⟩:=x;exact⟨t,u,v,k _ _ (.inl rfl) e⟩
  | frz ob u ih=>obtain⟨e,q⟩:=x;exact⟨k _ _ (.inl rfl) e,ih q⟩
  | tbl ps =>
    have e:h.get? a=some { cls:=.none,data:=.fields ps }:=x
    show h'.get? a=some { cls:=.none,data:=.fields ps }
    exact k a _ (.inl rfl) e
  | met f y =>
    have e:h.get? a=some (PySem.W.methodObj (.ref f) (.ref y)):=x
    show h'.get? a=some (PySem.W.methodObj (.ref f) (.ref y))
    exact k a _ (.inl rfl) e
  | ext φ=>obtain⟨p,⟨o,e⟩,st⟩:=x;exact⟨st _ _ p fun o q=>k _ _ (.inl rfl) q,⟨o,k _ _ (.inl rfl) e⟩,st⟩
theorem HOk.lt (x:HOk P w H h) (e:H a=some o):a < h.objs.size:=(x a o e).lt
theorem HOk.fresh (x:HOk P w H h) (e:h.objs.size≤a):H a=none:=by
  cases q:H a with
  | none=>rfl
  | some u=>exact absurd (Nat.lt_of_lt_of_le (x.lt q) e) (Nat.lt_irrefl _)
theorem HOk.kept (x:HOk P w H h) (k:∀ b u,h.get? b=some u→h'.get? b=some u):HOk P w H h':=fun a o e =>
  (x a o e).stay (fun b u _ q=>k b u q) (fun _ q=>q) fun _ _ q=>q
theorem HOk.laid (x:HOk P w H h) (k:∀ b u,h.get? b=some u→h'.get? b=some u) (hp:h.objs.size≤a) (new:ObjOk P w (upd H a o) h' a o):HOk P w (upd H a o) h':=fun b u e=>by
  have hn:=x.fresh hp
  by_cases hb:b=a
  · subst hb;rw[Za2] at e;cases e;exact new
  · rw[Zc8 hb] at e
    exact (x b u e).stay (fun c v _ q=>k c v q) (fun c q=>by rw[Zc8 (Zb1 q hn)];exact q) fun c xs q=>by rw[Zc8 (Zb1 q hn)];exact q
end
noncomputable def Rd (H:Hp) (a:Addr) (u:HO):Prop:=H a=some u∨∃ o,H a=some (.frz o u)
theorem Rd.ok {P:Program} {w:World} {H:Hp} {h:Heap} {a:Addr} {u:HO} (r:Rd H a u) (x:HOk P w H h):ObjOk P w H h a u:=by
  rcases r with r | ⟨o,r⟩
  · exact x a u r
  · obtain⟨_,q⟩:=x a _ r
    exact q
noncomputable def Mut:Option HO→Prop
  | some (.lst _)=>True
  | some (.dK _)=>True
  | some (.dT _)=>True
  | some (.set _ _)=>True
  | some (.ins _ _ _)=>True
  | some (.ext _)=>True
  | _=>False
section
variable {P:Program} {w:World} {H:Hp} {h h':Heap} {x e:Addr} {o':HO}
theorem HOk.write (ok:HOk P w H h) (mu:Mut (H x)) (he:e=x∨H e=some (.own x)) (k:∀ b u,b≠e→h.get? b=some u→h'.get? b=some u) (heo:∃ u,h'.get? e=some u)
    (new:ObjOk P w (upd H x o') h' x o'):HOk P w (upd H x o') h':=fun b u q=>by
  have nown:∀ c y,H c=some (.own y)→c≠x:=fun c y r z=>by subst z;rw[r] at mu;exact mu
  have ntup:∀ c xs,H c=some (.tup xs)→c≠x:=fun c xs r z=>by subst z;rw[r] at mu;exact mu
  by_cases hb:b=x
  · subst hb;rw[Za2] at q;cases q;exact new
  · rw[Zc8 hb] at q
    by_cases hbe:b=e
    · have q':H b=some (.own x):=by
        rcases he with z | z
        · exact absurd (hbe.trans z) hb
        · rw[hbe];exact z
      rw[q] at q';cases q'
      obtain⟨v,hv⟩:=heo
      exact⟨v,by rw[hbe];exact hv⟩
    · refine (ok b u q).stay (fun c v hc r=>k c v ?_ r) (fun c r=>by rw[Zc8 (nown c b r)];exact r) fun c xs r=>by rw[Zc8 (ntup c xs r)];exact r
      rcases hc with rfl | hc
      · exact hbe
      · rintro rfl
        rcases he with z | z
        · exact nown c b hc z
        · rw[hc] at z;cases z;exact hb rfl
end
structure Un (fs ex:List Addr) (H H':Hp) (h h':Heap):Prop where
  keep:∀ b o,h.get? b=some o→H b=none→b ∉ fs→b ∉ ex→h'.get? b=some o
  slot:∀ b o,h.get? b=some o→H b=none→b∈fs→b ∉ ex→∃ sl,h'.get? b=some { o with slots:=sl }
  free:∀ b o,h.get? b=some o→H b=none→b ∉ ex→H' b=none
  there:∀ b o,h.get? b=some o→b ∉ ex→∃ o',h'.get? b=some o'
  tups:∀ b xs,H b=some (.tup xs)→H' b=some (.tup xs)
  frzs:∀ b o u,H b=some (.frz o u)→H' b=some (.frz o u)
  tbls:∀ b ps,H b=some (.tbl ps)→∃ more,H' b=some (.tbl (ps++more))
section
variable {fs fs' ex ex':List Addr} {H H1 H2:Hp} {h h1 h2 h':Heap} {a x e:Addr} {o:HO}
theorem Un.any (u:Un fs ex H H1 h h1) {b:Addr} {ob:Obj} (q:h.get? b=some ob) (n:H b=none) (hx:b ∉ ex):∃ sl,h1.get? b=some { ob with slots:=sl }:=by
  by_cases hb:b∈fs
  · exact u.slot b ob q n hb hx
  · exact⟨ob.slots,u.keep b ob q n hb hx⟩
theorem Un.kept (k:∀ b u,h.get? b=some u→h'.get? b=some u):Un fs ex H H h h' :=
  ⟨fun b ob q _ _ _=>k b ob q,fun b ob q _ _ _=>⟨ob.slots,k b ob q⟩,fun _ _ _ n _=>n,fun b ob q _=>⟨ob,k b ob q⟩,fun _ _ q=>q,fun _ _ _ q=>q,fun _ ps q=>⟨#[],by rw[q];simp⟩⟩
theorem Un.refl:Un fs ex H H h h:=Un.kept fun _ _ q=>q
theorem Un.laid (k:∀ b u,h.get? b=some u→h'.get? b=some u) (hp:h.objs.size≤a) (hn:H a=none):Un fs ex H (upd H a o) h h' where
  keep:=fun b u q _ _ _=>k b u q
  slot:=fun b u q _ _ _=>⟨u.slots,k b u q⟩
  free:=fun b u q n _=>by rw[Zc8 (Nat.ne_of_lt (Nat.lt_of_lt_of_le (Heap.lt_size q) hp))];exact n
  there:=fun b u q _=>⟨u,k b u q⟩
  tups:=fun b xs q=>by rw[Zc8 (Zb1 q hn)];exact q
  frzs:=fun b u xs q=>by rw[Zc8 (Zb1 q hn)];exact q
  tbls:=fun b ps q=>⟨#[],by rw[Zc8 (Zb1 q hn),q];simp⟩
theorem Un.write (mu:Mut (H x)) (he:e=x∨H e=some (.own x)) (k:∀ b u,b≠e→h.get? b=some u→h'.get? b=some u) (heo:∃ u,h'.get? e=some u):Un fs ex H (upd H x o) h h':=by
  have hx:∀ b,H b=none→b≠x:=fun b n z=>by subst z;rw[n] at mu;exact mu
  have hb:∀ b,H b=none→b≠e:=fun b n z=>by
    subst z
    rcases he with r | r
    · exact hx b n r
    · rw[n] at r;cases r
  have hm:∀ b u,H b=some u→¬ Mut (some u)→b≠x:=fun b u q nm z=>by subst z;rw[q] at mu;exact nm mu
  refine⟨fun b u q n _ _=>k b u (hb b n) q,fun b u q n _ _=>⟨u.slots,k b u (hb b n) q⟩,fun b u q n _=>by rw[Zc8 (hx b n)];exact n,fun b u q _=>?_,
    fun b xs q=>by rw[Zc8 (hm b _ q fun z=>z)];exact q,fun b u xs q=>by rw[Zc8 (hm b _ q fun z=>z)];exact q,fun b ps q=>⟨#[],by rw[Zc8 (hm b _ q fun z=>z),q];simp⟩⟩
  by_cases hbe:b=e
  · subst hbe;exact heo
  · exact⟨u,k b u hbe q⟩
end
noncomputable def trk (h:Heap) (H:Hp):List Addr:=(List.range h.objs.size).filter fun a=>(H a).isSome
noncomputable def hidT (h:Heap) (H:Hp):Heap:=PySem.W.hideAll h (trk h H)
theorem hidT_size (h:Heap) (H:Hp):(hidT h H).objs.size=h.objs.size:=PySem.W.hideAll_size _ _
theorem hidT_get {h:Heap} {H:Hp} {b:Addr} {o:Obj} (e:h.get? b=some o) (n:H b=none):(hidT h H).get? b=some o :=
  PySem.W.hideAll_get _ e fun hm=>by
    have q:(H b).isSome=true:=(List.mem_filter.mp hm).2
    rw[n] at q;simp at q
theorem of_hidT {h:Heap} {H:Hp} {b:Addr} {o:Obj} (e:(hidT h H).get? b=some o):h.get? b=some o∧H b=none:=by
  have e':h.get? b=some o:=PySem.W.of_hideAll (trk h H) e
  refine⟨e',?_⟩
  cases q:H b with
  | none=>rfl
  | some x =>
    have hm:b∈trk h H:=List.mem_filter.mpr ⟨List.mem_range.mpr (Heap.lt_size e'),by simp[q]⟩
    have z:(hidT h H).get? b=none:=PySem.W.hideAll_none (trk h H) hm
    rw[z] at e;cases e
end L2
namespace L2
open PySem PySem.Spec PyProof.Rows
structure Mod (K:PySem.W.Frag) (mg:Str→Option Value) (base:Heap):Prop where
  kin:K.In base
  glob:base.Ns mainGlobals mg
  blt:∃ mb,base.Ns builtinsNs mb∧∀ x:Str,x≠"__name__"→mb x=bootBuiltins x
  nolimit:base.NoLimit
structure Cx where
  prog:Program
  w:World
  K:PySem.W.Frag
  mg:Str→Option Value
  base:Heap
  A:Around
  N:List Str
  s₀:Shared
  H₀:Hp
  env:Env
  outer:List Env
  stack:List Env
  ex:List Addr
  fn:Str→Bool
  calm:Bool
  pn:List (Addr×Obj)
  xe:Value→Shared→Prop
noncomputable def frs (l:List Env):List Addr:=l.filterMap (·.frame)
noncomputable abbrev Cx.fs (X:Cx):List Addr:=frs X.outer
noncomputable def Vis (sc:Scope) (x:Str):Prop:=sc.names.lookup x=some .local∨sc.names.lookup x=some .cell∨sc.names.lookup x=some .free
noncomputable def Loc (sc:Scope) (x:Str):Prop:=sc.names.lookup x=some .local∨sc.names.lookup x=some .cell
noncomputable def Look (env:Env) (h:Heap) (m:Str→Option Value) (x:Str) (u:Value):Prop :=
  (env.kindOf x=some .local∧m x=some u)∨((env.kindOf x=some .cell∨env.kindOf x=some .free)∧∃ c,env.cells.lookup x=some c∧h.IsCell c (some u))
structure Cx.Ok (X:Cx):Prop where
  mod:Mod X.K X.mg X.base
  kind:X.env.scope.kind=.function
  glob:X.env.globals=mainGlobals
  blt:X.env.builtins=builtinsNs
  above:X.s₀.heap.objs.size≤X.env.locals
  inj:∀ x y c,X.env.cells.lookup x=some c→X.env.cells.lookup y=some c→x=y
  has:∀ x,(X.env.kindOf x=some .cell∨X.env.kindOf x=some .free)→∃ c,X.env.cells.lookup x=some c
  cab:∀ x c,X.fn x=true→X.env.cells.lookup x=some c→X.s₀.heap.objs.size≤c
  hd:X.calm=true→X.A.handled=none
  frames:X.A.frames=some X.stack
  stk:X.stack=X.outer∨(X.stack=X.env :: X.outer∧X.env.frame=some X.env.locals)
  exf:∀ b∈X.ex,b≠X.env.locals∧∀ x c,X.env.cells.lookup x=some c→c≠b
  bs:∀ b o,X.base.get? b=some o→X.s₀.heap.get? b=some o∧X.H₀ b=none
  bsz:X.base.objs.size≤X.s₀.heap.objs.size
  noex:∀ b o,X.base.get? b=some o→b ∉ X.ex
  exfs:∀ b∈X.ex,b ∉ X.fs
  funs:X.s₀.heap.FunFrames X.base X.outer
  frf:∀ b∈X.fs,X.H₀ b=none
structure Inv (X:Cx) (pins:List (Addr×Obj)) (σ:List (Option V)) (H:Hp) (s:Shared):Prop where
  ok:X.Ok
  os:s.os=X.s₀.os
  bare:AllBare s.gens
  base:Un X.fs X.ex X.H₀ H X.s₀.heap s.heap
  loc:∃ m,s.heap.Ns X.env.locals m∧∀ (i:Nat) (x:Str) (v:V),X.N[i]?=some x→σ[i]?=some (some v)→Vis X.env.scope x→∃ u,RelV v u∧Look X.env s.heap m x u
  cell:∀ x c,X.env.cells.lookup x=some c→∃ v,s.heap.IsCell c v
  free:H X.env.locals=none
  freeC:∀ x c,X.env.cells.lookup x=some c→H c=none
  pin:∀ p∈X.pn++pins,s.heap.get? p.1=some p.2∧H p.1=none∧p.1≠X.env.locals∧p.1 ∉ X.fs∧∀ v,p.2.data≠.cell v
  hok:HOk X.prog X.w H s.heap
  len:σ.length=X.N.length
section
variable {X:Cx} {pins:List (Addr×Obj)} {σ:List (Option V)} {H H':Hp} {s:Shared} {h':Heap}
theorem Cx.Ok.nofr (ok:X.Ok) {b:Addr} {o:Obj} (e:X.base.get? b=some o):b ∉ X.fs:=fun hb=>by
  have:=(ok.funs.mem hb).1
  rw[e] at this;cases this
theorem Inv.bs (I:Inv X pins σ H s):∀ b o,X.base.get? b=some o→s.heap.get? b=some o∧H b=none:=fun b o e =>
  ⟨I.base.keep b o (I.ok.bs b o e).1 (I.ok.bs b o e).2 (I.ok.nofr e) (I.ok.noex b o e),I.base.free b o (I.ok.bs b o e).1 (I.ok.bs b o e).2 (I.ok.noex b o e)⟩
theorem Inv.bk (I:Inv X pins σ H s):∀ b o,X.base.get? b=some o→s.heap.get? b=some o:=fun b o e=>(I.bs b o e).1
theorem Inv.mod (I:Inv X pins σ H s):Mod X.K X.mg X.base:=I.ok.mod
theorem Inv.kIn (I:Inv X pins σ H s):X.K.In s.heap:=I.ok.mod.kin.keeps I.bk
theorem Inv.lt (I:Inv X pins σ H s):X.env.locals < s.heap.objs.size:=let ⟨_,hn,_⟩:=I.loc;hn.lt
theorem Inv.sz (I:Inv X pins σ H s):X.s₀.heap.objs.size≤s.heap.objs.size:=Nat.le_trans I.ok.above (Nat.le_of_lt I.lt)
theorem Inv.nofs (I:Inv X pins σ H s) {a:Addr} (h:s.heap.objs.size≤a):a ∉ X.fs:=fun hb=>by
  obtain⟨_,o,ho,_⟩:=I.ok.funs.mem hb
  exact absurd (Nat.lt_of_lt_of_le (Heap.lt_size ho) (Nat.le_trans I.sz h)) (Nat.lt_irrefl _)
theorem Inv.cne (I:Inv X pins σ H s):∀ x c,X.env.cells.lookup x=some c→c≠X.env.locals:=fun x c e z=>by
  obtain⟨v,o,ho,hd⟩:=I.cell x c e
  obtain⟨m,⟨o',es,ep,ho',hd',_⟩,_⟩:=I.loc
  rw[z,ho'] at ho;cases ho;rw[hd'] at hd;cases hd
theorem Inv.funs (I:Inv X pins σ H s):s.heap.FunFrames X.base X.outer:=by
  have all:∀ (l:List Env),(∀ b∈frs l,b∈X.fs)→X.s₀.heap.FunFrames X.base l→s.heap.FunFrames X.base l:=by
    intro l
    induction l with
    | nil=>intro _ _;trivial
    | cons env r ih =>
      intro hs hl
      obtain⟨hk,⟨L,o,hf,hn,ho,hd⟩,hr⟩:=hl
      have hL:L∈X.fs:=hs L (by unfold frs;rw[List.filterMap_cons,hf];exact List.mem_cons_self)
      obtain⟨sl,e⟩:=I.base.slot L o ho (I.ok.frf L hL) hL fun z=>I.ok.exfs L z hL
      exact⟨hk,⟨L,_,hf,hn,e,hd⟩,ih (fun b hb=>hs b (by unfold frs;rw[List.filterMap_cons,hf];exact List.mem_cons_of_mem _ hb)) hr⟩
  exact all X.outer (fun _ hb=>hb) I.ok.funs
theorem Inv.stack (I:Inv X pins σ H s):s.heap.FunFrames X.base X.stack:=by
  rcases I.ok.stk with e | ⟨e,hf⟩
  · rw[e];exact I.funs
  · rw[e]
    obtain⟨m,hn,_⟩:=I.loc
    refine .cons (by rw[I.ok.kind];decide) hf hn ?_ I.funs
    exact Heap.get?_none_of_le (Nat.le_trans I.ok.bsz I.ok.above)
theorem Inv.stkSub (I:Inv X pins σ H s):∀ b∈frs X.stack,b∈X.env.locals :: X.fs:=fun b hb=>by
  rcases I.ok.stk with e | ⟨e,hf⟩
  · rw[e] at hb;exact List.mem_cons_of_mem _ hb
  · rw[e] at hb
    unfold frs at hb
    rw[List.filterMap_cons,hf] at hb
    exact hb
theorem Inv.stkFree (I:Inv X pins σ H s):∀ b∈frs X.stack,H b=none:=fun b hb=>by
  rcases List.mem_cons.mp (I.stkSub b hb) with e | hb
  · rw[e];exact I.free
  · obtain⟨_,o,ho,_⟩:=I.ok.funs.mem hb
    exact I.base.free b o ho (I.ok.frf b hb) fun z=>I.ok.exfs b z hb
theorem Inv.step {g':Array GenState} {t':Nat} {d':Drawn} {ch:List Addr} (I:Inv X pins σ H s)
    (hch:∀ b∈ch,(b∈X.ex∨X.s₀.heap.objs.size≤b)∧b≠X.env.locals∧(∀ x c,X.env.cells.lookup x=some c→c≠b)∧∀ p∈X.pn++pins,p.1≠b)
    (keep:∀ b o,b≠X.env.locals→b ∉ X.fs→b ∉ ch→s.heap.get? b=some o→H b=none→h'.get? b=some o)
    (slot:∀ b o,b≠X.env.locals→b∈X.fs→b ∉ ch→s.heap.get? b=some o→H b=none→∃ sl,h'.get? b=some { o with slots:=sl }) (free:∀ b o,b ∉ ch→s.heap.get? b=some o→H b=none→H' b=none)
    (there:∀ b o,b ∉ ch→s.heap.get? b=some o→∃ o',h'.get? b=some o')
    (tups:∀ b xs,H b=some (.tup xs)→H' b=some (.tup xs)) (frzs:∀ b o u,H b=some (.frz o u)→H' b=some (.frz o u)) (tbls:∀ b ps,H b=some (.tbl ps)→∃ more,H' b=some (.tbl (ps++more)))
    (ns:∀ m,s.heap.Ns X.env.locals m→h'.Ns X.env.locals m) (hok:HOk X.prog X.w H' h') (hg:AllBare g') :
    Inv X pins σ H' { s with heap:=h',gens:=g',drawn:=d',toks:=t' }:=by
  have neL:∀ b o,X.s₀.heap.get? b=some o→b≠X.env.locals:=fun b o e=>Nat.ne_of_lt (Nat.lt_of_lt_of_le (Heap.lt_size e) I.ok.above)
  have neC:∀ b o,X.s₀.heap.get? b=some o→b ∉ X.ex→b ∉ ch:=fun b o e hx hb=>by
    rcases (hch b hb).1 with z | z
    · exact hx z
    · exact absurd (Nat.lt_of_lt_of_le (Heap.lt_size e) z) (Nat.lt_irrefl _)
  have cellK:∀ x c,X.env.cells.lookup x=some c→∀ v,s.heap.IsCell c v→h'.IsCell c v:=fun x c e v ⟨o,ho,hd⟩=>by
    have nch:c ∉ ch:=fun z=>(hch c z).2.2.1 x c e rfl
    by_cases hc:c∈X.fs
    · obtain⟨sl,q⟩:=slot c o (I.cne x c e) hc nch ho (I.freeC x c e)
      exact⟨_,q,hd⟩
    · exact⟨o,keep c o (I.cne x c e) hc nch ho (I.freeC x c e),hd⟩
  refine⟨I.ok,I.os,hg,⟨fun b o e n hb hx=>?_,fun b o e n hb hx=>?_,fun b o e n hx=>?_,fun b o e hx=>?_,fun b xs e=>tups b xs (I.base.tups b xs e),fun b o xs e=>frzs b o xs (I.base.frzs b o xs e),fun b ps e=>?_⟩,?_,fun x c e=>?_,?_,fun x c e=>?_,fun p hp=>?_,hok,I.len⟩
  · exact keep b o (neL b o e) hb (neC b o e hx) (I.base.keep b o e n hb hx) (I.base.free b o e n hx)
  · obtain⟨sl,e1⟩:=I.base.slot b o e n hb hx
    obtain⟨sl',e2⟩:=slot b _ (neL b o e) hb (neC b o e hx) e1 (I.base.free b o e n hx)
    exact⟨sl',e2⟩
  · obtain⟨o',e1⟩:=I.base.there b o e hx
    exact free b o' (neC b o e hx) e1 (I.base.free b o e n hx)
  · obtain⟨o',e1⟩:=I.base.there b o e hx
    exact there b o' (neC b o e hx) e1
  · obtain⟨m1,e1⟩:=I.base.tbls b ps e
    obtain⟨m2,e2⟩:=tbls b _ e1
    exact⟨m1++m2,by rw[e2,Array.append_assoc]⟩
  · obtain⟨m,hn,hl⟩:=I.loc
    refine⟨m,ns m hn,fun i x v e1 e2 e3=>?_⟩
    obtain⟨u,r,l⟩:=hl i x v e1 e2 e3
    refine⟨u,r,?_⟩
    rcases l with l | ⟨k,c,e,z⟩
    · exact .inl l
    · exact .inr ⟨k,c,e,cellK x c e _ z⟩
  · obtain⟨v,z⟩:=I.cell x c e
    exact⟨v,cellK x c e v z⟩
  · obtain⟨m,⟨o,_,_,ho,_⟩,_⟩:=I.loc
    exact free _ o (fun z=>(hch _ z).2.1 rfl) ho I.free
  · obtain⟨v,o,ho,hd⟩:=I.cell x c e
    exact free c o (fun z=>(hch c z).2.2.1 x c e rfl) ho (I.freeC x c e)
  · obtain⟨e,n,ne,nf,d⟩:=I.pin p hp
    have nch:p.1 ∉ ch:=fun z=>(hch p.1 z).2.2.2 p hp rfl
    exact⟨keep p.1 p.2 ne nf nch e n,free p.1 p.2 nch e n,ne,nf,d⟩
theorem Inv.un {t':Nat} (I:Inv X pins σ H s) (u:Un X.fs [] H H' s.heap h') (hok:HOk X.prog X.w H' h'):Inv X pins σ H' { s with heap:=h',toks:=t' }:=by
  obtain⟨m,⟨o,es,ep,ho,r⟩,_⟩:=id I.loc
  obtain⟨sl,hL⟩:=u.any ho I.free (by simp)
  exact I.step (g':=s.gens) (d':=s.drawn) (ch:=[]) (fun _ z=>nomatch z) (fun b o _ hb _ e n=>u.keep b o e n hb (by simp)) (fun b o _ hb _ e n=>u.slot b o e n hb (by simp)) (fun b o _ e n=>u.free b o e n (by simp)) (fun b o _ e=>u.there b o e (by simp)) u.tups u.frzs u.tbls (fun m' hm=>by
    obtain⟨o',es',ep',ho',r'⟩:=hm
    rw[ho] at ho';cases ho'
    exact⟨_,es',ep',hL,r'⟩) hok I.bare
theorem Inv.call {g':Array GenState} {t':Nat} {d':Drawn} {ch:List Addr} (I:Inv X pins σ H s) (u:Un (frs X.stack) ch H H' s.heap h') (hok:HOk X.prog X.w H' h') (hg:AllBare g')
    (hch:∀ b∈ch,(b∈X.ex∨X.s₀.heap.objs.size≤b)∧b≠X.env.locals∧(∀ x c,X.env.cells.lookup x=some c→c≠b)∧∀ p∈X.pn++pins,p.1≠b) :
    Inv X pins σ H' { s with heap:=h',gens:=g',drawn:=d',toks:=t' }:=by
  obtain⟨m,⟨o,es,ep,ho,r⟩,_⟩:=id I.loc
  obtain⟨sl,hL⟩:=u.any ho I.free fun z=>(hch _ z).2.1 rfl
  exact I.step (ch:=ch) hch (fun b o hL hb hc e n=>u.keep b o e n (fun z=>(List.mem_cons.mp (I.stkSub b z)).elim hL hb) hc) (fun b o _ _ hc e n=>u.any e n hc) (fun b o hc e n=>u.free b o e n hc) (fun b o hc e=>u.there b o e hc) u.tups u.frzs u.tbls (fun m' hm=>by
    obtain⟨o',es',ep',ho',r'⟩:=hm
    rw[ho] at ho';cases ho'
    exact⟨_,es',ep',hL,r'⟩) hok hg
theorem Inv.turned {t':Nat} {it:Addr} (I:Inv X pins σ H s) (k:∀ b o,b≠it→s.heap.get? b=some o→h'.get? b=some o) (hn:H it=none) (hL:it≠X.env.locals)
    (h1:it∈X.ex∨X.s₀.heap.objs.size≤it) (h2:∀ x c,X.env.cells.lookup x=some c→c≠it) (h3:∀ p∈X.pn++pins,p.1≠it):Inv X pins σ H { s with heap:=h',toks:=t' }:=by
  have nit:∀ b u,H b=some u→b≠it:=fun b u e z=>by rw[z,hn] at e;cases e
  refine I.step (g':=s.gens) (d':=s.drawn) (ch:=[it]) (fun b hb=>?_) (fun b o _ _ hc e _=>k b o (fun z=>hc (by simp[z])) e) (fun b o _ _ hc e _=>⟨o.slots,k b o (fun z=>hc (by simp[z])) e⟩) (fun _ _ _ _ n=>n)
    (fun b o hc e=>⟨o,k b o (fun z=>hc (by simp[z])) e⟩) (fun _ _ e=>e) (fun _ _ _ e=>e) (fun b ps e=>⟨#[],by rw[e];simp⟩) (fun m hm=>?_) (fun b u e=>?_) I.bare
  · have e:b=it:=by simpa using hb
    subst e
    exact⟨h1,hL,h2,h3⟩
  · obtain⟨o,es,ep,ho,r⟩:=hm
    exact⟨o,es,ep,k _ o (Ne.symm hL) ho,r⟩
  · refine (I.hok b u e).stay (fun c v hc q=>k c v ?_ q) (fun _ q=>q) fun _ _ q=>q
    rcases hc with z | z
    · rw[z];exact nit b u e
    · exact nit c _ z
theorem Inv.tok (I:Inv X pins σ H s) (t:Nat):Inv X pins σ H { s with toks:=t }:=I.un (h':=s.heap) (t':=t) Un.refl I.hok
theorem Inv.kept {t':Nat} (I:Inv X pins σ H s) (k:∀ b u,s.heap.get? b=some u→h'.get? b=some u):Inv X pins σ H { s with heap:=h',toks:=t' }:=I.un (Un.kept k) (I.hok.kept k)
theorem Inv.laid {a:Addr} {o:HO} {t':Nat} (I:Inv X pins σ H s) (k:∀ b u,s.heap.get? b=some u→h'.get? b=some u) (hp:s.heap.objs.size≤a) (new:ObjOk X.prog X.w (upd H a o) h' a o) :
    Inv X pins σ (upd H a o) { s with heap:=h',toks:=t' }:=I.un (Un.laid k hp (I.hok.fresh hp)) (I.hok.laid k hp new)
theorem Inv.write {x e:Addr} {o:HO} {t':Nat} (I:Inv X pins σ H s) (mu:Mut (H x)) (he:e=x∨H e=some (.own x)) (k:∀ b u,b≠e→s.heap.get? b=some u→h'.get? b=some u) (heo:∃ u,h'.get? e=some u)
    (new:ObjOk X.prog X.w (upd H x o) h' x o):Inv X pins σ (upd H x o) { s with heap:=h',toks:=t' }:=I.un (Un.write mu he k heo) (I.hok.write mu he k heo new)
theorem Inv.weak {σ':List (Option V)} (I:Inv X pins σ H s) (hl:σ'.length=σ.length) (w:∀ (i:Nat) v,σ'[i]?=some (some v)→σ[i]?=some (some v)):Inv X pins σ' H s :=
  ⟨I.ok,I.os,I.bare,I.base,let ⟨m,hn,hl'⟩:=I.loc;⟨m,hn,fun i x v e1 e2 e3=>hl' i x v e1 (w i v e2) e3⟩,I.cell,I.free,I.freeC,I.pin,I.hok,hl.trans I.len⟩
theorem Inv.pins_of {pins':List (Addr×Obj)} (I:Inv X pins σ H s) (h:∀ p∈pins',s.heap.get? p.1=some p.2∧H p.1=none∧p.1≠X.env.locals∧p.1 ∉ X.fs∧∀ v,p.2.data≠.cell v):Inv X pins' σ H s :=
  ⟨I.ok,I.os,I.bare,I.base,I.loc,I.cell,I.free,I.freeC,fun p hp=>(List.mem_append.mp hp).elim (fun z=>I.pin p (List.mem_append_left _ z)) (h p),I.hok,I.len⟩
theorem nodup_ix {N:List Str} (hN:N.Nodup) {i j:Nat} {x:Str} (a:N[i]?=some x) (b:N[j]?=some x):i=j:=by
  obtain⟨h1,e1⟩:=List.getElem?_eq_some_iff.mp a
  obtain⟨h2,e2⟩:=List.getElem?_eq_some_iff.mp b
  exact (List.getElem_inj hN).mp (e1.trans e2.symm)
theorem store_ok2 {M:Model} {A:Around} {E:Value→Shared→Prop} {i:Nat} {x:Str} {v:V} {u:Value} {Q:Unit→Shared→Prop} (I:Inv X pins σ H s) (hN:X.N.Nodup) (hi:X.N[i]?=some x) (hx:Loc X.env.scope x) (r:RelV v u)
    (h:∀ s',Inv X pins (σ.set i (some v)) H s'→(∃ a,Heap.SameBut a s.heap s'.heap∧(a=X.env.locals∨X.env.cells.lookup x=some a))→Q () s') (hf:X.fn x=true∨X.env.scope.names.lookup x=some .local:=by first | exact .inl rfl | exact .inr rfl | assumption):wpAny M A (storeName X.env x u) Q E s:=by
  obtain⟨m,hn,hl⟩:=id I.loc
  have hcls:(X.env.scope.kind == .class||(X.env.scope.kind == .module&&X.env.locals != X.env.globals))=false:=by rw[I.ok.kind];rfl
  have hiσ:i < σ.length:=by rw[I.len];exact (List.getElem?_eq_some_iff.mp hi).1
  have cne:=I.cne
  have tracked:∀ {a:Addr} {h':Heap},(∃ o,s.heap.get? a=some o∧H a=none)→Heap.SameBut a s.heap h'→HOk X.prog X.w H h':=fun {a h'} ha hs b ob e=>by
    obtain⟨_,_,hfree⟩:=ha
    refine (I.hok b ob e).stay (fun c w' hc q=>(hs.2 c ?_).trans q) (fun _ q=>q) fun _ _ q=>q
    rintro rfl
    rcases hc with rfl | hc
    · rw[hfree] at e;cases e
    · rw[hfree] at hc;cases hc
  rcases hx with hk | hk
  · refine wpAny_storeName_local hk hn (fun h' hn' hs=>?_) hcls
    obtain⟨oL,_,_,hoL,_⟩:=id hn
    refine h _ ⟨I.ok,I.os,I.bare,⟨fun b o e n hb hx=>?_,fun b o e n hb hx=>?_,I.base.free,fun b o e hx=>?_,I.base.tups,I.base.frzs,I.base.tbls⟩,⟨_,hn',fun j y v' e1 e2 e3=>?_⟩,fun y c e=>?_,I.free,I.freeC,fun p hp=>?_,tracked ⟨oL,hoL,I.free⟩ hs,by simpa using I.len⟩ ⟨_,hs,.inl rfl⟩
    · exact (hs.2 b (Nat.ne_of_lt (Nat.lt_of_lt_of_le (Heap.lt_size e) I.ok.above))).trans (I.base.keep b o e n hb hx)
    · obtain⟨sl,e1⟩:=I.base.slot b o e n hb hx
      exact⟨sl,(hs.2 b (Nat.ne_of_lt (Nat.lt_of_lt_of_le (Heap.lt_size e) I.ok.above))).trans e1⟩
    · obtain⟨o',e1⟩:=I.base.there b o e hx
      exact⟨o',(hs.2 b (Nat.ne_of_lt (Nat.lt_of_lt_of_le (Heap.lt_size e) I.ok.above))).trans e1⟩
    · by_cases hj:j=i
      · subst hj
        rw[hi] at e1;cases e1
        rw[List.getElem?_set_self hiσ] at e2
        cases e2
        exact⟨u,r,.inl ⟨hk,by simp⟩⟩
      · rw[List.getElem?_set_ne (Ne.symm hj)] at e2
        obtain⟨u',r',q⟩:=hl j y v' e1 e2 e3
        refine⟨u',r',?_⟩
        rcases q with ⟨k,e⟩ | ⟨k,c,e,z⟩
        · refine .inl ⟨k,?_⟩
          have:y≠x:=fun e=>hj (nodup_ix hN e1 (e▸hi))
          simp[this,e]
        · exact .inr ⟨k,c,e,z.sameBut hs (cne y c e)⟩
    · obtain⟨w',z⟩:=I.cell y c e
      exact⟨w',z.sameBut hs (cne y c e)⟩
    · obtain⟨e,n,ne,nf,d⟩:=I.pin p hp
      exact⟨(hs.2 p.1 ne).trans e,n,ne,nf,d⟩
  · have hfn:X.fn x=true:=by
      rcases hf with z | z
      · exact z
      · rw[z] at hk;cases hk
    obtain⟨c,hc⟩:=I.ok.has x (.inl hk)
    obtain⟨w',z⟩:=I.cell x c hc
    refine wpAny_storeName_cell I.ok.kind hk hc z (fun h' hc' hs=>?_)
    obtain⟨oc,hoc,hocd⟩:=id z
    refine h { s with heap:=h' } ⟨I.ok,I.os,I.bare,⟨fun b o e n hb hx=>?_,fun b o e n hb hx=>?_,I.base.free,fun b o e hx=>?_,I.base.tups,I.base.frzs,I.base.tbls⟩,⟨m,hn.sameBut hs (Ne.symm (cne x c hc)),fun j y v' e1 e2 e3=>?_⟩,fun y c' e=>?_,I.free,I.freeC,fun p hp=>?_,tracked ⟨oc,hoc,I.freeC x c hc⟩ hs,by simpa using I.len⟩ ⟨c,hs,.inr hc⟩
    · exact (hs.2 b (Nat.ne_of_lt (Nat.lt_of_lt_of_le (Heap.lt_size e) (I.ok.cab x c hfn hc)))).trans (I.base.keep b o e n hb hx)
    · obtain⟨sl,e1⟩:=I.base.slot b o e n hb hx
      exact⟨sl,(hs.2 b (Nat.ne_of_lt (Nat.lt_of_lt_of_le (Heap.lt_size e) (I.ok.cab x c hfn hc)))).trans e1⟩
    · obtain⟨o',e1⟩:=I.base.there b o e hx
      exact⟨o',(hs.2 b (Nat.ne_of_lt (Nat.lt_of_lt_of_le (Heap.lt_size e) (I.ok.cab x c hfn hc)))).trans e1⟩
    · by_cases hj:j=i
      · subst hj
        rw[hi] at e1;cases e1
        rw[List.getElem?_set_self hiσ] at e2
        cases e2
        exact⟨u,r,.inr ⟨.inl hk,c,hc,hc'⟩⟩
      · rw[List.getElem?_set_ne (Ne.symm hj)] at e2
        obtain⟨u',r',q⟩:=hl j y v' e1 e2 e3
        refine⟨u',r',?_⟩
        rcases q with q | ⟨k,c',e,z'⟩
        · exact .inl q
        · refine .inr ⟨k,c',e,z'.sameBut hs ?_⟩
          rintro rfl
          exact hj (nodup_ix hN e1 (I.ok.inj _ _ _ e hc▸hi))
    · by_cases hcc:c'=c
      · subst hcc;exact⟨_,hc'⟩
      · obtain⟨w2,z2⟩:=I.cell y c' e
        exact⟨w2,z2.sameBut hs hcc⟩
    · obtain⟨e,n,ne,nf,d⟩:=I.pin p hp
      refine⟨(hs.2 p.1 ?_).trans e,n,ne,nf,d⟩
      intro q
      rw[q,hoc] at e
      have q':oc=p.2:=Option.some.inj e
      exact d w' (by rw[← q'];exact hocd)
theorem store_ok {M:Model} {A:Around} {E:Value→Shared→Prop} {i:Nat} {x:Str} {v:V} {u:Value} {Q:Unit→Shared→Prop} (I:Inv X pins σ H s) (hN:X.N.Nodup) (hi:X.N[i]?=some x) (hx:Loc X.env.scope x) (r:RelV v u)
    (h:∀ s',Inv X pins (σ.set i (some v)) H s'→Q () s') (hf:X.fn x=true∨X.env.scope.names.lookup x=some .local:=by first | exact .inl rfl | exact .inr rfl | assumption):wpAny M A (storeName X.env x u) Q E s :=
  store_ok2 I hN hi hx r (fun s' I' _=>h s' I') hf
theorem Inv.call' {s':Shared} {ch:List Addr} (I:Inv X pins σ H s) (ho:s'.os=s.os) (u:Un (frs X.stack) ch H H' s.heap s'.heap) (hok:HOk X.prog X.w H' s'.heap) (hg:AllBare s'.gens)
    (hch:∀ b∈ch,(b∈X.ex∨X.s₀.heap.objs.size≤b)∧b≠X.env.locals∧(∀ x c,X.env.cells.lookup x=some c→c≠b)∧∀ p∈X.pn++pins,p.1≠b):Inv X pins σ H' s':=by
  obtain⟨h',g',d',t',o'⟩:=s'
  have e:o'=s.os:=ho
  subst e
  exact I.call (g':=g') (t':=t') (d':=d') u hok hg hch
end
noncomputable abbrev XK:=Value→Option Addr→Hp→Prop
noncomputable abbrev St:=List (Option V)
noncomputable abbrev VK:=V→Hp→Prop
noncomputable abbrev TE:=St→Hp→VK→Prop
noncomputable abbrev TT:=St→Hp→(Bool→Hp→Prop)→Prop
noncomputable abbrev TA:=St→Hp→(List V→Hp→Prop)→Prop
structure Ends where
  nx:St→Hp→Prop
  rt:VK
  bk:St→Hp→Prop:=fun _ _=>False
  ct:St→Hp→Prop:=fun _ _=>False
noncomputable abbrev TS:=Ends→St→Hp→Prop
noncomputable def EP (X:Cx) (pins:List (Addr×Obj)) (σ:St) (Q:VK) (u:Value) (s':Shared):Prop:=∃ v H',Inv X pins σ H' s'∧RelV v u∧Q v H'
noncomputable def TP (X:Cx) (pins:List (Addr×Obj)) (σ:St) (Q:Bool→Hp→Prop) (b:Bool) (s':Shared):Prop:=∃ H',Inv X pins σ H' s'∧Q b H'
noncomputable def AP (X:Cx) (pins:List (Addr×Obj)) (σ:St) (Q:List V→Hp→Prop) (us:List Value) (s':Shared):Prop:=∃ vs H',Inv X pins σ H' s'∧Vals vs us∧Q vs H'
noncomputable def SP (X:Cx) (pins:List (Addr×Obj)) (D:Ends) (f:Flow) (s':Shared):Prop :=
  match f with
  | .next=>∃ σ' H',Inv X pins σ' H' s'∧D.nx σ' H'
  | .brk=>∃ σ' H',Inv X pins σ' H' s'∧D.bk σ' H'
  | .cont=>∃ σ' H',Inv X pins σ' H' s'∧D.ct σ' H'
  | .ret u=>∃ v σ' H',Inv X pins σ' H' s'∧RelV v u∧D.rt v H'
noncomputable def PE (X:Cx) (e:Expr) (t:TE):Prop :=
  ∀ (pins:List (Addr×Obj)) (s:Shared) (σ:St) (H:Hp) (Q:VK),Inv X pins σ H s→t σ H Q→wpAny (model X.prog X.w) X.A (eval e X.env) (EP X pins σ Q) X.xe s
noncomputable def PT (X:Cx) (e:Expr) (t:TT):Prop :=
  ∀ (pins:List (Addr×Obj)) (s:Shared) (σ:St) (H:Hp) (Q:Bool→Hp→Prop),Inv X pins σ H s→t σ H Q→wpAny (model X.prog X.w) X.A (isTrue e X.env (eval e X.env)) (TP X pins σ Q) X.xe s
noncomputable def PW (X:Cx) (e:Expr) (t:TT):Prop :=
  ∀ (whole:Sem Value) (pins:List (Addr×Obj)) (s:Shared) (σ:St) (H:Hp) (Q:Bool→Hp→Prop),Inv X pins σ H s→t σ H Q→wpAny (model X.prog X.w) X.A (isTrue e X.env whole) (TP X pins σ Q) X.xe s
theorem PW.pt {X:Cx} {e:Expr} {t:TT} (h:PW X e t):PT X e t:=h _
noncomputable def PA (X:Cx) (es:List Expr) (t:TA):Prop :=
  ∀ (pos:Pos) (pins:List (Addr×Obj)) (s:Shared) (σ:St) (H:Hp) (Q:List V→Hp→Prop),Inv X pins σ H s→t σ H Q→wpAny (model X.prog X.w) X.A (spliced (backTo pos (starEach es X.env))) (AP X pins σ Q) X.xe s
noncomputable def PS (X:Cx) (st:Stmt) (t:TS):Prop :=
  ∀ (pins:List (Addr×Obj)) (s:Shared) (σ:St) (H:Hp) (D:Ends),Inv X pins σ H s→t D σ H→wpAny (model X.prog X.w) X.A (exec st X.env) (SP X pins D) X.xe s
noncomputable def PSs (X:Cx) (st:List Stmt) (t:TS):Prop :=
  ∀ (pins:List (Addr×Obj)) (s:Shared) (σ:St) (H:Hp) (D:Ends),Inv X pins σ H s→t D σ H→wpAny (model X.prog X.w) X.A (execs st X.env) (SP X pins D) X.xe s
theorem thn {α:Type} {t:Sem α} {Q Q':α→Shared→Prop} {M:Model} {A:Around} {E:Value→Shared→Prop} {s:Shared} (h:wpAny M A t Q E s) (hQ:∀ a s,Q a s→Q' a s):wpAny M A t Q' E s:=wpAny_mono h hQ fun _ _ x=>x
end L2
namespace L2
open PySem PySem.Spec PyProof.Rows
section
variable {X:Cx}
noncomputable def tVar (i:Nat):TE:=fun σ H Q=>∃ v,σ[i]?=some (some v)∧Q v H
noncomputable def tC (v:V):TE:=fun _ H Q=>Q v H
theorem pe_var {i:Nat} {x:Str} {pos:Pos} (hN:X.N[i]?=some x) (hv:Vis X.env.scope x) (hd:(x == ("__debug__":Str))=false:=by decide) (hcd:(x == ("__classdict__":Str))=false:=by decide):PE X (.Name x pos) (tVar i):=by
  intro pins s σ H Q I h
  obtain⟨v,e,h⟩:=h
  obtain⟨m,hn,hl⟩:=I.loc
  obtain⟨u,r,l⟩:=hl i x v hN e hv
  have fin:EP X pins σ Q u s:=⟨v,H,I,r,h⟩
  rcases l with ⟨hk,hm⟩ | ⟨hk,c,hc,hcell⟩
  · exact wpAny_Name (wpAny_loadName_local I.ok.kind hk hn hm fin) hd
  · rcases hk with hk | hk
    · exact wpAny_Name (wpAny_loadName_cell I.ok.kind hk hc hcell fin) hd
    · exact wpAny_Name (wpAny_loadName_free I.ok.kind hk hc hcell fin hcd) hd
theorem Za5 {i j pos}:PE X (.Constant (.int i) j pos) (tC (.int i)):=fun _ _ _ H _ I h=>wpAny_Constant_int ⟨.int i,H,I.tok _,⟨_,rfl⟩,h⟩
theorem pe_bl {b j pos}:PE X (.Constant (.bool b) j pos) (tC (.bl b)):=fun _ _ _ H _ I h=>Constant_bool ⟨.bl b,H,I,rfl,h⟩
theorem Ze3 {j pos}:PE X (.Constant .none j pos) (tC .non):=fun _ _ _ H _ I h=>Constant_none ⟨.non,H,I,rfl,h⟩
theorem Zb9 {x j pos}:PE X (.Constant (.str x) j pos) (tC (.str x)):=fun _ _ _ H _ I h=>Calls.Constant_str ⟨.str x,H,I.tok _,⟨_,rfl⟩,h⟩
noncomputable def Gl (X:Cx) (x:Str):Prop:=X.env.kindOf x=some .globalImplicit
theorem ld_glob {E:Value→Shared→Prop} {pins:List (Addr×Obj)} {s:Shared} {σ:St} {H:Hp} {x:Str} {u:Value} {pos:Pos} {Q:Value→Shared→Prop} (I:Inv X pins σ H s) (hg:Gl X x) (hm:X.mg x=some u) (h:Q u s)
    (hd:(x == ("__debug__":Str))=false:=by decide):wpAny (model X.prog X.w) X.A (eval (.Name x pos) X.env) Q E s :=
  Calls.Name_function_global I.ok.kind hg (Calls.loadGlobal_global (by rw[I.ok.glob];exact I.mod.glob.keeps I.bk) hm h) hd
theorem ld_blt {E:Value→Shared→Prop} {pins:List (Addr×Obj)} {s:Shared} {σ:St} {H:Hp} {x:Str} {u:Value} {pos:Pos} {Q:Value→Shared→Prop} (I:Inv X pins σ H s) (hg:Gl X x) (hm:X.mg x=none) (hv:bootBuiltins x=some u) (h:Q u s)
    (hn:x≠"__name__":=by decide) (hd:(x == ("__debug__":Str))=false:=by decide):wpAny (model X.prog X.w) X.A (eval (.Name x pos) X.env) Q E s:=by
  obtain⟨mb,h1,h2⟩:=I.mod.blt
  exact Calls.Name_function_global I.ok.kind hg (Calls.loadGlobal_builtin (by rw[I.ok.glob];exact I.mod.glob.keeps I.bk) hm (by rw[I.ok.blt];exact h1.keeps I.bk) ((h2 x hn).trans hv) h) hd
theorem pe_glob {x:Str} {v:V} {u:Value} {pos:Pos} (hg:Gl X x) (hm:X.mg x=some u) (r:RelV v u) (hd:(x == ("__debug__":Str))=false:=by decide):PE X (.Name x pos) (tC v) :=
  fun _ _ _ H _ I h=>ld_glob I hg hm ⟨v,H,I,r,h⟩ hd
variable {a b:Expr} {ta tb:TE} {pos:Pos}
noncomputable def PC (X:Cx) (op:CmpOp) (a b:Expr) (t:TE):Prop :=
  ∀ (pins:List (Addr×Obj)) (s:Shared) (σ:St) (H:Hp) (Q:VK),Inv X pins σ H s→t σ H Q →
    wpAny (model X.prog X.w) X.A (eval a X.env) (fun v s₁=>wpAny (model X.prog X.w) X.A (eval b X.env) (fun u s₂=>wpAny (model X.prog X.w) X.A (compareOp op v u) (EP X pins σ Q) X.xe s₂) X.xe s₁) X.xe s
noncomputable def tB (t:TE):TT:=fun σ H Q=>t σ H fun x H1=>∃ c,x=.bl c∧Q c H1
theorem pt_cmp {op:CmpOp} {t:TE} (h:PC X op a b t) (h1:behindInMarks op b=false:=by first | exact nobehind _ (by decide) (by decide) | rfl):PT X (.Compare a [op] [b] pos) (tB t):=by
  intro pins s σ H Q I hw
  refine wpAny_isTrue_Compare1 (thn (h pins s σ H _ I hw) fun v s1 h1=>thn h1 fun u s2 h2=>thn h2 fun c s3 ⟨x,H1,I1,r1,q1⟩=>?_) h1
  obtain⟨d,rfl,q⟩:=q1
  cases r1
  exact wpAny_truthy_bool ⟨H1,I1,q⟩
theorem pt_val {e:Expr} {t:TE} (h:PE X e t) (he:∀ whole,isTrue e X.env whole=(do let v ← whole;standAt e.pos;holding [v] (truthy v)):=by intro _;rfl):PT X e (tB t):=by
  intro pins s σ H Q I hw
  refine isTrue_plain (thn (h pins s σ H _ I hw) fun v s1 ⟨x,H1,I1,r1,q1⟩=>?_) (he _)
  obtain⟨d,rfl,q⟩:=q1
  cases r1
  exact wpAny_truthy_bool ⟨H1,I1,q⟩
variable {tA tB':TT} {rest:List Expr}
noncomputable def tAnd (t u:TT):TT:=fun σ H Q=>t σ H fun c H1=>if c=true then u σ H1 Q else Q false H1
noncomputable def tOr (t u:TT):TT:=fun σ H Q=>t σ H fun c H1=>if c=true then Q true H1 else u σ H1 Q
noncomputable def tNot (t:TT):TT:=fun σ H Q=>t σ H fun c H1=>Q (!c) H1
theorem pw_and1 (ha:PT X a tA):PW X (.BoolOp .And [a] pos) tA:=by
  intro wh pins s σ H Q I h
  refine isTrue_and (thn (ha pins s σ H Q I h) fun c s1 e=>?_)
  cases c with
  | true=>exact isTrue_and_nil e
  | false=>exact e
theorem pw_or1 (ha:PT X a tA):PW X (.BoolOp .Or [a] pos) tA:=by
  intro wh pins s σ H Q I h
  refine isTrue_or (thn (ha pins s σ H Q I h) fun c s1 e=>?_)
  cases c with
  | false=>exact isTrue_or_nil e
  | true=>exact e
theorem pw_and (ha:PT X a tA) (hb:PW X (.BoolOp .And (b :: rest) pos) tB'):PW X (.BoolOp .And (a :: b :: rest) pos) (tAnd tA tB'):=by
  intro wh pins s σ H Q I h
  refine isTrue_and (thn (ha pins s σ H _ I h) fun c s1 ⟨H1,I1,q1⟩=>?_)
  cases c with
  | true=>exact hb wh pins s1 σ H1 Q I1 q1
  | false=>exact⟨H1,I1,q1⟩
theorem pw_or (ha:PT X a tA) (hb:PW X (.BoolOp .Or (b :: rest) pos) tB'):PW X (.BoolOp .Or (a :: b :: rest) pos) (tOr tA tB'):=by
  intro wh pins s σ H Q I h
  refine isTrue_or (thn (ha pins s σ H _ I h) fun c s1 ⟨H1,I1,q1⟩=>?_)
  cases c with
  | true=>exact⟨H1,I1,q1⟩
  | false=>exact hb wh pins s1 σ H1 Q I1 q1
theorem pt_not (ha:PT X a tA):PT X (.UnaryOp .Not a pos) (tNot tA):=by
  intro pins s σ H Q I h
  exact isTrue_not (ha pins s σ H (fun c H1=>Q (!c) H1) I h)
noncomputable def tAndV (ta tb:TE):TE:=fun σ H Q=>ta σ H fun x H1=>∃ c,x=.bl c∧if c=true then tb σ H1 Q else Q (.bl false) H1
noncomputable def tOrV (ta tb:TE):TE:=fun σ H Q=>ta σ H fun x H1=>∃ c,x=.bl c∧if c=true then Q (.bl true) H1 else tb σ H1 Q
theorem pe_one {op} {t:TE} (h:PE X a t):PE X (.BoolOp op [a] pos) t:=fun pins s σ H Q I hw=>BoolOp_one (h pins s σ H Q I hw)
theorem pe_and (ha:PE X a ta) (hb:PE X (.BoolOp .And (b :: rest) pos) tb):PE X (.BoolOp .And (a :: b :: rest) pos) (tAndV ta tb):=by
  intro pins s σ H Q I h
  refine BoolOp_and (thn (ha pins s σ H _ I h) fun v s1 ⟨x,H1,I1,r1,q1⟩=>?_)
  obtain⟨c,rfl,q1⟩:=q1
  cases r1
  refine wpAny_truthy_bool ?_
  cases c with
  | true=>exact hb pins s1 σ H1 Q I1 q1
  | false=>exact⟨.bl false,H1,I1,rfl,q1⟩
theorem pe_or (ha:PE X a ta) (hb:PE X (.BoolOp .Or (b :: rest) pos) tb):PE X (.BoolOp .Or (a :: b :: rest) pos) (tOrV ta tb):=by
  intro pins s σ H Q I h
  refine BoolOp_or (thn (ha pins s σ H _ I h) fun v s1 ⟨x,H1,I1,r1,q1⟩=>?_)
  obtain⟨c,rfl,q1⟩:=q1
  cases r1
  refine wpAny_truthy_bool ?_
  cases c with
  | false=>exact hb pins s1 σ H1 Q I1 q1
  | true=>exact⟨.bl true,H1,I1,rfl,q1⟩
noncomputable def tIf (t:TT) (ta tb:TE):TE:=fun σ H Q=>t σ H fun c H1=>if c=true then ta σ H1 Q else tb σ H1 Q
theorem Zh7 {c:Expr} (hc:PT X c tA) (ha:PE X a ta) (hb:PE X b tb):PE X (.IfExp c a b pos) (tIf tA ta tb):=by
  intro pins s σ H Q I h
  refine wpAny_IfExp (thn (hc pins s σ H _ I h) fun d s1 ⟨H1,I1,q1⟩=>?_)
  cases d with
  | true=>exact ha pins s1 σ H1 Q I1 q1
  | false=>exact hb pins s1 σ H1 Q I1 q1
end
end L2
namespace L2
open PySem PySem.Spec PyProof.Rows
noncomputable def SqL (K:PySem.W.Frag) (H:Hp) (a:Addr) (xs:List V):Prop :=
  Rd H a (.lst xs) ∨
    ∃ (o:Obj) (its:Array Value) (n:Nat),K.lookup a=some o∧o.cls=.type "list"∧o.dict=none∧o.data=.seq its n∧its.size≤sizeLine∧Vals xs its.toList
noncomputable def SqT (K:PySem.W.Frag) (H:Hp) (a:Addr) (xs:List V):Prop :=
  Rd H a (.tup xs) ∨
    ∃ (o:Obj) (its:Array Value) (n:Nat),K.lookup a=some o∧o.cls=.type "tuple"∧o.data=.seq its n∧its.size≤sizeLine∧Vals xs its.toList
noncomputable def absV:Value→Option V
  | .none=>some .non
  | .bool b=>some (.bl b)
  | .int i _=>some (.int i)
  | .str x _=>some (.str x)
  | .bytes b _=>some (.byt b)
  | .float b _=>some (.flt b)
  | .ref a=>some (.ref a)
  | .type n=>some (.ty n)
  | _=>none
theorem RelV.abs {x:V} {u:Value} (r:RelV x u):absV u=some x:=by
  cases x with
  | non=>cases r;rfl
  | bl _=>cases r;rfl
  | int _=>obtain⟨t,rfl⟩:=r;rfl
  | str _=>obtain⟨t,rfl⟩:=r;rfl
  | byt _=>obtain⟨t,rfl⟩:=r;rfl
  | flt _=>obtain⟨t,rfl⟩:=r;rfl
  | ref _=>cases r;rfl
  | ty _=>cases r;rfl
theorem RelV.inj {x y:V} {u:Value} (r:RelV x u) (q:RelV y u):x=y:=Option.some.inj (r.abs.symm.trans q.abs)
theorem Vals.inj:∀ {xs ys:List V} {us:List Value},Vals xs us→Vals ys us→xs=ys
  | _,_,_,.nil,.nil=>rfl
  | _,_,_,.cons r t,.cons r' t'=>by rw[r.inj r',Vals.inj t t']
section
variable {X:Cx} {pins:List (Addr×Obj)} {σ:St} {H:Hp} {s:Shared} {a:Addr} {xs ys:List V}
theorem SqL.of {K:PySem.W.Frag} (h:H a=some (.lst xs)):SqL K H a xs:=.inl (.inl h)
theorem Inv.list (I:Inv X pins σ H s) (h:SqL X.K H a xs):∃ its:List Value,Vals xs its∧PlainL s.heap a its.toArray∧xs.length≤sizeLine:=by
  rcases h with h | ⟨o,its,n,hk,hc,hd,hs,hz,r⟩
  · obtain⟨z,its,n,r,e⟩:=h.ok I.hok
    exact⟨its,r,⟨_,n,e,rfl,rfl,rfl⟩,z⟩
  · refine⟨its.toList,r,⟨o,n,I.kIn a o hk,hc,hd,by simpa using hs⟩,?_⟩
    have e:=r.length
    simp only[Array.length_toList] at e
    omega
theorem Inv.tuple (I:Inv X pins σ H s) (h:SqT X.K H a xs):∃ its:List Value,Vals xs its∧IsTup s.heap a its.toArray∧xs.length≤sizeLine:=by
  rcases h with h | ⟨o,its,n,hk,hc,hs,hz,r⟩
  · obtain⟨z,its,r,p⟩:=h.ok I.hok
    exact⟨its,r,p,z⟩
  · refine⟨its.toList,r,⟨o,I.kIn a o hk,hc,n,by simpa using hs⟩,?_⟩
    have e:=r.length
    simp only[Array.length_toList] at e
    omega
theorem Inv.list_inj (I:Inv X pins σ H s) (h:SqL X.K H a xs) (h':SqL X.K H a ys):xs=ys:=by
  obtain⟨its,r,⟨o,n,e,_,_,d⟩,_⟩:=I.list h
  obtain⟨its',r',⟨o',n',e',_,_,d'⟩,_⟩:=I.list h'
  rw[e] at e';cases e'
  rw[d] at d'
  injection d' with d1 _
  have:its=its':=by simpa using congrArg Array.toList d1
  subst this
  exact r.inj r'
theorem Inv.tuple_inj (I:Inv X pins σ H s) (h:SqT X.K H a xs) (h':SqT X.K H a ys):xs=ys:=by
  obtain⟨its,r,⟨o,e,_,n,d⟩,_⟩:=I.tuple h
  obtain⟨its',r',⟨o',e',_,n',d'⟩,_⟩:=I.tuple h'
  rw[e] at e';cases e'
  rw[d] at d'
  injection d' with d1 _
  have:its=its':=by simpa using congrArg Array.toList d1
  subst this
  exact r.inj r'
end
noncomputable abbrev Cx.wish (X:Cx) (E:Value→Shared→Prop):Cx:={ X with xe:=E }
noncomputable abbrev Cx.nox (X:Cx):Cx:=X.wish fun _ _=>False
theorem Cx.Ok.wish {X:Cx} (ok:X.Ok) (E:Value→Shared→Prop):(X.wish E).Ok :=
  ⟨ok.mod,ok.kind,ok.glob,ok.blt,ok.above,ok.inj,ok.has,ok.cab,ok.hd,ok.frames,ok.stk,ok.exf,ok.bs,ok.bsz,ok.noex,ok.exfs,ok.funs,ok.frf⟩
theorem Cx.Ok.unwish {X:Cx} {E:Value→Shared→Prop} (ok:(X.wish E).Ok):X.Ok :=
  ⟨ok.mod,ok.kind,ok.glob,ok.blt,ok.above,ok.inj,ok.has,ok.cab,ok.hd,ok.frames,ok.stk,ok.exf,ok.bs,ok.bsz,ok.noex,ok.exfs,ok.funs,ok.frf⟩
section
variable {X:Cx} {pins:List (Addr×Obj)} {σ:St} {H:Hp} {s:Shared} {E:Value→Shared→Prop}
theorem Inv.wish (I:Inv X pins σ H s) (E:Value→Shared→Prop):Inv (X.wish E) pins σ H s:=⟨I.ok.wish E,I.os,I.bare,I.base,I.loc,I.cell,I.free,I.freeC,I.pin,I.hok,I.len⟩
theorem Inv.unwish (I:Inv (X.wish E) pins σ H s):Inv X pins σ H s:=⟨I.ok.unwish,I.os,I.bare,I.base,I.loc,I.cell,I.free,I.freeC,I.pin,I.hok,I.len⟩
theorem SP.unwish {D:Ends} {f:Flow} {s':Shared} (h:SP (X.wish E) pins D f s'):SP X pins D f s':=by
  cases f with
  | next=>obtain⟨σ',H',I,q⟩:=h;exact⟨σ',H',I.unwish,q⟩
  | brk=>obtain⟨σ',H',I,q⟩:=h;exact⟨σ',H',I.unwish,q⟩
  | cont=>obtain⟨σ',H',I,q⟩:=h;exact⟨σ',H',I.unwish,q⟩
  | ret u=>obtain⟨v,σ',H',I,r,q⟩:=h;exact⟨v,σ',H',I.unwish,r,q⟩
theorem PSs.nox {st:List Stmt} {t:TS} (h:PSs X.nox st t):PSs X st t:=fun pins s σ H D I hw =>
  wpAny_mono (h pins s σ H D (I.wish _) hw) (fun _ _ q=>q.unwish) fun _ _ z=>False.elim z
end
section
variable {X:Cx} {st:Stmt} {rest:List Stmt} {t u:TS} {e:Expr} {te:TE} {pos:Pos}
noncomputable def tNext:TS:=fun D σ H=>D.nx σ H
noncomputable def tSeq (t u:TS):TS:=fun D σ H=>t { D with nx:=u D } σ H
theorem Zc4:PSs X [] tNext:=fun _ _ σ H _ I h=>wpAny_execs_nil ⟨σ,H,I,h⟩
theorem Za4 (h1:PS X st t) (h2:PSs X rest u):PSs X (st :: rest) (tSeq t u):=by
  intro pins s σ H D I h
  refine wpAny_execs_cons (thn (h1 pins s σ H { D with nx:=u D } I h) fun f s1 q=>?_)
  cases f with
  | next =>
    obtain⟨σ',H',I',q⟩:=q
    exact h2 pins s1 σ' H' D I' q
  | ret v=>exact q
  | brk=>exact q
  | cont=>exact q
theorem Za8 (h1:PS X st t):PSs X [st] t:=by
  intro pins s σ H D I h
  refine wpAny_execs_cons (thn (h1 pins s σ H D I h) fun f s1 q=>?_)
  cases f with
  | next=>exact wpAny_execs_nil q
  | ret v=>exact q
  | brk=>exact q
  | cont=>exact q
theorem Inv.quiet {pins:List (Addr×Obj)} {σ:St} {H:Hp} {s:Shared} (I:Inv X pins σ H s):interactive X.env=false:=by simp[interactive,I.ok.kind]
noncomputable def tDrop (te:TE):TS:=fun D σ H=>te σ H fun _ H1=>D.nx σ H1
theorem ps_expr (he:PE X e te) (hs:swapsWith e none pos.line X.env=pure false:=by rfl):PS X (.Expr e pos) (tDrop te):=by
  intro pins s σ H D I h
  exact wpAny_Expr_any (thn (he pins s σ H _ I h) fun v s1 ⟨x,H1,I1,r1,q1⟩=>⟨σ,H1,I1,q1⟩) I.quiet hs
noncomputable def tRet (te:TE):TS:=fun D σ H=>te σ H D.rt
theorem Zb4 (he:PE X e te):PS X (.Return (some e) pos) (tRet te):=by
  intro pins s σ H D I h
  exact wpAny_Return_some (thn (he pins s σ H _ I h) fun v s1 ⟨x,H1,I1,r1,q1⟩=>⟨x,σ,H1,I1,r1,q1⟩)
noncomputable def tIfS (c:TT) (t u:TS):TS:=fun D σ H=>c σ H fun b H1=>if b=true then t D σ H1 else u D σ H1
theorem Zd9 {c:Expr} {a b:List Stmt} {tc:TT} (hc:PT X c tc) (ha:PSs X a t) (hb:PSs X b u):PS X (.If c a b pos) (tIfS tc t u):=by
  intro pins s σ H D I h
  refine wpAny_If (thn (hc pins s σ H _ I h) fun d s1 ⟨H1,I1,q1⟩=>?_)
  cases d with
  | true=>exact ha pins s1 σ H1 D I1 q1
  | false=>exact hb pins s1 σ H1 D I1 q1
noncomputable def tNever:TS:=fun _ _ _=>False
theorem ps_never:PS X st tNever:=fun _ _ _ _ _ _ h=>h.elim
end
noncomputable abbrev TG:=V→St→Hp→(St→Hp→Prop)→Prop
noncomputable abbrev TGs:=List V→St→Hp→(St→Hp→Prop)→Prop
noncomputable def PG (X:Cx) (target:Expr) (t:TG):Prop :=
  ∀ (pins:List (Addr×Obj)) (s:Shared) (σ:St) (H:Hp) (v:V) (u:Value) (Q:St→Hp→Prop),Inv X pins σ H s→RelV v u→t v σ H Q →
    wpAny (model X.prog X.w) X.A (assign target X.env u) (fun _ s'=>∃ σ' H',Inv X pins σ' H' s'∧Q σ' H') X.xe s
noncomputable def PGs (X:Cx) (ts:List Expr) (t:TGs):Prop :=
  ∀ (pins:List (Addr×Obj)) (s:Shared) (σ:St) (H:Hp) (vs:List V) (us:List Value) (Q:St→Hp→Prop),Inv X pins σ H s→Vals vs us→t vs σ H Q →
    wpAny (model X.prog X.w) X.A (assignInOrder ((assignEach ts X.env).map (·.2)) us) (fun _ s'=>∃ σ' H',Inv X pins σ' H' s'∧Q σ' H') X.xe s
section
variable {X:Cx} {pos:Pos}
noncomputable def gName (i:Nat):TG:=fun v σ H Q=>Q (σ.set i (some v)) H
theorem Zb5 {i:Nat} {x:Str} (hN:X.N.Nodup) (hi:X.N[i]?=some x) (hx:Loc X.env.scope x) (hf:X.fn x=true∨X.env.scope.names.lookup x=some .local:=by first | exact .inl rfl | exact .inr rfl | assumption):PG X (.Name x pos) (gName i):=by
  intro pins s σ H v u Q I r h
  exact wpAny_assign_Name (store_ok I hN hi hx r (fun s' I'=>⟨_,H,I',h⟩) hf)
noncomputable def gNil:TGs:=fun vs σ H Q=>vs=[]∧Q σ H
noncomputable def gCons (t:TG) (u:TGs):TGs:=fun vs σ H Q=>∃ v r,vs=v :: r∧t v σ H fun σ' H'=>u r σ' H' Q
theorem Zh4:PGs X [] gNil:=by
  intro pins s σ H vs us Q I r h
  obtain⟨e,h⟩:=h
  subst e
  cases r
  exact assignInOrder_nil ⟨σ,H,I,h⟩
theorem Zc9 {e:Expr} {es:List Expr} {t:TG} {u:TGs} (h1:PG X e t) (h2:PGs X es u)
    (hs:(assignEach (e :: es) X.env).map (·.2)=assign e X.env :: (assignEach es X.env).map (·.2):=by rfl):PGs X (e :: es) (gCons t u):=by
  intro pins s σ H vs us Q I r h
  obtain⟨v,vr,e1,h⟩:=h
  subst e1
  cases r with
  | cons r rr =>
    rw[hs]
    refine assignInOrder_cons (thn (h1 pins s σ H _ _ _ I r h) fun _ s1 ⟨σ1,H1,I1,q1⟩=>?_)
    exact h2 pins s1 σ1 H1 _ _ Q I1 rr q1
noncomputable def gTup (K:PySem.W.Frag) (n:Nat) (t:TGs):TG:=fun v σ H Q=>∃ a xs,v=.ref a∧SqT K H a xs∧xs.length=n∧t xs σ H Q
theorem pg_tup {es:List Expr} {k:Nat} {t:TGs} {n:Nat} (hc:X.calm=true) (h:PGs X es t)
    (hn:(assignEach es X.env).length=n:=by rfl) (hst:(assignEach es X.env).findIdx? (·.1)=none:=by rfl):PG X (.Tuple es k pos) (gTup X.K n t):=by
  intro pins s σ H v u Q I r hw
  obtain⟨a,xs,e1,hq,hl,hw⟩:=hw
  subst e1
  cases r
  obtain⟨its,rv,ht,hz⟩:=I.tuple hq
  refine assign_Tuple_tuple (I.ok.hd hc) ht (by simp[hn,← hl,rv.length]) hst fun h' hx=>?_
  have I1:Inv X pins σ H { s with heap:=h' }:=I.kept (t':=s.toks) fun b o e=>hx b o (Nat.ne_of_lt (Heap.lt_size e)) e
  exact h pins _ σ H xs _ Q I1 (by simpa using rv) hw
noncomputable def tAsg (te:TE) (g:TG):TS:=fun D σ H=>te σ H fun x H1=>g x σ H1 D.nx
theorem ps_asg {tg e:Expr} {te:TE} {g:TG} (he:PE X e te) (hg:PG X tg g) (hs:swapsWithSole [tg] e pos.line X.env=pure false:=by rfl) (hw:swappedStores [tg] e X.env=pure none:=by rfl)
    (h1:(assignEach [tg] X.env).map (·.2)=[assign tg X.env]:=by rfl):PS X (.Assign [tg] e pos) (tAsg te g):=by
  intro pins s σ H D I h
  refine wpAny_Assign_stores (thn (he pins s σ H _ I h) fun v s1 ⟨x,H1,I1,r1,q1⟩=>?_) hs hw
  rw[h1]
  exact thn (hg pins s1 σ H1 x v _ I1 r1 q1) fun _ s2 q=>q
theorem Zb2 {i:Nat} {x:Str} {e:Expr} {te:TE} {pos':Pos} (hN:X.N.Nodup) (hi:X.N[i]?=some x) (hx:Loc X.env.scope x) (he:PE X e te) (hs:swapsWith e (some (.Name x pos')) pos.line X.env=pure false:=by rfl) (hf:X.fn x=true∨X.env.scope.names.lookup x=some .local:=by first | exact .inl rfl | exact .inr rfl | assumption) :
    PS X (.Assign [.Name x pos'] e pos) (tAsg te (gName i)):=by
  intro pins s σ H D I h
  refine wpAny_Assign_Name (thn (he pins s σ H _ I h) fun v s1 ⟨y,H1,I1,r1,q1⟩=>?_) hs
  exact store_ok I1 hN hi hx r1 (fun s2 I2=>⟨_,H1,I2,q1⟩) hf
end
section
variable {X:Cx} {pos:Pos}
noncomputable def tWhile (c:TT) (tb:TS):TS:=fun D σ H=>∃ W:Nat→St→Hp→Prop,(∃ m,W m σ H)∧∀ m σ H,W m σ H →
  c σ H fun b H1=>if b=true then ∃ N:St→Hp→Prop,(∀ σ' H',N σ' H'→∃ m',m' < m∧W m' σ' H')∧tb { D with nx:=N,ct:=N,bk:=D.nx } σ H1 else D.nx σ H1
theorem ps_while {c:Expr} {body:List Stmt} {tc:TT} {tb:TS} (hp:PassesOwn (model X.prog X.w) X.A X.env X.xe) (hc:PT X c tc) (hb:PSs X body tb):PS X (.While c body [] pos) (tWhile tc tb):=by
  intro pins s σ H D I h
  obtain⟨W,⟨m0,w0⟩,turn⟩:=h
  refine wpAny_While (codeAny_whileLoop (fun n s'=>∃ σ' H',Inv X pins σ' H' s'∧W n σ' H') ?_ m0 ⟨σ,H,I,w0⟩)
  rintro n s1 ⟨σ1,H1,I1,w1⟩
  refine wpAny_passesOwn hp (thn (hc pins s1 σ1 H1 _ I1 (turn n σ1 H1 w1)) fun b s2 ⟨H2,I2,q2⟩=>?_)
  cases b with
  | true =>
    obtain⟨N,hN,q2⟩:=q2
    rw[if_pos rfl]
    refine wpAny_passesOwn hp (thn (hb pins s2 σ1 H2 _ I2 q2) fun f s3 q3=>?_)
    cases f with
    | next =>
      obtain⟨σ3,H3,I3,n3⟩:=q3
      obtain⟨m',hm,w3⟩:=hN σ3 H3 n3
      exact⟨m',hm,σ3,H3,I3,w3⟩
    | cont =>
      obtain⟨σ3,H3,I3,n3⟩:=q3
      obtain⟨m',hm,w3⟩:=hN σ3 H3 n3
      exact⟨m',hm,σ3,H3,I3,w3⟩
    | brk=>exact q3
    | ret v=>exact q3
  | false =>
    rw[if_neg Bool.false_ne_true]
    exact wpAny_execs_nil ⟨σ1,H2,I2,q2⟩
end
structure It where
  go:Nat→Hp→Prop
  yld:Nat→Hp→V→Hp→Prop
  stop:Nat→Hp→Prop
noncomputable def FpOk (X:Cx) (pins:List (Addr×Obj)) (H:Hp) (b:Addr):Prop :=
  H b=none∧b≠X.env.locals∧b ∉ X.fs∧(b∈X.ex∨X.s₀.heap.objs.size≤b)∧(∀ x c,X.env.cells.lookup x=some c→c≠b)∧∀ p∈X.pn++pins,p.1≠b
theorem Inv.fpOk {X:Cx} {pins:List (Addr×Obj)} {σ:St} {H H':Hp} {s:Shared} {b:Addr} (I:Inv X pins σ H s) (hb:s.heap.objs.size≤b) (hn:H' b=none):FpOk X pins H' b:=by
  refine⟨hn,Nat.ne_of_gt (Nat.lt_of_lt_of_le I.lt hb),I.nofs hb,.inr (Nat.le_trans I.sz hb),fun x c e z=>?_,fun p hp z=>?_⟩
  · obtain⟨v,q⟩:=I.cell x c e
    exact absurd (Nat.lt_of_lt_of_le q.lt (by rw[z];exact hb)) (Nat.lt_irrefl _)
  · exact absurd (Nat.lt_of_lt_of_le (Heap.lt_size (I.pin p hp).1) (by rw[z];exact hb)) (Nat.lt_irrefl _)
structure Turn (P:Program) (w:World) (K:PySem.W.Frag) (tg:Expr) (J:It) (fp:List Addr) (it:Addr) (tn:Nat→Heap→Prop):Prop where
  mem:it∈fp
  obj:∀ i h,tn i h→∀ b∈fp,∃ o,h.get? b=some o∧∀ v,o.data≠.cell v
  keep:∀ i h h',tn i h→(∀ b∈fp,∀ o,h.get? b=some o→h'.get? b=some o)→tn i h'
  item:∀ (X:Cx),X.prog=P→X.w=w→X.K=K→X.calm=true→∀ (i:Nat) (pins:List (Addr×Obj)) (s:Shared) (σ:St) (H:Hp) (E:Value→Shared→Prop),Inv X pins σ H s→(∀ b∈fp,FpOk X pins H b)→tn i s.heap→J.go i H →
    wpAny (model P w) X.A (pyNext (.ref it)) (fun r s1=>∃ u,r=some u ∧
      wpAny (model P w) X.A (letOwnedTupleGo tg (.ref it) u) (fun _ s2=>∃ x H',Inv X pins σ H' s2∧RelV x u∧J.yld i H x H'∧tn (i+1) s2.heap∧∀ b∈fp,H' b=none) E s1) E s
  done:∀ (X:Cx),X.prog=P→X.w=w→X.K=K→X.calm=true→∀ (i:Nat) (pins:List (Addr×Obj)) (s:Shared) (σ:St) (H:Hp) (E:Value→Shared→Prop),Inv X pins σ H s→(∀ b∈fp,FpOk X pins H b)→tn i s.heap→J.stop i H →
    wpAny (model P w) X.A (pyNext (.ref it)) (fun r s1=>r=none∧Inv X pins σ H s1) E s
  self:∀ (A:Around) (i:Nat) (s:Shared) (Q:Value→Shared→Prop) (E:Value→Shared→Prop),tn i s.heap→Q (.ref it) s→wpAny (model P w) A (pyIter (.ref it)) Q E s
noncomputable abbrev TI:=St→Hp→(It→Hp→Prop)→Prop
noncomputable def PIE (X:Cx) (pins:List (Addr×Obj)) (σ:St) (tg:Expr) (R:It→Hp→Prop) (itv:Value) (s2:Shared):Prop :=
  ∃ (it:Addr) (fp:List Addr) (tn:Nat→Heap→Prop) (J:It) (H':Hp),itv=.ref it∧Inv X pins σ H' s2∧Turn X.prog X.w X.K tg J fp it tn∧tn 0 s2.heap∧(∀ b∈fp,FpOk X pins H' b)∧R J H'
noncomputable def PI (X:Cx) (tg iter:Expr) (wi:TI):Prop :=
  ∀ (pins:List (Addr×Obj)) (s:Shared) (σ:St) (H:Hp) (R:It→Hp→Prop),Inv X pins σ H s→wi σ H R →
    wpAny (model X.prog X.w) X.A (eval iter X.env) (fun v s1=>wpAny (model X.prog X.w) X.A (pyIter v) (PIE X pins σ tg R) X.xe s1) X.xe s
theorem go_of {M:Model} {A:Around} {E:Value→Shared→Prop} {s:Shared} {tg:Expr} {it:Addr} {u:Value} {o:Obj} {n:String} {vs:Array Value} {Q:Unit→Shared→Prop} (ho:s.heap.get? it=some o) (hc:o.cls=.type n) (hd:o.data=.fields vs)
    (hn:["enumerate","zip","dict_itemiterator","dict_reverseitemiterator","odict_iterator","itertools.zip_longest","itertools.pairwise"].contains n=false) (hQ:Q () s):wpAny M A (letOwnedTupleGo tg (.ref it) u) Q E s:=by
  unfold letOwnedTupleGo
  cases tg<;>first
    | exact wpAny_pure hQ
    | (cases u<;>first
        | exact wpAny_pure hQ
        | (refine wpAny_bind (wpAny_load ho ?_)
           rw[hc,hd]
           show wpAny M A (if (["enumerate","zip","dict_itemiterator","dict_reverseitemiterator","odict_iterator","itertools.zip_longest","itertools.pairwise"].contains n&&vs[0]? == some (rawInt _))=true then _ else _) Q E s
           rw[if_neg (by intro h;rw[hn,Bool.false_and] at h;cases h)]
           exact wpAny_pure hQ))
noncomputable def Itl (K:PySem.W.Frag) (a:Addr):It :=
  ⟨fun i H=>∃ xs x,SqL K H a xs∧xs[i]?=some x,fun i H x H'=>H'=H∧∀ xs,SqL K H a xs→xs[i]?=some x,fun i H=>∃ xs,SqL K H a xs∧xs.length≤i⟩
noncomputable def Itr (lo:Int) (n:Nat):It:=⟨fun i _=>i < n,fun i H x H'=>H'=H∧x=.int (lo+i),fun i _=>n≤i⟩
theorem turn_list {P:Program} {w:World} {K:PySem.W.Frag} {tg:Expr} (a it:Addr):Turn P w K tg (Itl K a) [it] it (fun i h=>h.IsListIter it a i) where
  mem:=by simp
  obj:=fun i h st b hb=>by
    have e:b=it:=by simpa using hb
    subst e
    obtain⟨o,e,c,d⟩:=st
    exact⟨o,e,fun v z=>by rw[d] at z;cases z⟩
  keep:=fun i h h' st k=>st.at fun o e=>k it (by simp) o e
  item:=by
    intro X hP hw hK hc i pins s σ H E I hf st hg
    subst hP hw hK
    obtain⟨xs,x,hq,hx⟩:=hg
    obtain⟨its,rv,p,hz⟩:=I.list hq
    obtain⟨u,hu,ru⟩:=rv.get hx
    obtain⟨f0,f1,f2,f3,f4,f5⟩:=hf it (by simp)
    refine wpAny_pyNext_list_item st p.isList (x:=u) (by simpa using hu) fun h' st' sb=>?_
    have I1:Inv X pins σ H { s with heap:=h' }:=I.turned (t':=s.toks) (fun b o hb e=>(sb.2 b hb).trans e) f0 f1 f3 f4 f5
    obtain⟨o,e,c,d⟩:=id st'
    exact⟨u,rfl,go_of (s:={ s with heap:=h' }) e c d (by decide) ⟨x,H,I1,ru,⟨rfl,fun ys hy=>by rw[I.list_inj hy hq];exact hx⟩,st',fun b hb=>(hf b hb).1⟩⟩
  done:=by
    intro X hP hw hK hc i pins s σ H E I hf st hg
    subst hP hw hK
    obtain⟨xs,hq,hx⟩:=hg
    obtain⟨its,rv,p,hz⟩:=I.list hq
    obtain⟨f0,f1,f2,f3,f4,f5⟩:=hf it (by simp)
    have hl:=rv.length
    exact wpAny_pyNext_list_end (I.ok.hd hc) st p.isList (by simp;omega) fun h' eb=>⟨rfl,I.turned (t':=s.toks) (fun b o hb e=>eb b o hb e) f0 f1 f3 f4 f5⟩
  self:=fun _ _ _ _ _ st h=>wpAny_pyIter_listiter st h
theorem turn_range {P:Program} {w:World} {K:PySem.W.Frag} {tg:Expr} (it:Addr) (lo:Int) (n:Nat):Turn P w K tg (Itr lo n) [it] it (fun i h=>IsRangeIter h it (lo+(i:Nat)*1) ((n:Int) - (i:Nat)) 1) where
  mem:=by simp
  obj:=fun i h st b hb=>by
    have e:b=it:=by simpa using hb
    subst e
    exact⟨_,st,fun v z=>by
      have z':Data.fields _=Data.cell v:=z
      cases z'⟩
  keep:=fun i h h' st k=>k it (by simp) _ st
  item:=by
    intro X hP hw hK hc i pins s σ H E I hf st hg
    subst hP hw hK
    obtain⟨f0,f1,f2,f3,f4,f5⟩:=hf it (by simp)
    have W:=Walks.range (prog:=X.prog) (w:=X.w) (I.ok.hd hc) it lo 1 n
    refine W.item i s _ _ hg st fun v h' tk hv st' kk=>?_
    obtain⟨t,rfl⟩:=hv
    have I1:Inv X pins σ H { s with heap:=h',toks:=tk }:=I.turned (fun b o hb e=>kk b o (by simpa using hb) e) f0 f1 f3 f4 f5
    refine⟨_,rfl,go_of (s:={ s with heap:=h',toks:=tk }) (n:="range_iterator") st' rfl rfl (by decide) ⟨.int (lo+i),H,I1,⟨t,?_⟩,⟨rfl,rfl⟩,st',fun b hb=>(hf b hb).1⟩⟩
    rw[Int.mul_one]
  done:=by
    intro X hP hw hK hc i pins s σ H E I hf st hg
    subst hP hw hK
    obtain⟨f0,f1,f2,f3,f4,f5⟩:=hf it (by simp)
    exact wpAny_pyNext_range_end (I.ok.hd hc) st (by have:n≤i:=hg;omega) fun h' eb=>⟨rfl,I.turned (t':=s.toks) (fun b o hb e=>eb b o hb e) f0 f1 f3 f4 f5⟩
  self:=fun _ _ _ _ _ st h=>wpAny_pyIter_rangeiter st h
end L2
namespace L2
open PySem PySem.Spec PyProof.Rows
section
variable {X:Cx} {tg:Expr}
noncomputable def iList (K:PySem.W.Frag) (tl:TE):TI:=fun σ H R=>tl σ H fun x H1=>∃ a,x=.ref a∧(∃ xs,SqL K H1 a xs)∧R (Itl K a) H1
theorem Ze4 {l:Expr} {tl:TE} (hl:PE X l tl):PI X tg l (iList X.K tl):=by
  intro pins s σ H R I h
  refine thn (hl pins s σ H _ I h) fun v s1 ⟨x,H1,I1,r1,q1⟩=>?_
  obtain⟨a,e,⟨xs,hq⟩,q⟩:=q1
  subst e
  cases r1
  obtain⟨its,rv,p,hz⟩:=I1.list hq
  refine wpAny_pyIter_list p.isList ?_
  refine⟨s1.heap.objs.size,[s1.heap.objs.size],_,_,H1,rfl,I1.kept (t':=s1.toks) fun b o e=>Heap.get?_push_of_some _ e,turn_list a _,⟨_,Heap.get?_push_size _ rfl,rfl,rfl⟩,fun b hb=>?_,q⟩
  have e:b=s1.heap.objs.size:=by simpa using hb
  subst e
  exact I1.fpOk (Nat.le_refl _) (I1.hok.fresh (Nat.le_refl _))
theorem range_it {pins:List (Addr×Obj)} {σ:St} {H:Hp} {s:Shared} {R:It→Hp→Prop} {E:Value→Shared→Prop} {lo hi:Int} {t u v:Tok} {tk:Nat} (I:Inv X pins σ H s) (h1:-(2 ^ 62)≤lo) (h2:lo < 2 ^ 62) (h3:-(2 ^ 62)≤hi) (h4:hi < 2 ^ 62)
    (q:R (Itr lo (hi - lo).toNat) H):wpAny (model X.prog X.w) X.A (pyIter (.ref s.heap.objs.size)) (PIE X pins σ tg R) E { s with heap:=s.heap.push { cls:=.type "range",data:=.fields #[.int lo t,.int hi u,.int 1 v] },toks:=tk }:=by
  refine wpAny_pyIter_range (IsRange.new ..) (small_one h1 h2 h3 h4) ?_
  have I1:Inv X pins σ H { s with heap:=s.heap.push { cls:=.type "range",data:=.fields #[.int lo t,.int hi u,.int 1 v] },toks:=tk }:=I.kept fun b o e=>Heap.get?_push_of_some _ e
  refine⟨(s.heap.push { cls:=.type "range",data:=.fields #[.int lo t,.int hi u,.int 1 v] }).objs.size,[(s.heap.push { cls:=.type "range",data:=.fields #[.int lo t,.int hi u,.int 1 v] }).objs.size],_,_,H,rfl,
    I1.kept (t':=tk) fun b o e=>Heap.get?_push_of_some _ e,turn_range _ lo (hi - lo).toNat,?_,fun b hb=>?_,q⟩
  · have e1:lo+((0:Nat):Int)*1=lo:=by simp
    have e2:(((hi - lo).toNat:Nat):Int) - ((0:Nat):Int)=Builtin.Range.rangeSize lo hi 1:=by rw[rangeSize_one];split<;>omega
    show IsRangeIter _ _ (lo+((0:Nat):Int)*1) ((((hi - lo).toNat:Nat):Int) - ((0:Nat):Int)) 1
    rw[e1,e2]
    exact Heap.get?_push_size _ rfl
  · have e:b=(s.heap.push { cls:=.type "range",data:=.fields #[.int lo t,.int hi u,.int 1 v] }).objs.size:=by simpa using hb
    subst e
    exact I1.fpOk (Nat.le_refl _) (I1.hok.fresh (Nat.le_refl _))
noncomputable def iRng1 (ta:TA):TI:=fun σ H R=>ta σ H fun vs H1=>∃ j:Int,vs=[.int j]∧-(2 ^ 62)≤j∧j < 2 ^ 62∧R (Itr 0 j.toNat) H1
noncomputable def iRng2 (ta:TA):TI:=fun σ H R=>ta σ H fun vs H1=>∃ i j:Int,vs=[.int i,.int j]∧(-(2 ^ 62)≤i∧i < 2 ^ 62∧-(2 ^ 62)≤j∧j < 2 ^ 62)∧R (Itr i (j - i).toNat) H1
theorem pi_range1 {a:Expr} {ta:TA} {p pos:Pos} (hg:Gl X "range") (hm:X.mg "range"=none) (ha:PA X [a] ta) (hs:starEach [a] X.env=[(false,eval a X.env)]:=by rfl):PI X tg (.Call (.Name "range" p) [a] [] pos) (iRng1 ta):=by
  intro pins s σ H R I h
  refine Call_ (ld_blt I hg hm boot_range (PyProof.Rows.callWith_type1 (thn (ha pos pins s σ H _ I h) fun us s1 ⟨vs,H1,I1,r1,q1⟩=>?_) hs rfl))
  obtain⟨j,e,q1,q2,q⟩:=q1
  subst e
  cases r1 with
  | cons r rr =>
    cases rr
    obtain⟨t,rfl⟩:=r
    exact call_range_1 (range_it I1 (by omega) (by omega) q1 q2 (by simpa using q))
theorem pi_range2 {a b:Expr} {ta:TA} {p pos:Pos} (hg:Gl X "range") (hm:X.mg "range"=none) (ha:PA X [a,b] ta) (hs:starEach [a,b] X.env=[(false,eval a X.env),(false,eval b X.env)]:=by rfl) (hs2:starEach [b] X.env=[(false,eval b X.env)]:=by rfl) :
    PI X tg (.Call (.Name "range" p) [a,b] [] pos) (iRng2 ta):=by
  intro pins s σ H R I h
  refine Call_ (ld_blt I hg hm boot_range (PyProof.Rows.callWith_type1 (thn (ha pos pins s σ H _ I h) fun us s1 ⟨vs,H1,I1,r1,q1⟩=>?_) (by rw[hs,hs2]) (by rw[hs2];rfl)))
  obtain⟨i,j,e,⟨q1,q2,q3,q4⟩,q⟩:=q1
  subst e
  cases r1 with
  | cons r rr =>
    cases rr with
    | cons r' rr =>
      cases rr
      obtain⟨t,rfl⟩:=r
      obtain⟨t',rfl⟩:=r'
      exact call_range_2 (range_it I1 q1 q2 q3 q4 q)
noncomputable def tFor (wi:TI) (g:TG) (tb:TS):TS:=fun D σ H=>wi σ H fun J H1=>∃ W:Nat→Nat→St→Hp→Prop,(∃ m,W 0 m σ H1)∧∀ i m σ H,W i m σ H →
  (J.stop i H∧D.nx σ H)∨(J.go i H∧∃ N:St→Hp→Prop,(∀ σ' H',N σ' H'→∃ m',m' < m∧W (i+1) m' σ' H')∧∀ x H',J.yld i H x H'→g x σ H' fun σ2 H2=>tb { D with nx:=N,ct:=N,bk:=D.nx } σ2 H2)
noncomputable def pinsAt (fp:List Addr) (h:Heap):List (Addr×Obj):=fp.filterMap fun b=>(h.get? b).map fun o=>(b,o)
theorem Zh3 {fp:List Addr} {h:Heap} {b:Addr} {o:Obj} (hb:b∈fp) (e:h.get? b=some o):(b,o)∈pinsAt fp h:=List.mem_filterMap.mpr ⟨b,hb,by rw[e];rfl⟩
theorem of_pinsAt {fp:List Addr} {h:Heap} {p:Addr×Obj} (hp:p∈pinsAt fp h):p.1∈fp∧h.get? p.1=some p.2:=by
  obtain⟨b,hb,e⟩:=List.mem_filterMap.mp hp
  cases q:h.get? b with
  | none=>rw[q] at e;cases e
  | some o =>
    rw[q] at e
    have e':(b,o)=p:=Option.some.inj e
    subst e'
    exact⟨hb,q⟩
theorem Inv.pinned {pins:List (Addr×Obj)} {σ:St} {H:Hp} {s:Shared} {fp:List Addr} (I:Inv X pins σ H s) (hf:∀ b∈fp,FpOk X pins H b) (ho:∀ b∈fp,∃ o,s.heap.get? b=some o∧∀ v,o.data≠.cell v):Inv X (pins++pinsAt fp s.heap) σ H s :=
  I.pins_of fun p hp=>(List.mem_append.mp hp).elim (fun z=>I.pin p (List.mem_append_right _ z)) fun z=>by
    obtain⟨hb,e⟩:=of_pinsAt z
    obtain⟨f0,f1,f2,_⟩:=hf p.1 hb
    obtain⟨o,e',d⟩:=ho p.1 hb
    rw[e] at e';cases e'
    exact⟨e,f0,f1,f2,d⟩
theorem Inv.unpinned {pins pl:List (Addr×Obj)} {σ:St} {H:Hp} {s:Shared} (I:Inv X (pins++pl) σ H s):Inv X pins σ H s:=I.pins_of fun p hp=>I.pin p (List.mem_append_right _ (List.mem_append_left _ hp))
theorem ps_for {iter:Expr} {body:List Stmt} {wi:TI} {g:TG} {tb:TS} {pos:Pos} (hp:PassesOwn (model X.prog X.w) X.A X.env X.xe) (hc:X.calm=true) (hi:PI X tg iter wi) (hg:PG X tg g) (hb:PSs X body tb)
    (hs:∀ x,foldedSetIterable iter X.env x=pure x:=by intro _;rfl):PS X (.For tg iter body [] pos) (tFor wi g tb):=by
  intro pins s σ H D I h
  refine wpAny_For (thn (hi pins s σ H _ I h) fun v s1 h1=>thn h1 fun itv s2 h2=>?_) hs
  obtain⟨it,fp,tn,J,H2,e,I2,T,st2,f2,W,⟨m0,w0⟩,turn⟩:=h2
  subst e
  have stat:∀ {H':Hp},(∀ b∈fp,H' b=none)→∀ b∈fp,FpOk X pins H' b:=fun hn b hb=>⟨hn b hb,(f2 b hb).2⟩
  refine codeAny_forLoop_any (fun n s'=>∃ i σ' H',Inv X pins σ' H' s'∧tn i s'.heap∧(∀ b∈fp,H' b=none)∧W i n σ' H') ?_ m0 ⟨0,σ,H2,I2,st2,fun b hb=>(f2 b hb).1,w0⟩
  rintro n s3 ⟨i,σ3,H3,I3,st3,fr3,w3⟩
  rcases turn i n σ3 H3 w3 with ⟨stop,qn⟩ | ⟨go,N,hN,step⟩
  · refine wpAny_passesOwn hp (thn (T.done X rfl rfl rfl hc i pins s3 σ3 H3 X.xe I3 (stat fr3) st3 stop) fun r s4 ⟨hr,I4⟩=>?_)
    subst hr
    exact wpAny_execs_nil ⟨σ3,H3,I4,qn⟩
  · refine wpAny_passesOwn hp (thn (T.item X rfl rfl rfl hc i pins s3 σ3 H3 X.xe I3 (stat fr3) st3 go) fun r s4 ⟨u,hr,h4⟩=>?_)
    subst hr
    refine wpAny_passesOwn hp (thn h4 fun _ s5 ⟨x,H5,I5,r5,y5,st5,fr5⟩=>?_)
    have I5':=I5.pinned (stat fr5) (T.obj _ _ st5)
    refine wpAny_passesOwn hp (thn (hg _ s5 σ3 H5 x u _ I5' r5 (step x H5 y5)) fun _ s6 ⟨σ6,H6,I6,q6⟩=>?_)
    refine wpAny_passesOwn hp (thn (hb _ s6 σ6 H6 _ I6 q6) fun f s7 q7=>?_)
    have again:∀ {σ7:St} {H7:Hp},Inv X (pins++pinsAt fp s5.heap) σ7 H7 s7→N σ7 H7→∃ m,m < n∧∃ i σ' H',Inv X pins σ' H' s7∧tn i s7.heap∧(∀ b∈fp,H' b=none)∧W i m σ' H':=fun {σ7 H7} I7 n7=>by
      obtain⟨m',hm,w7⟩:=hN σ7 H7 n7
      refine⟨m',hm,i+1,σ7,H7,I7.unpinned,T.keep _ _ _ st5 fun b hb o e=>(I7.pin (b,o) (List.mem_append_right _ (List.mem_append_right _ (Zh3 hb e)))).1,fun b hb=>?_,w7⟩
      obtain⟨o,e,d⟩:=T.obj _ _ st5 b hb
      exact (I7.pin (b,o) (List.mem_append_right _ (List.mem_append_right _ (Zh3 hb e)))).2.1
    cases f with
    | next=>obtain⟨σ7,H7,I7,n7⟩:=q7;exact again I7 n7
    | cont=>obtain⟨σ7,H7,I7,n7⟩:=q7;exact again I7 n7
    | brk=>obtain⟨σ7,H7,I7,q7⟩:=q7;exact⟨σ7,H7,I7.unpinned,q7⟩
    | ret v=>obtain⟨x7,σ7,H7,I7,r7,q7⟩:=q7;exact⟨x7,σ7,H7,I7.unpinned,r7,q7⟩
end
theorem for_list {K:PySem.W.Frag} {a:Addr} {xs:List V} {g:TG} {tb:TS} {D:Ends} {σ:St} {H:Hp} (Pv:Nat→St→Hp→Prop) (h0:Pv 0 σ H) (hl:∀ i σ H,i≤xs.length→Pv i σ H→SqL K H a xs)
    (hs:∀ i x σ H,xs[i]?=some x→Pv i σ H→g x σ H fun σ2 H2=>tb { D with nx:=Pv (i+1),ct:=Pv (i+1),bk:=D.nx } σ2 H2) (hd:∀ σ H,Pv xs.length σ H→D.nx σ H) :
    ∃ W:Nat→Nat→St→Hp→Prop,(∃ m,W 0 m σ H)∧∀ i m σ H,W i m σ H →
      ((Itl K a).stop i H∧D.nx σ H)∨((Itl K a).go i H∧∃ N:St→Hp→Prop,(∀ σ' H',N σ' H'→∃ m',m' < m∧W (i+1) m' σ' H')∧∀ x H',(Itl K a).yld i H x H'→g x σ H' fun σ2 H2=>tb { D with nx:=N,ct:=N,bk:=D.nx } σ2 H2):=by
  refine⟨fun i m σ H=>m=xs.length - i∧i≤xs.length∧Pv i σ H,⟨xs.length,by simp,Nat.zero_le _,h0⟩,?_⟩
  rintro i m σ H ⟨rfl,hi,p⟩
  have q:=hl i σ H hi p
  by_cases hlt:i < xs.length
  · refine .inr ⟨⟨xs,xs[i],q,by simp[hlt]⟩,Pv (i+1),fun σ' H' p'=>⟨xs.length - (i+1),by omega,rfl,hlt,p'⟩,fun x H' y=>?_⟩
    obtain⟨e,y⟩:=y
    subst e
    exact hs i x σ _ (y xs q) p
  · have e:i=xs.length:=by omega
    subst e
    exact .inl ⟨⟨xs,q,Nat.le_refl _⟩,hd σ H p⟩
theorem for_range {lo:Int} {n:Nat} {g:TG} {tb:TS} {D:Ends} {σ:St} {H:Hp} (Pv:Nat→St→Hp→Prop) (h0:Pv 0 σ H)
    (hs:∀ i σ H,i < n→Pv i σ H→g (.int (lo+i)) σ H fun σ2 H2=>tb { D with nx:=Pv (i+1),ct:=Pv (i+1),bk:=D.nx } σ2 H2) (hd:∀ σ H,Pv n σ H→D.nx σ H) :
    ∃ W:Nat→Nat→St→Hp→Prop,(∃ m,W 0 m σ H)∧∀ i m σ H,W i m σ H →
      ((Itr lo n).stop i H∧D.nx σ H)∨((Itr lo n).go i H∧∃ N:St→Hp→Prop,(∀ σ' H',N σ' H'→∃ m',m' < m∧W (i+1) m' σ' H')∧∀ x H',(Itr lo n).yld i H x H'→g x σ H' fun σ2 H2=>tb { D with nx:=N,ct:=N,bk:=D.nx } σ2 H2):=by
  refine⟨fun i m σ H=>m=n - i∧i≤n∧Pv i σ H,⟨n,by simp,Nat.zero_le _,h0⟩,?_⟩
  rintro i m σ H ⟨rfl,hi,p⟩
  by_cases hlt:i < n
  · refine .inr ⟨hlt,Pv (i+1),fun σ' H' p'=>⟨n - (i+1),by omega,rfl,hlt,p'⟩,fun x H' y=>?_⟩
    obtain⟨e,y⟩:=y
    subst e y
    exact hs i σ _ hlt p
  · have e:i=n:=by omega
    subst e
    exact .inl ⟨Nat.le_refl _,hd σ H p⟩
end L2
namespace L2
open PySem PySem.Spec PyProof.Rows
noncomputable abbrev R2:=V→V→Hp→VK→Prop
noncomputable def OpR (X:Cx) (f:Value→Value→Sem Value) (r:R2):Prop :=
  ∀ (pins:List (Addr×Obj)) (s:Shared) (σ:St) (H:Hp) (x y:V) (v u:Value) (Q:VK),Inv X pins σ H s→RelV x v→RelV y u→r x y H Q →
    wpAny (model X.prog X.w) X.A (f v u) (EP X pins σ Q) X.xe s
noncomputable def UnR (X:Cx) (f:Value→Sem Value) (r:V→Hp→VK→Prop):Prop :=
  ∀ (pins:List (Addr×Obj)) (s:Shared) (σ:St) (H:Hp) (x:V) (v:Value) (Q:VK),Inv X pins σ H s→RelV x v→r x H Q →
    wpAny (model X.prog X.w) X.A (f v) (EP X pins σ Q) X.xe s
noncomputable def CallR (X:Cx) (f:Value) (r:List V→Hp→VK→Prop):Prop :=
  ∀ (pins:List (Addr×Obj)) (s:Shared) (σ:St) (H:Hp) (xs:List V) (us:List Value) (Q:VK),Inv X pins σ H s→Vals xs us→r xs H Q →
    wpAny (model X.prog X.w) X.A (call f us) (EP X pins σ Q) X.xe s
noncomputable def TruR (X:Cx) (r:V→Hp→(Bool→Hp→Prop)→Prop):Prop :=
  ∀ (pins:List (Addr×Obj)) (s:Shared) (σ:St) (H:Hp) (x:V) (v:Value) (Q:Bool→Hp→Prop),Inv X pins σ H s→RelV x v→r x H Q →
    wpAny (model X.prog X.w) X.A (truthy v) (TP X pins σ Q) X.xe s
noncomputable def tOp (r:R2) (ta tb:TE):TE:=fun σ H Q=>ta σ H fun x H1=>tb σ H1 fun y H2=>r x y H2 Q
noncomputable def tUn (r:V→Hp→VK→Prop) (ta:TE):TE:=fun σ H Q=>ta σ H fun x H1=>r x H1 Q
noncomputable def rI (C:Int→Int→Prop) (g:Int→Int→V):R2:=fun x y H Q=>∃ i j,x=.int i∧y=.int j∧C i j∧Q (g i j) H
noncomputable def rI0 (g:Int→Int→V):R2:=fun x y H Q=>∃ i j,x=.int i∧y=.int j∧Q (g i j) H
noncomputable def rU (g:Int→V):V→Hp→VK→Prop:=fun x H Q=>∃ i,x=.int i∧Q (g i) H
section
variable {X:Cx} {a b c:Expr} {ta tb tc:TE} {pos:Pos}
theorem binT (ha:PE X a ta) (hb:PE X b tb) {pins:List (Addr×Obj)} {s:Shared} {σ:St} {H:Hp} {R:V→V→Hp→Prop} (I:Inv X pins σ H s)
    (h:ta σ H fun x H1=>tb σ H1 fun y H2=>R x y H2) {Q:Value→Shared→Prop} {f:Value→Value→Sem Value}
    (hf:∀ v u s2 x y H2,Inv X pins σ H2 s2→RelV x v→RelV y u→R x y H2→wpAny (model X.prog X.w) X.A (f v u) Q X.xe s2) :
    wpAny (model X.prog X.w) X.A (eval a X.env) (fun v s₁=>wpAny (model X.prog X.w) X.A (eval b X.env) (fun u s₂=>wpAny (model X.prog X.w) X.A (f v u) Q X.xe s₂) X.xe s₁) X.xe s:=by
  refine thn (ha pins s σ H _ I h) fun v s1 ⟨x,H1,I1,r1,q1⟩=>?_
  refine thn (hb pins s1 σ H1 _ I1 q1) fun u s2 ⟨y,H2,I2,r2,q2⟩=>?_
  exact hf v u s2 x y H2 I2 r1 r2 q2
theorem Zc0 {op:Operator} {r:R2} (ho:OpR X (binaryOp op) r) (ha:PE X a ta) (hb:PE X b tb):PE X (.BinOp a op b pos) (tOp r ta tb):=by
  intro pins s σ H Q I h
  exact wpAny_BinOp (binT ha hb I h fun v u s2 x y H2 I2 rx ry q=>ho pins s2 σ H2 x y v u Q I2 rx ry q)
theorem pe_un {op:UnaryOp} {r:V→Hp→VK→Prop} (ho:UnR X (unaryOp op) r) (ha:PE X a ta):PE X (.UnaryOp op a pos) (tUn r ta):=by
  intro pins s σ H Q I h
  exact UnaryOp_ (thn (ha pins s σ H _ I h) fun v s1 ⟨x,H1,I1,r1,q1⟩=>ho pins s1 σ H1 x v Q I1 r1 q1)
theorem opI {f:Value→Value→Sem Value} {C:Int→Int→Prop} {g:Int→Int→Int}
    (rule:∀ (i j:Int) (t u:Tok) (s:Shared) (Q:Value→Shared→Prop) (E:Value→Shared→Prop),C i j→Q (.int (g i j) s.toks) { s with toks:=s.toks+1 }→wpAny (model X.prog X.w) X.A (f (.int i t) (.int j u)) Q E s) :
    OpR X f (rI C fun i j=>.int (g i j)):=by
  intro pins s σ H x y v u Q I rx ry h
  obtain⟨i,j,rfl,rfl,hc,q⟩:=h
  obtain⟨t,rfl⟩:=rx
  obtain⟨t',rfl⟩:=ry
  exact rule i j t t' s _ _ hc ⟨.int (g i j),H,I.tok _,⟨_,rfl⟩,q⟩
theorem opI0 {f:Value→Value→Sem Value} {g:Int→Int→Int}
    (rule:∀ (i j:Int) (t u:Tok) (s:Shared) (Q:Value→Shared→Prop) (E:Value→Shared→Prop),Q (.int (g i j) s.toks) { s with toks:=s.toks+1 }→wpAny (model X.prog X.w) X.A (f (.int i t) (.int j u)) Q E s) :
    OpR X f (rI0 fun i j=>.int (g i j)):=by
  intro pins s σ H x y v u Q I rx ry h
  obtain⟨i,j,rfl,rfl,q⟩:=h
  obtain⟨t,rfl⟩:=rx
  obtain⟨t',rfl⟩:=ry
  exact rule i j t t' s _ _ ⟨.int (g i j),H,I.tok _,⟨_,rfl⟩,q⟩
theorem opB0 {f:Value→Value→Sem Value} {g:Int→Int→Bool}
    (rule:∀ (i j:Int) (t u:Tok) (s:Shared) (Q:Value→Shared→Prop) (E:Value→Shared→Prop),Q (.bool (g i j)) s→wpAny (model X.prog X.w) X.A (f (.int i t) (.int j u)) Q E s) :
    OpR X f (rI0 fun i j=>.bl (g i j)):=by
  intro pins s σ H x y v u Q I rx ry h
  obtain⟨i,j,rfl,rfl,q⟩:=h
  obtain⟨t,rfl⟩:=rx
  obtain⟨t',rfl⟩:=ry
  exact rule i j t t' s _ _ ⟨.bl (g i j),H,I,rfl,q⟩
noncomputable def CDiv (i j:Int):Prop:=0 < j∧j < 1073741824
noncomputable def CMul (i j:Int):Prop:=(-(2 ^ 64) < i∧i < 2 ^ 64)∨(-(2 ^ 64) < j∧j < 2 ^ 64)
theorem CMul.ok {i j:Int} (h:CMul i j):IntMulOk i j:=by
  rcases h with ⟨h1,h2⟩ | ⟨h1,h2⟩
  · exact .of_left (intBits_le_64 h1 h2)
  · exact .of_right (intBits_le_64 h1 h2)
theorem Zf3:OpR X (binaryOp .Add) (rI0 fun i j=>.int (i+j)):=opI0 fun _ _ _ _ _ _ _ q=>add_int q
theorem op_sub:OpR X (binaryOp .Sub) (rI0 fun i j=>.int (i - j)):=opI0 fun _ _ _ _ _ _ _ q=>sub_int q
theorem op_mul:OpR X (binaryOp .Mult) (rI CMul fun i j=>.int (i*j)):=opI fun _ _ _ _ _ _ _ hc q=>mul_int q hc.ok
theorem Ze0:OpR X (binaryOp .FloorDiv) (rI CDiv fun i j=>.int (i / j)):=opI fun i j _ _ _ _ _ hc q=>by
  have h1:(0:Int) < j:=hc.1
  have h2:j < 1073741824:=hc.2
  exact floordiv_int (by omega) (by rw[Int.fdiv_eq_ediv_of_nonneg i (by omega)];exact q) (.inl (PyProof.noPylong_small (by omega)))
theorem Ze5:OpR X (binaryOp .Mod) (rI (fun _ j=>0 < j) fun i j=>.int (i % j)):=opI fun i j _ _ _ _ _ hc q=>by
  have h1:(0:Int) < j:=hc
  exact mod_int' (by omega) (by rw[Int.fmod_eq_emod_of_nonneg i (by omega)];exact q)
theorem unI {f:Value→Sem Value} {g:Int→Int}
    (rule:∀ (i:Int) (t:Tok) (s:Shared) (Q:Value→Shared→Prop) (E:Value→Shared→Prop),Q (.int (g i) s.toks) { s with toks:=s.toks+1 }→wpAny (model X.prog X.w) X.A (f (.int i t)) Q E s) :
    UnR X f (rU fun i=>.int (g i)):=by
  intro pins s σ H x v Q I rx h
  obtain⟨i,rfl,q⟩:=h
  obtain⟨t,rfl⟩:=rx
  exact rule i t s _ _ ⟨.int (g i),H,I.tok _,⟨_,rfl⟩,q⟩
theorem un_neg:UnR X (unaryOp .USub) (rU fun i=>.int (-i)):=unI fun _ _ _ _ _ q=>neg_int q
end
noncomputable def scal:V→V→Bool
  | .non,.non=>true | .non,.int _=>true | .int _,.non=>true | .non,.bl _=>true | .bl _,.non=>true | .non,.str _=>true | .str _,.non=>true
  | .int _,.int _=>true | .bl _,.bl _=>true | .str _,.str _=>true | .byt _,.byt _=>true
  | .int _,.str _=>true | .str _,.int _=>true | .bl _,.str _=>true | .str _,.bl _=>true
  | _,_=>false
noncomputable def rEq:R2:=fun x y H Q=>scal x y=true∧Q (.bl (decide (x=y))) H
noncomputable def rNe:R2:=fun x y H Q=>scal x y=true∧Q (.bl (!decide (x=y))) H
theorem dec_int {i j:Int}:decide (V.int i=V.int j)=(i == j):=by
  rw[Bool.eq_iff_iff]
  simp
theorem dec_bl {i j:Bool}:decide (V.bl i=V.bl j)=(i == j):=by
  rw[Bool.eq_iff_iff]
  simp
theorem dec_str {i j:Str}:decide (V.str i=V.str j)=(i == j):=by
  rw[Bool.eq_iff_iff]
  simp
theorem dec_byt {i j:Array UInt8}:decide (V.byt i=V.byt j)=(i.toList == j.toList):=by
  rw[Bool.eq_iff_iff]
  cases i
  cases j
  simp
section
variable {X:Cx} {a b c:Expr} {ta tb tc:TE} {pos:Pos}
theorem Ze1 {pins:List (Addr×Obj)} {σ:St} {H:Hp} {s:Shared} {Q:VK} {k k':Bool} (I:Inv X pins σ H s) (q:Q (.bl k) H) (e:k=k'):EP X pins σ Q (.bool k') s:=by
  subst e
  exact⟨.bl k,H,I,rfl,q⟩
theorem Zg2:OpR X (compareOp .Eq) rEq:=by
  intro pins s σ H x y v u Q I rx ry h
  obtain⟨hs,q⟩:=h
  cases x with
  | non =>
    cases rx
    cases y with
    | non=>cases ry;exact PySem.EqNone.eq_none_none (Ze1 I q (by simp))
    | bl j=>cases ry;exact PySem.EqNone.eq_none_bool (Ze1 I q (by simp))
    | int j=>obtain⟨t',rfl⟩:=ry;exact PySem.EqNone.eq_none_int (Ze1 I q (by simp))
    | str j=>obtain⟨t',rfl⟩:=ry;exact PySem.EqNone.eq_none_str (Ze1 I q (by simp))
    | _=>exact absurd (show false=true from hs) Bool.false_ne_true
  | bl i =>
    cases rx
    cases y with
    | non=>cases ry;exact PySem.EqNone.eq_bool_none (Ze1 I q (by simp))
    | bl j=>cases ry;exact eq_bool (Ze1 I q dec_bl)
    | str j=>obtain⟨t',rfl⟩:=ry;exact PySem.EqMixed.eq_bool_str (Ze1 I q (by simp))
    | _=>exact absurd (show false=true from hs) Bool.false_ne_true
  | int i =>
    obtain⟨t,rfl⟩:=rx
    cases y with
    | non=>cases ry;exact PySem.EqNone.eq_int_none (Ze1 I q (by simp))
    | int j=>obtain⟨t',rfl⟩:=ry;exact eq_int (Ze1 I q dec_int)
    | str j=>obtain⟨t',rfl⟩:=ry;exact PySem.EqMixed.eq_int_str (Ze1 I q (by simp))
    | _=>exact absurd (show false=true from hs) Bool.false_ne_true
  | str i =>
    obtain⟨t,rfl⟩:=rx
    cases y with
    | non=>cases ry;exact PySem.EqNone.eq_str_none (Ze1 I q (by simp))
    | bl j=>cases ry;exact PySem.EqMixed.eq_str_bool (Ze1 I q (by simp))
    | int j=>obtain⟨t',rfl⟩:=ry;exact PySem.EqMixed.eq_str_int (Ze1 I q (by simp))
    | str j=>obtain⟨t',rfl⟩:=ry;exact eq_str (Ze1 I q dec_str)
    | _=>exact absurd (show false=true from hs) Bool.false_ne_true
  | byt i =>
    obtain⟨t,rfl⟩:=rx
    cases y with
    | byt j=>obtain⟨t',rfl⟩:=ry;exact PySem.W.eq_bytes (Ze1 I q dec_byt)
    | _=>exact absurd (show false=true from hs) Bool.false_ne_true
  | _=>cases y<;>exact absurd (show false=true from hs) Bool.false_ne_true
theorem op_ne:OpR X (compareOp .NotEq) rNe:=by
  intro pins s σ H x y v u Q I rx ry h
  obtain⟨hs,q⟩:=h
  cases x with
  | non =>
    cases rx
    cases y with
    | non=>cases ry;exact PySem.EqNone.ne_none_none (Ze1 I q (by simp))
    | bl j=>cases ry;exact PySem.EqNone.ne_none_bool (Ze1 I q (by simp))
    | int j=>obtain⟨t',rfl⟩:=ry;exact PySem.EqNone.ne_none_int (Ze1 I q (by simp))
    | str j=>obtain⟨t',rfl⟩:=ry;exact PySem.EqNone.ne_none_str (Ze1 I q (by simp))
    | _=>exact absurd (show false=true from hs) Bool.false_ne_true
  | bl i =>
    cases rx
    cases y with
    | non=>cases ry;exact PySem.EqNone.ne_bool_none (Ze1 I q (by simp))
    | bl j=>cases ry;exact ne_bool (Ze1 I q (congrArg not dec_bl))
    | str j=>obtain⟨t',rfl⟩:=ry;exact PySem.EqMixed.ne_bool_str (Ze1 I q (by simp))
    | _=>exact absurd (show false=true from hs) Bool.false_ne_true
  | int i =>
    obtain⟨t,rfl⟩:=rx
    cases y with
    | non=>cases ry;exact PySem.EqNone.ne_int_none (Ze1 I q (by simp))
    | int j=>obtain⟨t',rfl⟩:=ry;exact ne_int (Ze1 I q (congrArg not dec_int))
    | str j=>obtain⟨t',rfl⟩:=ry;exact PySem.EqMixed.ne_int_str (Ze1 I q (by simp))
    | _=>exact absurd (show false=true from hs) Bool.false_ne_true
  | str i =>
    obtain⟨t,rfl⟩:=rx
    cases y with
    | non=>cases ry;exact PySem.EqNone.ne_str_none (Ze1 I q (by simp))
    | bl j=>cases ry;exact PySem.EqMixed.ne_str_bool (Ze1 I q (by simp))
    | int j=>obtain⟨t',rfl⟩:=ry;exact PySem.EqMixed.ne_str_int (Ze1 I q (by simp))
    | str j=>obtain⟨t',rfl⟩:=ry;exact ne_str (Ze1 I q (congrArg not dec_str))
    | _=>exact absurd (show false=true from hs) Bool.false_ne_true
  | byt i =>
    obtain⟨t,rfl⟩:=rx
    cases y with
    | byt j=>obtain⟨t',rfl⟩:=ry;exact PySem.W.ne_bytes (Ze1 I q (congrArg not dec_byt))
    | _=>exact absurd (show false=true from hs) Bool.false_ne_true
  | _=>cases y<;>exact absurd (show false=true from hs) Bool.false_ne_true
theorem op_lt:OpR X (compareOp .Lt) (rI0 fun i j=>.bl (decide (i < j))):=opB0 fun _ _ _ _ _ _ _ q=>lt_int q
theorem op_le:OpR X (compareOp .LtE) (rI0 fun i j=>.bl (decide (i≤j))):=opB0 fun _ _ _ _ _ _ _ q=>le_int q
theorem op_gt:OpR X (compareOp .Gt) (rI0 fun i j=>.bl (decide (j < i))):=opB0 fun _ _ _ _ _ _ _ q=>gt_int q
theorem op_lt_str:OpR X (compareOp .Lt) (fun x y H Q=>∃ i j,x=.str i∧y=.str j∧Q (.bl (decide (i.cps.toList < j.cps.toList))) H):=by
  intro pins s σ H x y v u Q I rx ry h
  obtain⟨i,j,rfl,rfl,q⟩:=h
  obtain⟨t,rfl⟩:=rx
  obtain⟨t',rfl⟩:=ry
  exact lt_str (Ze1 I q rfl)
theorem op_isN:OpR X (compareOp .Is) (fun x y H Q=>y=.non∧Q (.bl (decide (x=.non))) H):=by
  intro pins s σ H x y v u Q I rx ry h
  obtain⟨rfl,q⟩:=h
  cases ry
  refine is_none_gen (Ze1 I q ?_)
  cases x<;>first
    | (cases rx;rfl)
    | (obtain⟨t,rfl⟩:=rx;rfl)
theorem op_notN:OpR X (compareOp .IsNot) (fun x y H Q=>y=.non∧Q (.bl (!decide (x=.non))) H):=by
  intro pins s σ H x y v u Q I rx ry h
  obtain⟨rfl,q⟩:=h
  cases ry
  refine isnot_none_gen (Ze1 I q ?_)
  cases x<;>first
    | (cases rx;rfl)
    | (obtain⟨t,rfl⟩:=rx;rfl)
theorem Zb8 (b:Expr) {op:CmpOp} (h:op≠.In:=by decide) (h2:op≠.NotIn:=by decide):behindInMarks op b=false:=by
  have e1:(op == CmpOp.In)=false:=by cases op<;>first | rfl | exact absurd rfl h
  have e2:(op == CmpOp.NotIn)=false:=by cases op<;>first | rfl | exact absurd rfl h2
  cases b<;>simp[behindInMarks,e1,e2]
theorem Zh9 {op:CmpOp} {r:R2} (ho:OpR X (compareOp op) r) (ha:PE X a ta) (hb:PE X b tb) (hm:behindInMarks op b=false):PE X (.Compare a [op] [b] pos) (tOp r ta tb):=by
  intro pins s σ H Q I h
  exact wpAny_Compare1 (binT ha hb I h fun v u s2 x y H2 I2 rx ry q=>ho pins s2 σ H2 x y v u Q I2 rx ry q) hm
noncomputable def tTest (t:TE):TT:=fun σ H Q=>t σ H fun x H'=>∃ k,x=.bl k∧Q k H'
theorem Zb0 {op:CmpOp} {r:R2} (ho:OpR X (compareOp op) r) (ha:PE X a ta) (hb:PE X b tb) (hm:behindInMarks op b=false):PT X (.Compare a [op] [b] pos) (tTest (tOp r ta tb)):=by
  intro pins s σ H Q I h
  refine wpAny_isTrue_Compare1 (thn (ha pins s σ H _ I h) fun v s1 ⟨x,H1,I1,r1,q1⟩=>thn (hb pins s1 σ H1 _ I1 q1) fun u s2 ⟨y,H2,I2,r2,q2⟩ =>
    thn (ho pins s2 σ H2 x y v u _ I2 r1 r2 q2) fun c s3 ⟨z,H3,I3,r3,k,e,q3⟩=>?_) hm
  subst e
  cases r3
  exact wpAny_truthy_bool ⟨H3,I3,q3⟩
noncomputable def tChain (r r':R2) (ta tb tc:TE):TE:=fun σ H Q=>ta σ H fun x H1=>tb σ H1 fun y H2=>r x y H2 fun z H3=>∃ k,z=.bl k ∧
  (if k=true then tc σ H3 fun w' H4=>r' y w' H4 Q else Q (.bl false) H3)
theorem pe_chain {op op':CmpOp} {r r':R2} (ho:OpR X (compareOp op) r) (ho':OpR X (compareOp op') r') (ha:PE X a ta) (hb:PE X b tb) (hc:PE X c tc)
    (hm:lastMarks [op,op'] [b,c]=false:=by with_unfolding_all rfl):PE X (.Compare a [op,op'] [b,c] pos) (tChain r r' ta tb tc):=by
  intro pins s σ H Q I h
  refine Compare_chain (thn (ha pins s σ H _ I h) fun v s1 ⟨x,H1,I1,r1,q1⟩=>chain_link (thn (hb pins s1 σ H1 _ I1 q1) fun u s2 ⟨y,H2,I2,r2,q2⟩ =>
    thn (ho pins s2 σ H2 x y v u _ I2 r1 r2 q2) fun d s3 ⟨z,H3,I3,r3,k,e,q3⟩=>?_)) hm
  subst e
  cases r3
  refine wpAny_truthy_bool ?_
  cases k with
  | false=>exact ite_ff ⟨.bl false,H3,I3,rfl,q3⟩
  | true=>exact ite_tt (chain_last (thn (hc pins s3 σ H3 _ I3 q3) fun w' s4 ⟨z',H4,I4,r4,q4⟩=>ho' pins s4 σ H4 y z' u w' Q I4 r2 r4 q4))
noncomputable def TruV (K:PySem.W.Frag) (x:V) (H:Hp) (k:Bool):Prop :=
  match x with
  | .non=>k=false
  | .bl b=>k=b
  | .int i=>k=(i != 0)
  | .str y=>y.length≤sizeLine∧k=((y.length:Int) != 0)
  | .byt y=>y.size≤sizeLine∧k=((y.size:Int) != 0)
  | .ref p=>(∃ xs,SqL K H p xs∧k=!xs.isEmpty)∨(∃ xs,SqT K H p xs∧k=!xs.isEmpty)∨∃ kvs,H p=some (.dK kvs)∧k=!kvs.isEmpty
  | _=>False
theorem isEmpty_kv {κ:Type} {kvs:List (κ×V)} {vs:List (κ×Value)} (r:KV kvs vs):(!vs.isEmpty)=!kvs.isEmpty:=by
  cases r<;>rfl
theorem isEmpty_of {xs:List V} {its:List Value} (r:Vals xs its):(!its.toArray.isEmpty)=!xs.isEmpty:=by
  cases r<;>simp
theorem line63:(sizeLine:Nat) < 2 ^ 63:=by rw[sizeLine_eq];decide
theorem tru_ok:TruR X (fun x H Q=>∃ k,TruV X.K x H k∧Q k H):=by
  intro pins s σ H x v Q I rx h
  obtain⟨k,e,q⟩:=h
  have hl:=line63
  have hs:sizeLine=16777216:=sizeLine_eq
  cases x with
  | non =>
    cases rx
    have e':k=false:=e
    subst e'
    exact truthy_none ⟨H,I,q⟩
  | bl b =>
    cases rx
    have e':k=b:=e
    subst e'
    exact wpAny_truthy_bool ⟨H,I,q⟩
  | int i =>
    obtain⟨t,rfl⟩:=rx
    have e':k=(i != 0):=e
    subst e'
    exact PySem.P.truthy_int ⟨H,I,q⟩
  | str y =>
    obtain⟨t,rfl⟩:=rx
    obtain⟨hy,e'⟩:y.length≤sizeLine∧k=((y.length:Int) != 0):=e
    subst e'
    exact PySem.P.truthy_str (by omega) ⟨H,I.tok _,q⟩
  | byt y =>
    obtain⟨t,rfl⟩:=rx
    obtain⟨hy,e'⟩:y.size≤sizeLine∧k=((y.size:Int) != 0):=e
    subst e'
    exact PySem.W.truthy_bytes (by omega) ⟨H,I.tok _,q⟩
  | ref p =>
    cases rx
    have e':(∃ xs,SqL X.K H p xs∧k=!xs.isEmpty)∨(∃ xs,SqT X.K H p xs∧k=!xs.isEmpty)∨∃ kvs,H p=some (.dK kvs)∧k=!kvs.isEmpty:=e
    rcases e' with ⟨xs,hx,e'⟩ | ⟨xs,hx,e'⟩ | ⟨kvs,hx,e'⟩
    · subst e'
      obtain⟨its,r,pl,hz⟩:=I.list hx
      have hlen:=r.length
      exact wpAny_truthy_list pl.isList (by simp only[List.size_toArray];omega) ⟨H,I.tok _,by rw[isEmpty_of r];exact q⟩
    · subst e'
      obtain⟨its,r,pl,hz⟩:=I.tuple hx
      have hlen:=r.length
      exact truthy_tuple pl (by simp only[List.size_toArray];omega) ⟨H,I.tok _,by rw[isEmpty_of r];exact q⟩
    · subst e'
      obtain⟨hz,hS,vs,r,m⟩:kvs.length≤sizeLine∧(p == sysModules)=false∧∃ vs,KV kvs vs∧s.heap.DictOf (mixKind X.prog X.w) p vs:=I.hok p _ hx
      have hlen:kvs.length=vs.length:=Paired.length r
      exact wpAny_truthy_dict hS m (by omega) ⟨H,I.tok _,by rw[isEmpty_kv r];exact q⟩
  | _=>exact (show False from e).elim
theorem pt_truth (ha:PE X a ta) (he:∀ whole,isTrue a X.env whole=(do let v ← whole;standAt a.pos;holding [v] (truthy v))) :
    PT X a (fun σ H Q=>ta σ H fun x H'=>∃ k,TruV X.K x H' k∧Q k H'):=by
  intro pins s σ H Q I h
  exact isTrue_plain (thn (ha pins s σ H _ I h) fun v s1 ⟨x,H1,I1,r1,q1⟩=>tru_ok pins s1 σ H1 x v Q I1 r1 q1) (he _)
theorem op_add_str:OpR X (binaryOp .Add) (fun x y H Q=>∃ i j,x=.str i∧y=.str j∧i.length+j.length≤sizeLine∧Q (.str (i++j)) H):=by
  intro pins s σ H x y v u Q I rx ry h
  obtain⟨i,j,rfl,rfl,hz,q⟩:=h
  obtain⟨t,rfl⟩:=rx
  obtain⟨t',rfl⟩:=ry
  exact add_str (fun t' tk=>⟨.str (i++j),H,I.tok _,⟨_,rfl⟩,q⟩) hz
theorem vals1 {x:V} {us:List Value} (r:Vals [x] us):∃ u,us=[u]∧RelV x u:=by
  cases r with
  | cons r1 r2=>cases r2;exact⟨_,rfl,r1⟩
theorem vals2 {x y:V} {us:List Value} (r:Vals [x,y] us):∃ u w',us=[u,w']∧RelV x u∧RelV y w':=by
  cases r with
  | cons r1 r2 =>
    cases r2 with
    | cons r3 r4=>cases r4;exact⟨_,_,rfl,r1,r3⟩
theorem call_min2 (hc:X.calm=true):CallR X (.builtin "min") (fun xs H Q=>∃ i j,xs=[.int i,.int j]∧Q (.int (if j < i then j else i)) H):=by
  intro pins s σ H xs us Q I r h
  obtain⟨i,j,rfl,q⟩:=h
  obtain⟨u,w',rfl,⟨t,rfl⟩,⟨t',rfl⟩⟩:=vals2 r
  refine min_two_ints (I.ok.hd hc) fun h' tk k=>⟨_,H,I.kept k,?_,q⟩
  by_cases hj:j < i
  · rw[if_pos hj,if_pos hj];exact⟨_,rfl⟩
  · rw[if_neg hj,if_neg hj];exact⟨_,rfl⟩
end
end L2
namespace L2
open PySem PySem.Spec PyProof.Rows
theorem RelO.some_of {v:V} {o:Option Value} (r:RelO (some v) o):∃ u,o=some u∧RelV v u:=by
  cases o with
  | none=>exact (show False from r).elim
  | some u=>exact⟨u,rfl,r⟩
end L2
namespace L2
open PySem PySem.Spec PyProof.Rows
structure Room (k:Nat) (A:Around):Prop where
  hd:A.handled=none
  dp:A.depth+3*k+5 < recursionLimit
  un:A.units+16*k+200 < cLine
theorem Room.mono {j k:Nat} {A:Around} (r:Room k A) (h:j≤k):Room j A:=⟨r.hd,by have:=r.dp;omega,by have:=r.un;omega⟩
theorem Room.deeper {k:Nat} {A:Around} (r:Room (k+1) A) (env:Env):Room k (A.deeper env) :=
  ⟨r.hd,by have:=r.dp;show A.depth+1+3*k+5 < _;omega,by have:=r.un;show A.units+3+16*k+200 < _;omega⟩
theorem Room.depth {k:Nat} {A:Around} (r:Room k A):A.depth < recursionLimit:=by have:=r.dp;omega
theorem Room.units {k:Nat} {A:Around} (r:Room k A):A.units+64 < cLine:=by have:=r.un;omega
noncomputable def tNil:TA:=fun _ H Q=>Q [] H
noncomputable def tCons (ta:TE) (tr:TA):TA:=fun σ H Q=>ta σ H fun x H1=>tr σ H1 fun xs H2=>Q (x :: xs) H2
section
variable {X:Cx} {e:Expr} {es:List Expr} {te:TE} {t:TA} {pos:Pos}
theorem Za1:PA X [] tNil:=fun _ _ _ _ H Q I h=>Calls.spliced_nil ⟨[],H,I,.nil,h⟩
theorem Za0 (ha:PE X e te) (hr:PA X es t) (hs:starEach (e :: es) X.env=(false,eval e X.env) :: starEach es X.env:=by rfl):PA X (e :: es) (tCons te t):=by
  intro pos pins s σ H Q I h
  rw[hs]
  show wpAny _ _ (spliced ((false,eval e X.env) :: backTo pos (starEach es X.env))) _ _ s
  refine Calls.spliced_cons (thn (ha pins s σ H _ I h) fun u s1 ⟨x,H1,I1,r1,q1⟩=>?_)
  exact thn (hr pos pins s1 σ H1 _ I1 q1) fun us s2 ⟨xs,H2,I2,r2,q2⟩=>⟨x :: xs,H2,I2,.cons r1 r2,q2⟩
noncomputable def tTup (t:TA):TE:=fun σ H Q=>t σ H fun xs H1=>xs.length≤sizeLine∧∀ p,H1 p=none→Q (.ref p) (upd H1 p (.tup xs))
noncomputable def tLst (t:TA):TE:=fun σ H Q=>t σ H fun xs H1=>xs.length≤sizeLine∧∀ p,H1 p=none→Q (.ref p) (upd H1 p (.lst xs))
theorem Zc1 {x1} (h:PA X es t):PE X (.Tuple es x1 pos) (tTup t):=by
  intro pins s σ H Q I hq
  refine wpAny_Tuple_spliced (thn (h pos pins s σ H _ I hq) fun us s1 ⟨xs,H1,I1,r,z,q⟩=>⟨by rw[← r.length];exact z,?_⟩)
  have hf:H1 s1.heap.objs.size=none:=I1.hok.fresh (Nat.le_refl _)
  refine⟨.ref s1.heap.objs.size,upd H1 s1.heap.objs.size (.tup xs),I1.laid (t':=s1.toks) (fun b u e=>Heap.get?_push_of_some _ e) (Nat.le_refl _) ?_,rfl,q _ hf⟩
  exact⟨z,us,r,⟨_,Heap.get?_push_size _ rfl,rfl,_,rfl⟩⟩
theorem Zc5 (h:PA X es t):PE X (.List es pos) (tLst t):=by
  intro pins s σ H Q I hq
  refine wpAny_List_spliced (thn (h pos pins s σ H _ I hq) fun us s1 ⟨xs,H1,I1,r,z,q⟩=>⟨by rw[← r.length];exact z,?_⟩)
  have hf:H1 s1.heap.objs.size=none:=I1.hok.fresh (Nat.le_refl _)
  refine⟨.ref s1.heap.objs.size,upd H1 s1.heap.objs.size (.lst xs),I1.laid (t':=s1.toks) (fun b u e=>Heap.get?_push_of_some _ e) (Nat.le_refl _) ?_,rfl,q _ hf⟩
  exact⟨z,us,0,r,Heap.get?_push_size _ rfl⟩
end
noncomputable abbrev Sp:=List V→Hp→VK→XK→Prop
noncomputable abbrev CXT:=List Env→Hp→Shared→XK→Value→Shared→Prop
structure Env0 (P:Program) (w:World) (K:PySem.W.Frag) (mg:Str→Option Value) (base:Heap) (A:Around) (outer:List Env) (s:Shared) (H:Hp):Prop where
  frames:A.frames=some outer
  mod:Mod K mg base
  bs:∀ b o,base.get? b=some o→s.heap.get? b=some o∧H b=none
  bsz:base.objs.size≤s.heap.objs.size
  funs:s.heap.FunFrames base outer
  frf:∀ b∈frs outer,H b=none
  hok:HOk P w H s.heap
  bare:AllBare s.gens
noncomputable def CE (outer:List Env) (P:Program) (w:World) (H:Hp) (s:Shared) (Q:VK) (u:Value) (s':Shared):Prop :=
  ∃ v H',s'.os=s.os∧AllBare s'.gens∧Un (frs outer) [] H H' s.heap s'.heap∧HOk P w H' s'.heap∧RelV v u∧Q v H'
noncomputable def CR (CX:CXT) (outer:List Env) (P:Program) (w:World) (H:Hp) (s:Shared) (Q:VK) (E:XK) (r:Result) (s':Shared):Prop :=
  match r with
  | .ok (.ret u)=>CE outer P w H s Q u s'
  | .ok _=>False
  | .error e=>CX outer H s E e s'
structure FnOk (P:Program) (w:World) (K:PySem.W.Frag) (mg:Str→Option Value) (base:Heap) (CX:CXT) (k:Nat) (f:Addr) (fd:FuncData) (ps:List Str) (sp:Sp):Prop where
  len:∀ vs H Q E,sp vs H Q E→vs.length=ps.length
  run:∀ (A:Around) (outer:List Env) (s:Shared) (H:Hp) (args:Args) (us:List Value) (vs:List V) (Q:VK) (E:XK),Room k A→Env0 P w K mg base A outer s H→BindsTo s fd args (ps.zip us)→Vals vs us→sp vs H Q E →
    codeAny (model P w) A (.call (.ref f) args) (CR CX outer P w H s Q E) s
theorem FnOk.mono {P:Program} {w:World} {K:PySem.W.Frag} {mg:Str→Option Value} {base:Heap} {CX:CXT} {j k:Nat} {f:Addr} {fd:FuncData} {ps:List Str} {sp:Sp} (F:FnOk P w K mg base CX j f fd ps sp) (h:j≤k) :
    FnOk P w K mg base CX k f fd ps sp:=⟨F.len,fun A outer s H args us vs Q E hr=>F.run A outer s H args us vs Q E (hr.mono h)⟩
section
variable {X:Cx} {pins:List (Addr×Obj)} {σ:St} {H:Hp} {s s':Shared}
theorem Inv.env0 (I:Inv X pins σ H s):Env0 X.prog X.w X.K X.mg X.base X.A X.stack s H :=
  ⟨I.ok.frames,I.ok.mod,I.bs,Nat.le_trans I.ok.bsz I.sz,I.stack,I.stkFree,I.hok,I.bare⟩
theorem Inv.after {Q:VK} {u:Value} (I:Inv X pins σ H s) (h:CE X.stack X.prog X.w H s Q u s'):EP X pins σ Q u s':=by
  obtain⟨v,H',os,bare,un,hok,r,q⟩:=h
  obtain⟨hh,g,d,t,os'⟩:=s'
  obtain rfl:os'=s.os:=os
  exact⟨v,H',I.call (h':=hh) (g':=g) (d':=d) (t':=t) (ch:=[]) un hok bare (fun b z=>absurd z (by simp)),r,q⟩
end
noncomputable def tCall (sp:Sp) (dvs:List V) (E:XK) (t:TA):TE:=fun σ H Q=>t σ H fun vs H1=>sp (vs++dvs) H1 Q E
noncomputable def Binds (K:PySem.W.Frag) (fd:FuncData) (ps:List Str) (ds:List Value):Prop :=
  ∀ (s:Shared) (us:List Value),K.In s.heap→(us++ds).length=ps.length→BindsTo s fd ⟨us,[]⟩ (ps.zip (us++ds))
theorem Binds.all {K:PySem.W.Frag} {fd:FuncData} {ps:List Str} (h:∀ us:List Value,us.length=ps.length→bindArgs fd ⟨us,[]⟩=pure (ps.zip us)):Binds K fd ps []:=fun s us _ hl=>by
  rw[List.append_nil] at hl ⊢
  exact .of_eq (h us hl)
noncomputable def Passes (CX:CXT) (X:Cx) (E:XK):Prop:=∀ (pins:List (Addr×Obj)) (σ:St) (H:Hp) (s:Shared) (e:Value) (s':Shared),Inv X pins σ H s→CX X.stack H s E e s'→X.xe e s'
section
variable {X:Cx} {CX:CXT} {k:Nat} {f C:Addr} {fd:FuncData} {ps:List Str} {sp:Sp} {dvs:List V} {ds:List Value} {E:XK} {x m:Str} {p pos apos:Pos} {e o:Expr} {es:List Expr} {ta:TE} {t:TA}
theorem run_fn {pins:List (Addr×Obj)} {σ:St} {H:Hp} {s:Shared} {Q:VK} {us:List Value} {vs:List V} (F:FnOk X.prog X.w X.K X.mg X.base CX k f fd ps sp) (hr:Room k X.A) (hb:Binds X.K fd ps ds) (hd:Vals dvs ds) (hx:Passes CX X E)
    (I:Inv X pins σ H s) (r:Vals vs us) (h:sp (vs++dvs) H Q E):wpAny (model X.prog X.w) X.A (call (.ref f) us) (EP X pins σ Q) X.xe s:=by
  have r2:Vals (vs++dvs) (us++ds):=r.append hd
  have hl:(us++ds).length=ps.length:=by rw[← r2.length];exact F.len _ _ _ _ h
  refine wpAny_call (codeAny_mono (F.run X.A X.stack s H ⟨us,[]⟩ (us++ds) (vs++dvs) Q E hr I.env0 (hb s us I.kIn hl) r2 h) fun r s' hq=>?_)
  cases r with
  | error e=>exact hx pins σ H s e s' I hq
  | ok fl =>
    cases fl with
    | ret u=>exact I.after hq
    | next=>exact False.elim hq
    | brk=>exact False.elim hq
    | cont=>exact False.elim hq
theorem Za9 (F:FnOk X.prog X.w X.K X.mg X.base CX k f fd ps sp) (hr:Room k X.A) (hg:Gl X x) (hm:X.mg x=some (.ref f)) (hk:PySem.W.keepIn X.K (.ref f)=true) (hb:Binds X.K fd ps ds) (hd:Vals dvs ds) (hx:Passes CX X E)
    (ha:PA X (e :: es) t) (hdb:(x == ("__debug__":Str))=false:=by decide) (he:starEach (e :: es) X.env=(false,eval e X.env) :: starEach es X.env:=by rfl) (hpl:(backTo pos (starEach es X.env)).any (·.1)=false:=by rfl) :
    PE X (.Call (.Name x p) (e :: es) [] pos) (tCall sp dvs E t):=by
  intro pins s σ H Q I h
  refine wpAny_Call_Name_kw (ld_glob I hg hm ?_ hdb)
  refine PySem.W.callWith_K (h₀:=X.base) I.ok.mod.kin hk (thn (ha pos pins s σ H _ I h) fun us s1 ⟨vs,H1,I1,r,q⟩=>⟨I1.kIn,?_⟩) he hpl
  exact run_fn F hr hb hd hx I1 r q
end
structure FnScope (N P:List Str) (sc:Scope):Prop where
  kind:sc.kind=.function
  co:sc.isCoroutine=false
  gen:sc.isGenerator=false
  nd:N.Nodup
  pre:N.take P.length=P
  par:∀ x∈P,sc.names.lookup x=some .local∨sc.names.lookup x=some .cell
  nofree:∀ y∈sc.names,y.2≠.free
theorem bindL_out {kindOf:Str→Option NameKind} {x:Str}:∀ {binds:List (Str×Value)} {m:Str→Option Value},(∀ v,(x,v) ∉ binds)→bindL kindOf binds m x=m x
  | [],_,_=>rfl
  | (n,v) :: r,m,h=>by
    unfold bindL
    rw[bindL_out fun w hw=>h w (List.mem_cons_of_mem _ hw)]
    split
    · have:x≠n:=by rintro rfl;exact h v List.mem_cons_self
      simp[this]
    · rfl
theorem bindC_out {kindOf:Str→Option NameKind} {x:Str}:∀ {binds:List (Str×Value)} {m:Str→Option Value},(∀ v,(x,v) ∉ binds)→bindC kindOf binds m x=m x
  | [],_,_=>rfl
  | (n,v) :: r,m,h=>by
    unfold bindC
    rw[bindC_out fun w hw=>h w (List.mem_cons_of_mem _ hw)]
    split
    · rfl
    · have:x≠n:=by rintro rfl;exact h v List.mem_cons_self
      simp[this]
theorem bindL_get {kindOf:Str→Option NameKind} {x:Str} {v:Value}:∀ {P:List Str} {vs:List Value} {i:Nat} {m:Str→Option Value},P.Nodup→P[i]?=some x→vs[i]?=some v→kindOf x=some .local →
    bindL kindOf (P.zip vs) m x=some v
  | [],_,_,_,_,h,_,_=>by simp at h
  | _ :: _,[],_,_,_,_,h,_=>by simp at h
  | p :: P,w :: vs,0,m,nd,h1,h2,hk=>by
    simp at h1 h2;subst h1;subst h2
    show bindL kindOf ((p,w) :: P.zip vs) m p=_
    unfold bindL
    rw[bindL_out fun v hv=>(List.nodup_cons.mp nd).1 (List.of_mem_zip hv).1,if_pos hk]
    simp
  | p :: P,w :: vs,i+1,m,nd,h1,h2,hk=>by
    show bindL kindOf ((p,w) :: P.zip vs) m x=_
    unfold bindL
    exact bindL_get (i:=i) (List.nodup_cons.mp nd).2 (by simpa using h1) (by simpa using h2) hk
theorem bindC_get {kindOf:Str→Option NameKind} {x:Str} {v:Value}:∀ {P:List Str} {vs:List Value} {i:Nat} {m:Str→Option Value},P.Nodup→P[i]?=some x→vs[i]?=some v→kindOf x≠some .local →
    bindC kindOf (P.zip vs) m x=some v
  | [],_,_,_,_,h,_,_=>by simp at h
  | _ :: _,[],_,_,_,_,h,_=>by simp at h
  | p :: P,w :: vs,0,m,nd,h1,h2,hk=>by
    simp at h1 h2;subst h1;subst h2
    show bindC kindOf ((p,w) :: P.zip vs) m p=_
    unfold bindC
    rw[bindC_out fun v hv=>(List.nodup_cons.mp nd).1 (List.of_mem_zip hv).1,if_neg hk]
    simp
  | p :: P,w :: vs,i+1,m,nd,h1,h2,hk=>by
    show bindC kindOf ((p,w) :: P.zip vs) m x=_
    unfold bindC
    exact bindC_get (i:=i) (List.nodup_cons.mp nd).2 (by simpa using h1) (by simpa using h2) hk
noncomputable def start (N:List Str) (vs:List V):St:=vs.map some++List.replicate (N.length - vs.length) none
noncomputable def cxOf (CX:CXT) (P:Program) (w:World) (K:PySem.W.Frag) (mg:Str→Option Value) (base:Heap) (N:List Str) (qual:Str) (scope:Scope) (f:Addr) (cd:Value) (A:Around) (outer:List Env) (s:Shared) (H:Hp) (E:XK):Cx where
  prog:=P
  w:=w
  K:=K
  mg:=mg
  base:=base
  A:=A.deeper (envOfC qual scope s.heap.objs.size f cd)
  N:=N
  s₀:=s
  H₀:=H
  env:=envOfC qual scope s.heap.objs.size f cd
  outer:=outer
  stack:=envOfC qual scope s.heap.objs.size f cd :: outer
  ex:=[]
  calm:=true
  fn:=fun _=>true
  pn:=[]
  xe:=fun e s'=>wpAny (model P w) (A.deeper (envOfC qual scope s.heap.objs.size f cd)) (leaving (envOfC qual scope s.heap.objs.size f cd) e) (fun _ s''=>CX outer H s E e s'') (fun e' s''=>CX outer H s E e' s'') s'
theorem cell_has {sc:Scope} {n:Nat} {x:Str} (h:sc.names.lookup x=some .cell):∃ c,(cellsFrom n sc.names []).lookup x=some c:=by
  have q:=PySem.W.cellsFrom_some sc.names n [] (.inl h)
  exact Option.isSome_iff_exists.mp q
theorem inv_start {CX:CXT} {P:Program} {w:World} {K:PySem.W.Frag} {mg:Str→Option Value} {base:Heap} {N ps:List Str} {qual:Str} {scope:Scope} {f:Addr} {cd:Value} {A:Around} {outer:List Env} {s s1:Shared} {H:Hp} {E:XK} {us:List Value} {vs:List V}
    (S:FnScope N ps scope) (hd:A.handled=none) (e0:Env0 P w K mg base A outer s H) (hl:vs.length=ps.length) (r:Vals vs us)
    (x:InCallC s s.heap.objs.size (bindL (envOfC qual scope s.heap.objs.size f cd).kindOf (ps.zip us) fun _=>none) (cellsFrom (s.heap.objs.size+1) scope.names []) (bindC (envOfC qual scope s.heap.objs.size f cd).kindOf (ps.zip us) fun _=>none) s1) :
    Inv (cxOf CX P w K mg base N qual scope f cd A outer s H E) [] (start N vs) H s1:=by
  have hpl:ps.length≤N.length:=by have:=congrArg List.length S.pre;rw[List.length_take] at this;omega
  obtain⟨h1,tk,rfl,hk⟩:=x.done
  have noA:∀ b:Addr,b ∉ (cxOf CX P w K mg base N qual scope f cd A outer s H E).ex:=fun b z=>absurd (show b∈([]:List Addr) from z) (by simp)
  refine⟨⟨e0.mod,S.kind,rfl,rfl,Nat.le_refl _,fun y z c h1 h2=>?_,fun y hy=>?_,fun y c _ h=>?_,fun _=>hd,Around.frames_deeper e0.frames,.inr ⟨rfl,rfl⟩,fun b z=>absurd z (noA b),e0.bs,e0.bsz,fun b _ _=>noA b,fun b z=>absurd z (noA b),e0.funs,e0.frf⟩,
    rfl,e0.bare,Un.kept hk,⟨_,x.toInCall.ns,fun i y v h1 h2 h3=>?_⟩,fun y c h=>⟨_,x.cell y c h⟩,e0.hok.fresh (Nat.le_refl _),fun y c h=>?_,fun p hp=>absurd (show p∈([]:List (Addr×Obj)) from hp) (by simp),e0.hok.kept hk,?_⟩
  · exact name_of_addr x.apart (PySem.mem_of_lookup h1) (PySem.mem_of_lookup h2)
  · have hy:scope.names.lookup y=some .cell∨scope.names.lookup y=some .free:=hy
    rcases hy with hy | hy
    · exact cell_has hy
    · exact absurd rfl (S.nofree _ (PySem.mem_of_lookup hy))
  · exact Nat.le_of_lt (x.above y c (PySem.mem_of_lookup h))
  · have hi:i < vs.length:=by
      unfold start at h2
      by_cases hi:i < vs.length
      · exact hi
      · rw[List.getElem?_append_right (by simpa using hi)] at h2
        rw[List.getElem?_replicate] at h2
        split at h2<;>cases h2
    have ha:vs[i]?=some v:=by
      unfold start at h2
      rw[List.getElem?_append_left (by simpa using hi),List.getElem?_map] at h2
      cases e:vs[i]? with
      | none=>rw[e] at h2;cases h2
      | some a=>rw[e] at h2;cases h2;rfl
    obtain⟨u,hu,rv⟩:=r.get ha
    have hp:ps[i]?=some y:=by
      rw[← S.pre,List.getElem?_take_of_lt (by omega)];exact h1
    have ndP:ps.Nodup:=by rw[← S.pre];exact S.nd.sublist (List.take_sublist _ _)
    refine⟨u,rv,?_⟩
    rcases S.par y (List.mem_of_getElem? hp) with k | k
    · exact .inl ⟨k,bindL_get ndP hp hu k⟩
    · obtain⟨c,e⟩:=cell_has (n:=s.heap.objs.size+1) k
      refine .inr ⟨.inl k,c,e,?_⟩
      have q:=x.cell y c e
      rw[bindC_get ndP hp hu (by show scope.names.lookup y≠_;rw[k];decide)] at q
      exact q
  · exact e0.hok.fresh (Nat.le_of_lt (x.above y c (PySem.mem_of_lookup h)))
  · unfold start
    show _=N.length
    rw[List.length_append,List.length_map,List.length_replicate]
    omega
theorem fn_of {CX:CXT} {P:Program} {w:World} {K:PySem.W.Frag} {mg:Str→Option Value} {base:Heap} {k:Nat} {f:Addr} {name qual:Str} {params:Arguments} {body:List Stmt} {scope:Scope} {dV kV doc pm cdv ct oc:Value} {an od:Option Addr}
    {osl:Array (Option Value)} {N ps:List Str} {sp:Sp} (lk:K.lookup f=some ⟨oc,od,.func (PySem.W.fnOf name qual params body scope dV kV doc pm an cdv ct),osl⟩) (hcd:PySem.W.codeIn K cdv qual=true) (S:FnScope N ps scope)
    (len:∀ vs H Q E,sp vs H Q E→vs.length=ps.length)
    (hbody:∀ (A:Around) (outer:List Env) (s:Shared) (H:Hp) (vs:List V) (Q:VK) (E:XK),Room k (A.deeper (envOfC qual scope s.heap.objs.size f cdv))→sp vs H Q E →
      ∃ t,PSs (cxOf CX P w K mg base N qual scope f cdv A outer s H E) body t∧t { nx:=fun _ H'=>Q .non H',rt:=Q } (start N vs) H) :
    FnOk P w K mg base CX (k+1) f (PySem.W.fnOf name qual params body scope dV kV doc pm an cdv ct) ps sp:=by
  refine⟨len,fun A outer s H args us vs Q E hr e0 hb r hsp=>?_⟩
  have hl:=len _ _ _ _ hsp
  have KX:K.In s.heap:=e0.mod.kin.keeps fun b o e=>(e0.bs b o e).1
  have lim:s.heap.NoLimit:=e0.mod.nolimit.keeps fun b o e=>(e0.bs b o e).1
  have hkind:∀ y∈ps.zip us,scope.names.lookup y.1=some .local∨(scope.names.lookup y.1=some .cell∧((cellsFrom (s.heap.objs.size+1) scope.names []).lookup y.1).isSome=true):=fun⟨n,v⟩ hy=>by
    rcases S.par n (List.of_mem_zip hy).1 with q | q
    · exact .inl q
    · exact .inr ⟨q,PySem.W.cellsFrom_some _ _ _ (.inl q)⟩
  refine codeAny_call_function hr.depth (KX _ _ lk) rfl S.co S.gen rfl (PySem.W.codeRec_of KX hcd) (hb _ _ _ _ ?_)
  refine wpAny_newFunctionEnv_cells S.kind hkind fun env he s1 x=>?_
  subst he
  refine⟨lim.keeps x.toInCall.keep,codeAny_func ?_⟩
  obtain⟨t,ht,hq⟩:=hbody A outer s H vs Q E (hr.deeper _) hsp
  have I:Inv (cxOf CX P w K mg base N qual scope f cdv A outer s H E) [] (start N vs) H s1:=inv_start S hr.hd e0 hl r x
  refine wpAny_mono (ht [] s1 (start N vs) H _ I hq) (fun fl s' hs=>?_) fun e s' hs=>hs
  have fin:∀ {σ':St} {H':Hp} {v:V} {u:Value},Inv (cxOf CX P w K mg base N qual scope f cdv A outer s H E) [] σ' H' s'→RelV v u→Q v H'→CE outer P w H s Q u s' :=
    fun {σ' H' v u} J rv q=>⟨v,H',J.os,J.bare,J.base,J.hok,rv,q⟩
  cases fl with
  | ret u =>
    obtain⟨v,σ',H',J,rv,q⟩:=hs
    exact fin J rv q
  | next =>
    obtain⟨σ',H',J,q⟩:=hs
    exact fin (v:=V.non) (u:=Value.none) J rfl q
  | brk =>
    obtain⟨_,_,_,q⟩:=hs
    exact False.elim q
  | cont =>
    obtain⟨_,_,_,q⟩:=hs
    exact False.elim q
end L2
namespace L2
open PySem PySem.Spec PyProof.Rows
section
variable {X:Cx} {x:Str} {p pos:Pos} {e:Expr} {es:List Expr} {t:TA} {id T:String} {r:List V→Hp→VK→Prop}
noncomputable def tCB (r:List V→Hp→VK→Prop) (t:TA):TE:=fun σ H Q=>t σ H fun vs H1=>r vs H1 Q
theorem Zd1 (hc:CallR X (.builtin id) r) (hg:Gl X x) (hm:X.mg x=none) (hv:bootBuiltins x=some (.builtin id)) (ha:PA X (e :: es) t) (hn:x≠"__name__":=by decide) (hdb:(x == ("__debug__":Str))=false:=by decide)
    (he:starEach (e :: es) X.env=(false,eval e X.env) :: starEach es X.env:=by rfl) (hpl:(backTo pos (starEach es X.env)).any (·.1)=false:=by rfl):PE X (.Call (.Name x p) (e :: es) [] pos) (tCB r t):=by
  intro pins s σ H Q I h
  refine wpAny_Call_Name_kw (ld_blt I hg hm hv ?_ hn hdb)
  exact PyProof.Rows.callWith_builtin1 (thn (ha pos pins s σ H _ I h) fun us s1 ⟨vs,H1,I1,r1,q1⟩=>hc pins s1 σ H1 vs us Q I1 r1 q1) he hpl
theorem Ze9 (hc:CallR X (.type T) r) (hg:Gl X x) (hm:X.mg x=none) (hv:bootBuiltins x=some (.type T)) (ha:PA X (e :: es) t) (hn:x≠"__name__":=by decide) (hdb:(x == ("__debug__":Str))=false:=by decide)
    (he:starEach (e :: es) X.env=(false,eval e X.env) :: starEach es X.env:=by rfl) (hpl:(backTo pos (starEach es X.env)).any (·.1)=false:=by rfl):PE X (.Call (.Name x p) (e :: es) [] pos) (tCB r t):=by
  intro pins s σ H Q I h
  refine wpAny_Call_Name_kw (ld_blt I hg hm hv ?_ hn hdb)
  exact PyProof.Rows.callWith_type1 (thn (ha pos pins s σ H _ I h) fun us s1 ⟨vs,H1,I1,r1,q1⟩=>hc pins s1 σ H1 vs us Q I1 r1 q1) he hpl
end
end L2
namespace HT
open PySem PyProof.Rows
section
variable {prog:Program} {w:World} {A:Around} {E:Value→Shared→Prop} {s:Shared}
noncomputable def sIx (n d:Nat):Option Int→Nat
  | none=>d
  | some v=>if v < 0 then (v+(n:Int)).toNat else min v.toNat n
theorem sIx_none (n d:Nat):sIx n d none=d:=rfl
theorem sIx_le (n d:Nat) (hd:d≤n) (o:Option Int):sIx n d o≤n:=by
  cases o with
  | none=>exact hd
  | some v =>
    show (if v < 0 then (v+(n:Int)).toNat else min v.toNat n)≤n
    by_cases hv:v < 0
    · rw[if_pos hv];omega
    · rw[if_neg hv];exact Nat.min_le_right _ _
theorem clip_eq (v:Int) (n d:Nat):(if v < 0 then max (v+(n:Int)) 0 else min v (n:Int))=((sIx n d (some v):Nat):Int):=by
  show (if v < 0 then max (v+(n:Int)) 0 else min v (n:Int))=(((if v < 0 then (v+(n:Int)).toNat else min v.toNat n):Nat):Int)
  by_cases hv:v < 0
  · simp only[if_pos hv];omega
  · simp only[if_neg hv];omega
theorem adjust_gen (lo hi:Option Int) (n:Nat):Builtin.Slice.sliceAdjust lo hi 1 (n:Int)=(((sIx n 0 lo:Nat):Int),((sIx n n hi:Nat):Int)):=by
  have h1:¬ ((1:Int) < 0):=by omega
  unfold Builtin.Slice.sliceAdjust
  simp only[h1,if_false]
  refine Prod.ext ?_ ?_
  · cases lo with
    | none=>rfl
    | some v=>exact clip_eq v n 0
  · cases hi with
    | none=>rfl
    | some v=>exact clip_eq v n n
theorem places_gen (i j:Nat):Builtin.Slice.slicePlaces (i:Int) (j:Int) 1=j - i:=by
  unfold Builtin.Slice.slicePlaces
  have h1:(1:Int) > 0:=by omega
  simp only[h1,if_true,Int.ediv_one]
  split<;>omega
theorem slicePart_ {v:Value} {o:Option Int} {Q:Option Int→Shared→Prop} (p:IsPart v o) (h:Q o s):wpAny (model prog w) A (Builtin.Slice.slicePartIndex v) Q E s:=by
  cases p with
  | none=>exact slicePart_none h
  | int i t=>exact slicePart_int h
theorem sliceApplied_gen {sl:Addr} {vl vu:Value} {lo hi:Option Int} {n:Nat} {Q:Int×Int×Nat→Shared→Prop} (hs:s.heap.IsSliceOf sl vl vu .none) (pl:IsPart vl lo) (pu:IsPart vu hi)
    (h:Q (((sIx n 0 lo:Nat):Int),1,sIx n n hi - sIx n 0 lo) s):wpAny (model prog w) A (Builtin.Slice.sliceApplied (.ref sl) (pure (n:Int))) Q E s:=by
  obtain⟨os,hos,hcs,hds⟩:=id hs
  unfold Builtin.Slice.sliceApplied Builtin.Slice.sliceFields
  refine wpAny_bind (wpAny_bind (wpAny_field hos hds (x:=vl) rfl (wpAny_bind (wpAny_field hos hds (x:=vu) rfl (wpAny_bind (wpAny_field hos hds (x:=.none) rfl (wpAny_pure ?_)))))))
  refine wpAny_bind (slicePart_none ?_)
  show wpAny _ _ (if ((1:Int) == 0)=true then _ else _) _ _ s
  rw[if_neg (by decide)]
  refine wpAny_bind (slicePart_ pl (wpAny_bind (slicePart_ pu (wpAny_bind (wpAny_pure ?_)))))
  show wpAny _ _ (match Builtin.Slice.sliceAdjust lo hi 1 (n:Int) with | (lo,hi)=>pure (lo,(1:Int),Builtin.Slice.slicePlaces lo hi 1)) _ _ s
  rw[adjust_gen lo hi n]
  show wpAny _ _ (pure (((sIx n 0 lo:Nat):Int),(1:Int),Builtin.Slice.slicePlaces ((sIx n 0 lo:Nat):Int) ((sIx n n hi:Nat):Int) 1)) _ _ s
  rw[places_gen]
  exact wpAny_pure h
theorem pick_gen (xs:Array Value) (i k:Nat):((List.range k).filterMap fun (m:Nat)=>xs[((i:Int)+(m:Int)*1).toNat]?).toArray=((xs.toList.drop i).take k).toArray:=by
  have e:(fun (m:Nat)=>xs[((i:Int)+(m:Int)*1).toNat]?)=fun m=>xs[i+m]?:=by
    funext m
    have:((i:Int)+(m:Int)*1).toNat=i+m:=by omega
    rw[this]
  rw[e]
  have:=pick_run xs i k
  rw[List.filterMap_map] at this
  have e2:((fun x=>xs[x]?) ∘ fun x=>i+x)=fun m=>xs[i+m]?:=rfl
  rw[e2] at this
  rw[this]
theorem getItem_tuple_cut {t sl:Addr} {items:Array Value} {vl vu:Value} {lo hi:Option Int} {Q:Value→Shared→Prop} (ht:IsTup s.heap t items) (hs:s.heap.IsSliceOf sl vl vu .none) (pl:IsPart vl lo) (pu:IsPart vu hi)
    (hw:¬ (sIx items.size 0 lo=0∧sIx items.size items.size hi=items.size))
    (h:Q (.ref s.heap.objs.size) { s with heap:=s.heap.push { cls:=.type "tuple",data:=.seq ((items.toList.drop (sIx items.size 0 lo)).take (sIx items.size items.size hi - sIx items.size 0 lo)).toArray } })
    (hsz:items.size≤sizeLine):wpAny (model prog w) A (getItem (.ref t) (.ref sl)) Q E s:=by
  have htake:sizeOk (.seq ((items.toList.drop (sIx items.size 0 lo)).take (sIx items.size items.size hi - sIx items.size 0 lo)).toArray):=by
    show ((items.toList.drop (sIx items.size 0 lo)).take (sIx items.size items.size hi - sIx items.size 0 lo)).toArray.size≤sizeLine
    rw[List.size_toArray,List.length_take,List.length_drop,Array.length_toList]
    omega
  have hj:sIx items.size items.size hi≤items.size:=sIx_le _ _ (Nat.le_refl _) hi
  obtain⟨os,hos,hcs,hds⟩:=id hs
  have hTs:s.TypeIs (.ref sl) "slice":=⟨os,hos,hcs⟩
  unfold getItem
  try with_reducible refine wpAny_holding ?_
  first | refine wpAny_bind (wpAny_pure ?_) | skip
  refine wpAny_bind (wpAny_sequenceKey ht.typeIs (by decide) ?_)
  refine wpAny_bind (wpAny_callSpecial?_slot (name:=Str.ofString "__getitem__") ht.typeIs PyProof.Rows.slot_tuple_getitem
    (wpAny_call_entry PyProof.Rows.slot_tuple_getitem ht.typeIs entry_tuple_getitem ?_ (args_tuple_getitem _ _)))
  show wpAny _ _ (Builtin.Tuple.tupleItemsOf (.ref t) >>= _) _ _ s
  refine wpAny_bind (tupleItemsOf_ ht ?_)
  refine wpAny_bind (wpAny_typeOf hTs ?_)
  rw[if_pos (by decide)]
  refine wpAny_bind (sliceApplied_gen hs pl pu ?_)
  have hno:¬ ((((sIx items.size 0 lo:Nat):Int) == 0&&(1:Int) == 1&&(sIx items.size items.size hi - sIx items.size 0 lo) == items.size)=true):=by
    intro q
    rw[Bool.and_eq_true,Bool.and_eq_true] at q
    have q1:((sIx items.size 0 lo:Nat):Int)=0:=eq_of_beq q.1.1
    have q2:sIx items.size items.size hi - sIx items.size 0 lo=items.size:=eq_of_beq q.2
    exact hw ⟨by omega,by omega⟩
  show wpAny _ _ (if (((sIx items.size 0 lo:Nat):Int) == 0&&(1:Int) == 1&&(sIx items.size items.size hi - sIx items.size 0 lo) == items.size)=true then _ else _) _ _ s
  rw[if_neg hno,pick_gen]
  first
    | exact wpAny_bind (m:=Builtin.Tuple.tupleExact _) (wpAny_newObj_type (wpAny_pure ⟨_,rfl,wpAny_pure h⟩) htake)
    | exact wpAny_bind (m:=Builtin.Tuple.tupleExact _) (wpAny_newObj_type (wpAny_bind (wpAny_pure (wpAny_pure ⟨_,rfl,wpAny_pure h⟩))) htake)
    | exact wpAny_bind (wpAny_bind (m:=Builtin.Tuple.tupleExact _) (wpAny_newObj_type (wpAny_pure (wpAny_pure ⟨_,rfl,wpAny_pure h⟩)) htake))
    | exact wpAny_bind (wpAny_bind (m:=Builtin.Tuple.tupleExact _) (wpAny_newObj_type (wpAny_pure ⟨_,rfl,wpAny_pure h⟩) htake))
end
end HT
namespace L2
open PySem PySem.Spec PyProof.Rows
noncomputable abbrev TO:=St→Hp→(Option Int→Hp→Prop)→Prop
noncomputable def PO (X:Cx) (e:Option Expr) (t:TO):Prop :=
  ∀ (pins:List (Addr×Obj)) (s:Shared) (σ:St) (H:Hp) (Q:Option Int→Hp→Prop),Inv X pins σ H s→t σ H Q →
    wpAny (model X.prog X.w) X.A (evalPart e X.env) (fun u s'=>∃ o H',Inv X pins σ H' s'∧IsPart u o∧Q o H') X.xe s
noncomputable def tNoPart:TO:=fun _ H Q=>Q none H
noncomputable def tPart (t:TE):TO:=fun σ H Q=>t σ H fun x H1=>∃ i,x=.int i∧Q (some i) H1
section
variable {X:Cx} {e:Expr} {te:TE} {lo hi:Option Expr} {tl th:TO} {pos p2:Pos}
theorem po_none:PO X none tNoPart:=by
  intro pins s σ H Q I h
  rw[evalPart_none]
  exact wpAny_pure ⟨none,H,I,.none,h⟩
theorem po_some (h:PE X e te):PO X (some e) (tPart te):=by
  intro pins s σ H Q I hw
  rw[evalPart_some]
  refine thn (h pins s σ H _ I hw) fun u s1 ⟨x,H1,I1,r1,q1⟩=>?_
  obtain⟨i,rfl,q⟩:=q1
  obtain⟨t,rfl⟩:=r1
  exact⟨some i,H1,I1,.int i t,q⟩
noncomputable def SlR (X:Cx) (r:V→Option Int→Option Int→Hp→VK→Prop):Prop :=
  ∀ (pins:List (Addr×Obj)) (s:Shared) (σ:St) (H:Hp) (x:V) (v vl vu:Value) (lo hi:Option Int) (sl:Addr) (Q:VK),Inv X pins σ H s→RelV x v→s.heap.IsSliceOf sl vl vu .none→IsPart vl lo→IsPart vu hi→r x lo hi H Q →
    ∃ T id,typeLookup (.type T) "__getitem__"=pure (some (.builtin id))∧s.TypeIs v T∧wpAny (model X.prog X.w) X.A (getItem v (.ref sl)) (EP X pins σ Q) X.xe s
noncomputable def tSl (r:V→Option Int→Option Int→Hp→VK→Prop) (te:TE) (tl th:TO):TE:=fun σ H Q=>te σ H fun x H1=>tl σ H1 fun l H2=>th σ H2 fun u H3=>r x l u H3 Q
theorem Zh2 {r:V→Option Int→Option Int→Hp→VK→Prop} (hr:SlR X r) (he:PE X e te) (hl:PO X lo tl) (hu:PO X hi th):PE X (.Subscript e (.Slice lo hi none p2) pos) (tSl r te tl th):=by
  intro pins s σ H Q I h
  refine Subscript_ (thn (he pins s σ H _ I h) fun v s1 ⟨x,H1,I1,r1,q1⟩=>?_)
  refine wpAny_Slice (thn (hl pins s1 σ H1 _ I1 q1) fun vl s2 ⟨l,H2,I2,pl,q2⟩=>thn (hu pins s2 σ H2 _ I2 q2) fun vu s3 ⟨u,H3,I3,pu,q3⟩=>?_)
  rw[evalPart_none]
  refine wpAny_pure ?_
  have I4:Inv X pins σ H3 { s3 with heap:=s3.heap.push { cls:=.type "slice",data:=.fields #[vl,vu,.none] } }:=I3.kept (t':=s3.toks) fun b ob q=>Heap.get?_push_of_some _ q
  obtain⟨T,id,hT,ht,hg⟩:=hr pins { s3 with heap:=s3.heap.push { cls:=.type "slice",data:=.fields #[vl,vu,.none] } } σ H3 x v vl vu l u s3.heap.objs.size Q I4 r1 (Heap.IsSliceOf.new ..) pl pu q3
  show wpAny (model X.prog X.w) X.A (subscriptTail e (.Slice lo hi none p2) v (.ref s3.heap.objs.size)) (EP X pins σ Q) X.xe { s3 with heap:=s3.heap.push { cls:=.type "slice",data:=.fields #[vl,vu,.none] } }
  exact tail_any (ops:=[.ref s3.heap.objs.size,v]) ht hT hg (by with_unfolding_all rfl)
noncomputable def cutV (xs:List V) (lo hi:Option Int):List V:=(xs.drop (HT.sIx xs.length 0 lo)).take (HT.sIx xs.length xs.length hi - HT.sIx xs.length 0 lo)
theorem cutV_length (xs:List V) (lo hi:Option Int):(cutV xs lo hi).length≤xs.length:=by
  unfold cutV
  rw[List.length_take,List.length_drop]
  omega
noncomputable def rSlT (K:PySem.W.Frag):V→Option Int→Option Int→Hp→VK→Prop:=fun x lo hi H Q=>∃ a xs,x=.ref a∧SqT K H a xs ∧
  ¬ (HT.sIx xs.length 0 lo=0∧HT.sIx xs.length xs.length hi=xs.length)∧∀ p,H p=none→Q (.ref p) (upd H p (.tup (cutV xs lo hi)))
theorem sl_tup:SlR X (rSlT X.K):=by
  intro pins s σ H x v vl vu lo hi sl Q I rx hs pl pu h
  obtain⟨a,xs,rfl,hx,hw,q⟩:=h
  cases rx
  obtain⟨its,r,ht,hz⟩:=I.tuple hx
  have hlen:its.toArray.size=xs.length:=by rw[List.size_toArray];exact r.length.symm
  refine⟨"tuple",_,PyProof.Rows.slot_tuple_getitem.lookup,ht.typeIs,?_⟩
  refine HT.getItem_tuple_cut ht hs pl pu (by rw[hlen];exact hw) ?_ (by rw[hlen];exact hz)
  rw[hlen]
  refine⟨.ref s.heap.objs.size,_,I.laid (t':=s.toks) (o:=.tup (cutV xs lo hi)) (fun b ob q=>Heap.get?_push_of_some _ q) (Nat.le_refl _) ?_,rfl,q _ (I.hok.fresh (Nat.le_refl _))⟩
  exact⟨Nat.le_trans (cutV_length xs lo hi) hz,_,(r.drop (HT.sIx xs.length 0 lo)).take (HT.sIx xs.length xs.length hi - HT.sIx xs.length 0 lo),IsTup.new _ _⟩
end
end L2
namespace L2
open PySem PySem.Spec PyProof.Rows
noncomputable def ixN (n:Nat) (i:Int):Option Nat:=if 0≤i then (if i < n then some i.toNat else none) else if -(n:Int)≤i then some (i+n).toNat else none
noncomputable def atI {α:Type} (xs:List α) (i:Int):Option α:=(ixN xs.length i).bind fun j=>xs[j]?
theorem ixN_seq {n:Nat} {i:Int} {j:Nat} (h:ixN n i=some j):seqIndex? i n=some j∧j < n∧-(n:Int)≤i∧i < n:=by
  unfold ixN at h
  by_cases h0:0≤i
  · rw[if_pos h0] at h
    by_cases h1:i < n
    · rw[if_pos h1] at h
      have e:i.toNat=j:=Option.some.inj h
      exact⟨by rw[seqIndex_of h0 h1,e],by omega,by omega,h1⟩
    · rw[if_neg h1] at h;cases h
  · rw[if_neg h0] at h
    by_cases h1:-(n:Int)≤i
    · rw[if_pos h1] at h
      have e:(i+n).toNat=j:=Option.some.inj h
      exact⟨by rw[seqIndex_neg (by omega) h1,e],by omega,h1,by omega⟩
    · rw[if_neg h1] at h;cases h
theorem atI_get {α:Type} {xs:List α} {i:Int} {v:α} (h:atI xs i=some v):∃ j,seqIndex? i xs.length=some j∧xs[j]?=some v∧j < xs.length∧-(xs.length:Int)≤i∧i < xs.length:=by
  unfold atI at h
  cases e:ixN xs.length i with
  | none=>rw[e] at h;cases h
  | some j =>
    rw[e] at h
    obtain⟨h1,h2,h3,h4⟩:=ixN_seq e
    exact⟨j,h1,h,h2,h3,h4⟩
theorem Zd6 {α:Type} {xs:List α} {j:Nat} {v:α} (h:xs[j]?=some v):atI xs (j:Int)=some v:=by
  have hj:j < xs.length:=(List.getElem?_eq_some_iff.mp h).1
  have e:ixN xs.length (j:Int)=some j:=by
    unfold ixN
    rw[if_pos (by omega),if_pos (by omega)];simp
  unfold atI;rw[e];exact h
noncomputable def PlainIx (b:Expr):Prop:=∀ o i,subscripted b false o i=operate [o,i] (getItem o i)
noncomputable def IxR (X:Cx) (r:R2):Prop :=
  ∀ (value slice:Expr) (pins:List (Addr×Obj)) (s:Shared) (σ:St) (H:Hp) (x y:V) (v u:Value) (Q:VK),Inv X pins σ H s→RelV x v→RelV y u→r x y H Q →
    subscripted slice false v u=operate [v,u] (getItem v u)→wpAny (model X.prog X.w) X.A (subscriptTail value slice v u) (EP X pins σ Q) X.xe s
noncomputable def MtR (X:Cx) (id:String) (r:V→List V→Hp→VK→Prop):Prop :=
  ∀ (pins:List (Addr×Obj)) (s:Shared) (σ:St) (H:Hp) (x:V) (xs:List V) (v:Value) (us:List Value) (Q:VK),Inv X pins σ H s→RelV x v→Vals xs us→r x xs H Q →
    wpAny (model X.prog X.w) X.A (call (.builtin id) (v :: us)) (EP X pins σ Q) X.xe s
section
variable {X:Cx} {a b:Expr} {ta tb:TE} {pos:Pos}
theorem Zb6 {r:R2} (hr:IxR X r) (ha:PE X a ta) (hb:PE X b tb) (hs:PlainIx b):PE X (.Subscript a b pos) (tOp r ta tb):=by
  intro pins s σ H Q I h
  exact Subscript_ (binT ha hb I h fun v u s2 x y H2 I2 rx ry q=>hr a b pins s2 σ H2 x y v u Q I2 rx ry q (hs _ _))
noncomputable def rIxL (K:PySem.W.Frag):R2:=fun x y H Q=>∃ p xs i v,x=.ref p∧y=.int i∧SqL K H p xs∧atI xs i=some v∧Q v H
noncomputable def rIxT (K:PySem.W.Frag):R2:=fun x y H Q=>∃ p xs i v,x=.ref p∧y=.int i∧SqT K H p xs∧atI xs i=some v∧Q v H
noncomputable def rIxS:R2:=fun x y H Q=>∃ z i c,x=.str z∧y=.int i∧z.length≤sizeLine∧atI z.cps.toList i=some c∧Q (.str ⟨#[c]⟩) H
theorem Zd5:IxR X (rIxL X.K):=by
  intro value slice pins s σ H x y v u Q I rx ry h hs
  obtain⟨p,xs,i,z,rfl,rfl,hq,he,q⟩:=h
  cases rx
  obtain⟨t,rfl⟩:=ry
  obtain⟨its,r,pl,hz⟩:=I.list hq
  obtain⟨j,h1,h2,h3,h4,h5⟩:=atI_get he
  obtain⟨w,ew,rw'⟩:=r.get h2
  have hl:=r.length
  have hn:=line63
  have fin:EP X pins σ Q w s:=⟨z,H,I,rw',q⟩
  by_cases h0:0≤i
  · have hj:i.toNat=j:=by
      rw[seqIndex_of h0 h5] at h1
      exact Option.some.inj h1
    exact item_listR pl.isList h0 (by omega) (by rw[hj];simpa using ew) fin hs
  · have hj:(i+(its.toArray.size:Int)).toNat=j:=by
      rw[seqIndex_neg (by omega) h4] at h1
      rw[List.size_toArray,← hl]
      exact Option.some.inj h1
    exact subscriptTail_builtinR (x:=w) pl.isList.typeIs slot_list_getitem.lookup
      (wpAny_getItem_list_neg (Q:=fun r s'=>r=w∧EP X pins σ Q r s') pl.isList (by omega) (by rw[List.size_toArray]<;>omega) (by omega) (by rw[hj];simpa using ew) ⟨rfl,fin⟩) hs
theorem Zb7:IxR X (rIxT X.K):=by
  intro value slice pins s σ H x y v u Q I rx ry h hs
  obtain⟨p,xs,i,z,rfl,rfl,hq,he,q⟩:=h
  cases rx
  obtain⟨t,rfl⟩:=ry
  obtain⟨its,r,pl,hz⟩:=I.tuple hq
  obtain⟨j,h1,h2,h3,h4,h5⟩:=atI_get he
  obtain⟨w,ew,rw'⟩:=r.get h2
  have hl:=r.length
  have hn:=line63
  have fin:EP X pins σ Q w s:=⟨z,H,I,rw',q⟩
  exact subscriptTail_builtinR (x:=w) pl.typeIs slot_tuple_getitem.lookup
    (getItem_tuple (j:=j) (Q:=fun r s'=>r=w∧EP X pins σ Q r s') pl (by omega) (by omega) (by rw[List.size_toArray,← hl];exact h1) (by simpa using ew) ⟨rfl,fin⟩) hs
theorem ix_str:IxR X rIxS:=by
  intro value slice pins s σ H x y v u Q I rx ry h hs
  obtain⟨z,i,c,rfl,rfl,hz,he,q⟩:=h
  obtain⟨t,rfl⟩:=rx
  obtain⟨t',rfl⟩:=ry
  obtain⟨j,h1,h2,h3,h4,h5⟩:=atI_get he
  have hl:z.cps.toList.length=z.length:=by simp[Str.length]
  rw[hl] at h1 h4 h5
  have hn:=line63
  exact tail_any (typeIs_str s z t) slot_str_getitem.lookup (getItem_str (c:=c) (by
    have e1:decide (i < -(2 ^ 63:Int))=false:=decide_eq_false (by omega)
    have e2:decide (i ≥ 2 ^ 63)=false:=decide_eq_false (by omega)
    rw[e1,e2,Bool.or_false]) (by rw[h1];simpa using h2) ⟨.str ⟨#[c]⟩,H,I.tok _,⟨_,rfl⟩,q⟩) hs
theorem slice_bounds (lo hi:Option Int) (n:Nat):(sliceBounds lo hi none n).1=((HT.sIx n 0 lo:Nat):Int)∧(sliceBounds lo hi none n).2.1=((HT.sIx n n hi:Nat):Int)∧(sliceBounds lo hi none n).2.2=1:=by
  refine⟨?_,?_,rfl⟩
  · cases lo with
    | none=>simp[sliceBounds,HT.sIx]
    | some i =>
      simp only[sliceBounds,HT.sIx,Option.getD_none,show (1:Int) > 0 by decide,if_true]
      by_cases h:i < 0
      · simp only[h,if_true]<;>omega
      · simp only[h,if_false]<;>omega
  · cases hi with
    | none=>simp[sliceBounds,HT.sIx]
    | some i =>
      simp only[sliceBounds,HT.sIx,Option.getD_none,show (1:Int) > 0 by decide,if_true]
      by_cases h:i < 0
      · simp only[h,if_true]<;>omega
      · simp only[h,if_false]<;>omega
theorem slicePick_cut (its:List Value) (lo hi:Option Int):slicePick its.toArray lo hi none=((its.drop (HT.sIx its.length 0 lo)).take (HT.sIx its.length its.length hi - HT.sIx its.length 0 lo)).toArray:=by
  obtain⟨h1,h2,h3⟩:=slice_bounds lo hi its.toArray.size
  unfold slicePick
  rw[h1,h2,h3]
  simp only[sliceRange_one,pick_run,List.size_toArray]<;>rfl
noncomputable def rSlL (K:PySem.W.Frag):V→Option Int→Option Int→Hp→VK→Prop:=fun x lo hi H Q=>∃ a xs,x=.ref a∧SqL K H a xs∧∀ p,H p=none→Q (.ref p) (upd H p (.lst (cutV xs lo hi)))
theorem sl_list:SlR X (rSlL X.K):=by
  intro pins s σ H x v vl vu lo hi sl Q I rx hs pl pu h
  obtain⟨a,xs,rfl,hx,q⟩:=h
  cases rx
  obtain⟨its,r,ht,hz⟩:=I.list hx
  have hlen:=r.length
  refine⟨"list",_,slot_list_getitem.lookup,ht.isList.typeIs,?_⟩
  refine wpAny_getItem_list_slice ht.isList hs pl pu .none (by simp) ?_ (by rw[List.size_toArray]<;>omega)
  rw[slicePick_cut,← hlen]
  refine⟨.ref s.heap.objs.size,_,I.laid (t':=s.toks) (o:=.lst (cutV xs lo hi)) (fun b ob q=>Heap.get?_push_of_some _ q) (Nat.le_refl _) ?_,rfl,q _ (I.hok.fresh (Nat.le_refl _))⟩
  exact⟨Nat.le_trans (cutV_length xs lo hi) hz,_,0,(r.drop (HT.sIx xs.length 0 lo)).take (HT.sIx xs.length xs.length hi - HT.sIx xs.length 0 lo),Heap.get?_push_size _ rfl⟩
noncomputable def flatV:V→Bool
  | .non=>true
  | .bl _=>true
  | .int _=>true
  | .str _=>true
  | _=>false
noncomputable def eqV:V→V→Bool
  | .non,.non=>true
  | .bl a,.bl b=>a == b
  | .bl a,.int b=>(if a then 1 else 0) == b
  | .int a,.bl b=>a == (if b then 1 else 0)
  | .int a,.int b=>a == b
  | .str a,.str b=>a == b
  | _,_=>false
theorem eqAt_V {A:Around} {s:Shared} {y x:V} {u v:Value} (ry:RelV y u) (rx:RelV x v) (fy:flatV y=true) (fx:flatV x=true):SeqAt.EqAt A s u v (eqV y x):=by
  cases y with
  | non =>
    cases ry
    cases x with
    | non=>cases rx;exact SeqAt.EqAt.same _
    | bl b=>cases rx;exact SeqAt.EqAt.none_bool b
    | int b=>obtain⟨t,rfl⟩:=rx;exact SeqAt.EqAt.none_int b t
    | str b=>obtain⟨t,rfl⟩:=rx;exact SeqAt.EqAt.none_str b t
    | _=>exact absurd (show false=true from fx) Bool.false_ne_true
  | bl a =>
    cases ry
    cases x with
    | non=>cases rx;exact SeqAt.EqAt.bool_none a
    | bl b=>cases rx;exact SeqAt.EqAt.bool_bool a b
    | int b=>obtain⟨t,rfl⟩:=rx;exact SeqAt.EqAt.bool_int a b t
    | str b=>obtain⟨t,rfl⟩:=rx;exact SeqAt.EqAt.bool_str a b t
    | _=>exact absurd (show false=true from fx) Bool.false_ne_true
  | int a =>
    obtain⟨t',rfl⟩:=ry
    cases x with
    | non=>cases rx;exact SeqAt.EqAt.int_none a t'
    | bl b=>cases rx;exact SeqAt.EqAt.int_bool a t' b
    | int b=>obtain⟨t,rfl⟩:=rx;exact SeqAt.EqAt.int_int a t' b t
    | str b=>obtain⟨t,rfl⟩:=rx;exact SeqAt.EqAt.int_str a t' b t
    | _=>exact absurd (show false=true from fx) Bool.false_ne_true
  | str a =>
    obtain⟨t',rfl⟩:=ry
    cases x with
    | non=>cases rx;exact SeqAt.EqAt.str_none a t'
    | bl b=>cases rx;exact SeqAt.EqAt.str_bool a t' b
    | int b=>obtain⟨t,rfl⟩:=rx;exact SeqAt.EqAt.str_int a t' b t
    | str b=>obtain⟨t,rfl⟩:=rx;exact SeqAt.EqAt.str_str a t' b t
    | _=>exact absurd (show false=true from fx) Bool.false_ne_true
  | _=>exact absurd (show false=true from fy) Bool.false_ne_true
noncomputable def eqU (x:V) (u:Value):Bool:=match u with
  | .none=>eqV .non x
  | .bool b=>eqV (.bl b) x
  | .int i _=>eqV (.int i) x
  | .str z _=>eqV (.str z) x
  | _=>false
theorem eqU_of {x y:V} {u:Value} (r:RelV y u) (f:flatV y=true):eqU x u=eqV y x:=by
  cases y with
  | non=>cases r;rfl
  | bl b=>cases r;rfl
  | int i=>obtain⟨t,rfl⟩:=r;rfl
  | str z=>obtain⟨t,rfl⟩:=r;rfl
  | _=>exact absurd (show false=true from f) Bool.false_ne_true
theorem any_eqU {x:V}:∀ {xs:List V} {us:List Value},Vals xs us→xs.all flatV=true→us.any (eqU x)=xs.any fun y=>eqV y x
  | _,_,.nil,_=>rfl
  | y :: xs,u :: us,.cons r t,f=>by
    rw[List.all_cons,Bool.and_eq_true] at f
    rw[List.any_cons,List.any_cons,eqU_of r f.1,any_eqU t f.2]
theorem mem_eqAt {A:Around} {s:Shared} {x:V} {v:Value} (rx:RelV x v) (fx:flatV x=true):∀ {xs:List V} {us:List Value},Vals xs us→xs.all flatV=true→∀ u∈us,SeqAt.EqAt A s u v (eqU x u)
  | _,_,.nil,_=>fun u hu=>by cases hu
  | y :: xs,u :: us,.cons r t,f=>fun u' hu=>by
    rw[List.all_cons,Bool.and_eq_true] at f
    rcases List.mem_cons.mp hu with rfl | hu
    · rw[eqU_of r f.1];exact eqAt_V r rx f.1 fx
    · exact mem_eqAt rx fx t f.2 u' hu
noncomputable def inV (x:V) (xs:List V):Bool:=xs.any fun y=>eqV y x
noncomputable def rIn (K:PySem.W.Frag) (neg:Bool):R2:=fun x y H Q=>∃ p xs,y=.ref p∧(SqL K H p xs∨SqT K H p xs)∧flatV x=true∧xs.all flatV=true∧Q (.bl (if neg then !inV x xs else inV x xs)) H
theorem op_in_seq:OpR X (compareOp .In) (rIn X.K false):=by
  intro pins s σ H x y v u Q I rx ry h
  obtain⟨p,xs,rfl,hq,fx,fs,q⟩:=h
  cases ry
  rcases hq with hq | hq
  · obtain⟨its,r,pl,hz⟩:=I.list hq
    refine SeqAt.in_listAt (eqU x) pl.isList (fun w hw=>mem_eqAt rx fx r fs w (by simpa using hw)) ⟨.bl _,H,I,rfl,?_⟩
    rw[show its.toArray.any (eqU x)=its.any (eqU x) by simp,any_eqU r fs]
    exact q
  · obtain⟨its,r,pl,hz⟩:=I.tuple hq
    refine SeqAt.in_tupleAt (eqU x) pl (fun w hw=>mem_eqAt rx fx r fs w (by simpa using hw)) ⟨.bl _,H,I,rfl,?_⟩
    rw[show its.toArray.any (eqU x)=its.any (eqU x) by simp,any_eqU r fs]
    exact q
theorem Zc3:CallR X (.builtin "len") (fun xs H Q=>∃ p ys,xs=[.ref p]∧(SqL X.K H p ys∨SqT X.K H p ys)∧Q (.int ys.length) H):=by
  intro pins s σ H xs us Q I r h
  obtain⟨p,ys,rfl,hq,q⟩:=h
  obtain⟨u,rfl,rx⟩:=vals1 r
  cases rx
  have hn:=line63
  rcases hq with hq | hq
  · obtain⟨its,r',pl,hz⟩:=I.list hq
    have hlen:=r'.length
    exact Calls.call_len_list pl.isList (by simp only[List.size_toArray]<;>omega) ⟨.int ys.length,H,I.tok _,⟨s.toks+1,by rw[List.size_toArray,hlen]⟩,q⟩
  · obtain⟨its,r',pl,hz⟩:=I.tuple hq
    have hlen:=r'.length
    exact len_tuple pl (by simp only[List.size_toArray]<;>omega) ⟨.int ys.length,H,I.tok _,⟨s.toks+1,by rw[List.size_toArray,hlen]⟩,q⟩
theorem Zd8:CallR X (.type "list") (fun xs H Q=>∃ p ys,xs=[.ref p]∧(SqL X.K H p ys∨SqT X.K H p ys)∧∀ l,H l=none→Q (.ref l) (upd H l (.lst ys))):=by
  intro pins s σ H xs us Q I r h
  obtain⟨p,ys,rfl,hq,q⟩:=h
  obtain⟨u,rfl,rx⟩:=vals1 r
  cases rx
  have fin:∀ (its:List Value),Vals ys its→ys.length≤sizeLine→∀ (h':Heap) (c':Nat),(∀ b o',s.heap.get? b=some o'→h'.get? b=some o') →
      h'.get? s.heap.objs.size=some { cls:=.type "list",dict:=none,data:=.seq its.toArray c',slots:=#[] }→EP X pins σ Q (.ref s.heap.objs.size) { s with heap:=h' }:=fun its r' hz h' c' kp e =>
    ⟨.ref s.heap.objs.size,_,I.laid (t':=s.toks) kp (Nat.le_refl _) (show ObjOk X.prog X.w _ h' _ (.lst ys) from ⟨hz,its,c',r',e⟩),rfl,q _ (I.hok.fresh (Nat.le_refl _))⟩
  rcases hq with hq | hq
  · obtain⟨its,r',pl,hz⟩:=I.list hq
    have hlen:=r'.length
    obtain⟨o,ho,hc,n,hd⟩:=pl.isList
    exact call_list_seq p (.inl rfl) ho hc hd (fun h' c' kp e=>fin its r' hz h' c' kp e) (by simp only[List.size_toArray]<;>omega)
  · obtain⟨its,r',pl,hz⟩:=I.tuple hq
    have hlen:=r'.length
    obtain⟨o,ho,hc,n,hd⟩:=pl
    exact call_list_seq p (.inr rfl) ho hc hd (fun h' c' kp e=>fin its r' hz h' c' kp e) (by simp only[List.size_toArray]<;>omega)
noncomputable def tyV (K:PySem.W.Frag) (T:String) (x:V) (H:Hp):Prop:=match x with
  | .str _=>T="str"
  | .int _=>T="int"
  | .ref p=>(T="list"∧∃ xs,SqL K H p xs)∨(T="tuple"∧∃ o,K.lookup p=some o∧o.cls=.type "tuple"∧o.dict=none) ∨
      (T="dict"∧((∃ kvs,H p=some (.dK kvs))∨∃ kvs,H p=some (.dT kvs)))∨(T="set"∧∃ S n,H p=some (.set S n))
  | _=>False
theorem tyV_is {pins:List (Addr×Obj)} {σ:St} {H:Hp} {s:Shared} {T:String} {x:V} {v:Value} (I:Inv X pins σ H s) (r:RelV x v) (ty:tyV X.K T x H) :
    s.TypeIs v T∧∀ a,v=.ref a→∃ ob,s.heap.get? a=some ob∧ob.dict=none:=by
  cases x with
  | str z =>
    obtain⟨t,rfl⟩:=r
    cases (show T="str" from ty)
    exact⟨typeIs_str s z t,fun _ e=>nomatch e⟩
  | int i =>
    obtain⟨t,rfl⟩:=r
    cases (show T="int" from ty)
    exact⟨typeIs_int s i t,fun _ e=>nomatch e⟩
  | ref p =>
    cases r
    rcases ty with ⟨rfl,xs,hq⟩ | ⟨rfl,o,hk,hc,hd⟩ | ⟨rfl,hk⟩ | ⟨rfl,S,n,hk⟩
    · obtain⟨its,_,pl,_⟩:=I.list hq
      refine⟨pl.isList.typeIs,fun a e=>?_⟩
      cases e
      obtain⟨o,n,e,c,hd,_⟩:=pl
      exact⟨o,e,hd⟩
    · refine⟨⟨o,I.kIn p o hk,hc⟩,fun a e=>?_⟩
      cases e
      exact⟨o,I.kIn _ o hk,hd⟩
    · have z:∃ o,s.heap.get? p=some o∧o.ExactDict:=by
        rcases hk with ⟨kvs,hk⟩ | ⟨kvs,hk⟩
        · obtain⟨_,_,_,_,o,_,_,e,ex,_⟩:=I.hok p _ hk
          exact⟨o,e,ex⟩
        · obtain⟨_,_,_,_,o,_,_,e,ex,_⟩:=I.hok p _ hk
          exact⟨o,e,ex⟩
      obtain⟨o,e,ex⟩:=z
      refine⟨⟨o,e,ex.1⟩,fun a e2=>?_⟩
      cases e2
      exact⟨o,e,ex.2.1⟩
    · obtain⟨o,_,_,_,e,ex,_⟩:=I.hok p _ hk
      refine⟨⟨o,e,ex.1⟩,fun a e2=>?_⟩
      cases e2
      exact⟨o,e,ex.2.1⟩
  | _=>exact False.elim ty
noncomputable def tBM0 (K:PySem.W.Frag) (T:String) (r:V→List V→Hp→VK→Prop) (to:TE):TE:=fun σ H Q=>to σ H fun x H1=>tyV K T x H1∧r x [] H1 Q
noncomputable def tBM (K:PySem.W.Frag) (T:String) (r:V→List V→Hp→VK→Prop) (to:TE) (t:TA):TE:=fun σ H Q=>to σ H fun x H1=>tyV K T x H1∧t σ H1 fun xs H2=>r x xs H2 Q
variable {o e:Expr} {es:List Expr} {to:TE} {t:TA} {name:Str} {apos cpos:Pos} {T id:String} {r:V→List V→Hp→VK→Prop}
theorem pe_bm0 (pa:PlainAttrs T) (slot:Slot T name id) (hty:typeOf (.builtin id)=pure (.type "method_descriptor")) (hm:MtR X id r) (ho:PE X o to)
    (hbase:attributeBase o name X.env (eval o X.env)=eval o X.env:=by rfl) (hline:(apos.endLine == cpos.line)=true:=by rfl):PE X (.Call (.Attribute o name apos) [] [] cpos) (tBM0 X.K T r to):=by
  intro pins s σ H Q I h
  refine wpAny_Call_method0_late hbase hline (thn (ho pins s σ H _ I h) fun v s1 ⟨x,H1,I1,r1,ty,q1⟩=>?_)
  obtain⟨h1,h2⟩:=tyV_is I1 r1 ty
  exact⟨T,id,pa,slot,hty,h1,h2,Calls.callWith_builtin rfl (PySem.evalArgs_none (hm pins s1 σ H1 x [] v [] Q I1 r1 .nil q1))⟩
theorem pe_bm (pa:PlainAttrs T) (slot:Slot T name id) (hty:typeOf (.builtin id)=pure (.type "method_descriptor")) (hm:MtR X id r) (ho:PE X o to) (ha:PA X (e :: es) t)
    (hbase:attributeBase o name X.env (eval o X.env)=eval o X.env:=by rfl)
    (hfew:((backTo cpos (starEach (e :: es) X.env)).all (fun x=>!x.1)&&(backToKw cpos (keywordEach [] X.env)).all (fun x=>x.1.isSome)
      && decide ((e :: es).length+([]:List Keyword).length+(if ([]:List Keyword).isEmpty then 0 else 1) < 30))=true:=by rfl)
    (hline:(apos.endLine == cpos.line)=true:=by rfl) (hs:starEach (e :: es) X.env=(false,eval e X.env) :: starEach es X.env:=by rfl) (hplain:(backTo cpos (starEach es X.env)).any (·.1)=false:=by rfl) :
    PE X (.Call (.Attribute o name apos) (e :: es) [] cpos) (tBM X.K T r to t):=by
  intro pins s σ H Q I h
  refine wpAny_Call_method_late hbase hfew hline rfl (thn (ho pins s σ H _ I h) fun v s1 ⟨x,H1,I1,r1,ty,q1⟩=>?_)
  obtain⟨h1,h2⟩:=tyV_is I1 r1 ty
  refine⟨T,id,pa,slot,hty,h1,h2,?_⟩
  have hA:=ha cpos pins s1 σ H1 _ I1 q1
  rw[hs] at hA ⊢
  refine Calls.callWith_builtin (by show (false||(backTo cpos (starEach es X.env)).any (·.1))=false;rw[hplain]<;>rfl) (Calls.evalArgs_plain ?_)
  exact thn hA fun us s2 ⟨vs,H2,I2,r2,q2⟩=>hm pins s2 σ H2 x vs v us Q I2 r1 r2 q2
end
end L2
namespace L2
open PySem PySem.Spec PyProof.Rows
noncomputable def MtM (X:Cx) (id:String) (r:V→List V→Hp→VK→Prop):Prop :=
  ∀ (pins:List (Addr×Obj)) (s:Shared) (σ:St) (H:Hp) (x:V) (xs:List V) (v:Value) (us:List Value) (Q:VK),Inv X pins σ H s→RelV x v→Vals xs us→r x xs H Q →
    wpAny (model X.prog X.w) X.A (call (.builtin id) (v :: us)) (EP X pins σ Q) X.xe s
theorem Vals.one:∀ {x:V} {us:List Value},Vals [x] us→∃ u,us=[u]∧RelV x u
  | _,_,.cons r .nil=>⟨_,rfl,r⟩
theorem Vals.zero:∀ {us:List Value},Vals [] us→us=[]
  | _,.nil=>rfl
theorem Vals.dropLast {xs:List V} {us:List Value} (h:Vals xs us):Vals xs.dropLast us.dropLast:=by
  induction h with
  | nil=>exact .nil
  | cons r t ih =>
    cases t with
    | nil=>exact .nil
    | cons q t'=>exact .cons r ih
theorem erase_last {α:Type} (l:List α):l.eraseIdx (l.length - 1)=l.dropLast:=by
  induction l with
  | nil=>rfl
  | cons a r ih =>
    cases r with
    | nil=>rfl
    | cons b r =>
      have e:(a :: b :: r).length - 1=((b :: r).length - 1)+1:=by
        have h1:(a :: b :: r).length=r.length+2:=rfl
        have h2:(b :: r).length=r.length+1:=rfl
        omega
      rw[e,List.eraseIdx_cons_succ,ih]
      all_goals rfl
section
variable {X:Cx} {pins:List (Addr×Obj)} {σ:St} {H:Hp} {s:Shared} {l b:Addr} {xs ys zs:List V}
theorem Inv.lset {its its':List Value} {n:Nat} {f:Array Value→Array Value} {t':Nat} (I:Inv X pins σ H s) (hH:H l=some (.lst xs))
    (e:s.heap.get? l=some { cls:=.type "list",data:=.seq its.toArray n }) (hf:f its.toArray=its'.toArray) (hv:Vals ys its') (hz:ys.length≤sizeLine) :
    Inv X pins σ (upd H l (.lst ys)) { s with heap:=s.heap.update l (Obj.mapSeq f),toks:=t' }:=by
  have q:=PySem.IsL.update e f
  rw[hf] at q
  refine I.write (x:=l) (e:=l) (by rw[hH];exact trivial) (.inl rfl) (fun b' u hb hu=>(Heap.get?_update_other s.heap (Obj.mapSeq f) (Ne.symm hb)).trans hu) ⟨_,q⟩ ?_
  exact⟨hz,its',_,hv,q⟩
theorem Inv.lnew {its:List Value} {t':Nat} (I:Inv X pins σ H s) (hv:Vals ys its) (hz:ys.length≤sizeLine) :
    Inv X pins σ (upd H s.heap.objs.size (.lst ys)) { s with heap:=s.heap.push { cls:=.type "list",data:=.seq its.toArray },toks:=t' } :=
  I.laid (fun _ _ q=>Heap.get?_push_of_some _ q) (Nat.le_refl _) ⟨hz,its,0,hv,Heap.get?_push_size _ rfl⟩
theorem Inv.fresh (I:Inv X pins σ H s):H s.heap.objs.size=none:=I.hok.fresh (Nat.le_refl _)
theorem Inv.lstM (I:Inv X pins σ H s) (hH:H l=some (.lst xs)):xs.length≤sizeLine∧∃ (its:List Value) (n:Nat),Vals xs its∧xs.length=its.length∧s.heap.get? l=some { cls:=.type "list",data:=.seq its.toArray n }:=by
  obtain⟨z,its,n,r,e⟩:=I.hok l _ hH
  exact⟨z,its,n,r,r.length,e⟩
end
section
variable {X:Cx}
noncomputable def rAppend:V→List V→Hp→VK→Prop:=fun x vs H Q=>∃ l xs y,x=.ref l∧vs=[y]∧H l=some (.lst xs)∧xs.length < sizeLine∧Q .non (upd H l (.lst (xs++[y])))
theorem Zg5:MtM X "list.append" rAppend:=by
  intro pins s σ H x vs v us Q I rx rv h
  obtain⟨l,xs,y,rfl,rfl,hH,hz,q⟩:=h
  cases rx
  obtain⟨u,rfl,ru⟩:=rv.one
  obtain⟨z,its,n,r,hl,e⟩:=I.lstM hH
  refine call_meets F.slot_list_append ⟨_,e,rfl⟩ F.entry_list_append (F.args_list_append_2 _ _) (PySem.list_append l its.toArray n u (by rw[List.size_toArray];omega)) ⟨e,?_⟩
  refine⟨.non,_,I.lset (its':=its++[u]) hH e (by simp) (r.append (.cons ru .nil)) ?_,rfl,q⟩
  rw[List.length_append,List.length_singleton]
  omega
noncomputable def rPop:V→List V→Hp→VK→Prop:=fun x vs H Q=>∃ l xs y,x=.ref l∧vs=[]∧H l=some (.lst xs)∧xs[xs.length - 1]?=some y∧Q y (upd H l (.lst xs.dropLast))
theorem mt_pop:MtM X "list.pop" rPop:=by
  intro pins s σ H x vs v us Q I rx rv h
  obtain⟨l,xs,y,rfl,rfl,hH,hy,q⟩:=h
  cases rx
  have hus:=rv.zero
  subst hus
  obtain⟨z,its,n,r,hl,e⟩:=I.lstM hH
  obtain⟨u,hu,ru⟩:=r.get hy
  have hy':its.toArray[its.toArray.size - 1]?=some u:=by
    show its.toArray[its.length - 1]?=some u
    rw[← Array.getElem?_toList,← hl]
    exact hu
  refine call_meets F.slot_list_pop ⟨_,e,rfl⟩ F.entry_list_pop (F.args_list_pop_1 _) (MeetsSeq.list_pop_last l its.toArray n u hy' (by rw[List.size_toArray];omega)) ⟨e,?_⟩
  refine⟨y,_,I.lset (its':=its.dropLast) hH e ?_ r.dropLast ?_,ru,q⟩
  · show its.toArray.eraseIdxIfInBounds (its.toArray.size - 1)=its.dropLast.toArray
    rw[List.size_toArray,List.eraseIdxIfInBounds_toArray,erase_last]
  · rw[List.length_dropLast]
    omega
noncomputable def rCat:R2:=fun x y H Q=>∃ l b xs zs,x=.ref l∧y=.ref b∧H l=some (.lst xs)∧H b=some (.lst zs)∧xs.length+zs.length≤sizeLine∧∀ p,H p=none→Q (.ref p) (upd H p (.lst (xs++zs)))
theorem Zh1:OpR X (binaryOp .Add) rCat:=by
  intro pins s σ H x y v u Q I rx ry h
  obtain⟨l,b,xs,zs,rfl,rfl,hH,hB,hz,q⟩:=h
  cases rx
  cases ry
  obtain⟨z,its,n,r,hl,e⟩:=I.lstM hH
  obtain⟨z2,its2,n2,r2,hl2,e2⟩:=I.lstM hB
  refine PySem.P.add_list e e2 ?_ (by rw[List.size_toArray,List.size_toArray];omega)
  have ea:its.toArray++its2.toArray=(its++its2).toArray:=by simp
  rw[ea]
  exact⟨.ref _,_,I.lnew (t':=s.toks) (r.append r2) (by rw[List.length_append];omega),rfl,q _ I.fresh⟩
end
end L2
namespace Att
open PySem PySem.W PySem.Calls PyProof.Rows
theorem ints_of_wellAll {P:Params} {h:Heap}:∀ (ns:List Int) (vs:List Value),WellAll P h vs (ns.map WData.int)→IntsAre vs ns:=by
  intro ns
  induction ns with
  | nil =>
    intro vs w
    rw[List.map_nil] at w
    cases w
    exact .nil
  | cons n ns ih =>
    intro vs w
    rw[List.map_cons] at w
    cases w with
    | cons a b =>
      cases a
      exact .cons _ _ (ih _ b)
theorem script_of {l:OpenLaw} {n:Nat} (hn:l.most=some n) {P:Params} {h:Heap} {args:List WData} {vals:List Value}
    (hpre:l.row.toRowW.claim.pre args=true) (hwl:WellAll P h vals args) :
    ∃ a vs ns,vals=[Value.ref a]∧args=[WData.list (ns.map WData.int)]∧h.get? a=some { cls:=.type "list",data:=.seq vs.toArray }∧IntsAre vs ns∧ns.length≤n:=by
  have hsh:WShape.hasAll [] args [.list .int]=true:=(pre_splitW hpre).1
  have hc:l.pre.holds [] { args:=args }=true:=(pre_splitW hpre).2
  obtain⟨d,r,rfl,h1,h2⟩:=hasAllW_cons hsh
  obtain rfl:=hasAllW_nil h2
  obtain⟨xs,rfl,h3⟩:=hasW_list h1
  obtain⟨ns,rfl⟩:=items_int h3
  have hlen:ns.length≤n:=by
    unfold OpenLaw.pre at hc
    have h4:(WTm.not (.lt (.lit (.int (n:Int))) (.len (.arg 0)))).holds [] { args:=[.list (ns.map .int)] }=true:=by
      have h4:=(holds_andW hc).1
      rw[hn] at h4
      exact h4
    have h5:=condW_of h4 (w_not (w_lt w_lit (w_len_list (w_arg rfl))))
    rw[List.length_map] at h5
    refine Nat.le_of_not_lt fun q=>?_
    have q':(n:Int) < ((ns.length:Nat):Int):=by omega
    first
      | (rw[decide_eq_true q'] at h5;exact absurd h5 (by decide))
      | (simp at h5;omega)
  cases hwl with
  | cons w1 w2 =>
    cases w2
    cases w1 with
    | list ho hall=>exact⟨_,_,ns,rfl,rfl,ho,ints_of_wellAll ns _ hall,hlen⟩
theorem post_true (l:OpenLaw) (args:List WData):l.row.toRowW.claim.post args (.bool true) args=true :=
  postW_of (r:=l.row.toRowW) (X:=(true == true))
    (show WShape.has [] (.bool true) .bool=true by first | rfl | decide | simp[WShape.has,WShape.arms,WShape.armsAll])
    (show (WTm.eq .res (.lit (.bool true))).value [] { args:=args,res:=some (.bool true),after:=args }=some (.bool (true == true)) from w_eq_bool (w_res rfl) w_lit) rfl
theorem attach_call {l:OpenLaw} {n:Nat} {q:Program} {loose:List Str} {XP:(Str→Option Value)→Heap→Prop} {YP:World→Heap→Prop} {d:DefRec}
    (hn:l.most=some n) (hdf:d.params.defaults=[])
    (call:∀ (w:World) (s₀ s₁:Shared) (mg mb:Str→Option Value) (fa:Addr) (o:Obj) (pm cd doc:Value) (a:Addr) (vs:List Value) (ns:List Int),
      Ground q loose [] XP w s₀ mg mb s₁.heap→YP w s₁.heap →
      s₁.heap.get? fa=some o→o.data=.func (docDef d.name d.params d.body d.scope pm cd doc)→s₁.heap.CodeRec cd d.name→mg d.name=some (.ref fa) →
      s₁.heap.get? a=some { cls:=.type "list",data:=.seq vs.toArray }→IntsAre vs ns→ns.length≤n→s₁.gens=#[] →
      codeAny (model l.prog w) callerA (.call (.ref fa) ⟨[.ref a],[]⟩) (fun r s'=>r=.ok (.ret (.bool true))∧OldK s₁.heap s'.heap∧s'.os=s₁.os∧AllBare s'.gens) s₁) :
    WalkO q loose XP YP l.row.toRowW d [] (fun f vs=>PySem.call f vs):=by
  intro w s₀ s₁ mg mb G Y fa o pm cd doc dV kV ho hd hcd hD hmg hg args vals as hpre hlay hrd hwl hlo
  obtain rfl:dV=.none:=Dflts.none hD hdf
  obtain rfl:kV=.none:=Dflts.noKw hD
  obtain⟨a,vs,ns,rfl,rfl,hobj,hints,hlen⟩:=script_of hn hpre hwl
  refine enter_call (codeAny_mono (call w s₀ s₁ mg mb fa o pm cd doc a vs ns G Y ho (fd_plain hd) hcd hmg hobj hints hlen hg) fun r s' hq=>?_)
  obtain⟨rfl,h2,h3,h4⟩:=hq
  exact⟨.inl ⟨.bool true,.bool true,[],rfl,fun _=>rfl,.bool true,post_true l _,fun _=>⟨List.Pairwise.nil,fun _ hm=>(nomatch hm)⟩⟩,h2,h3,h4⟩
section
variable {prog:Program} {w:World} {A:Around} {E:Value→Shared→Prop} {s:Shared} {K:Frag}
noncomputable def noObjs (h:Heap):Heap:={ h with objs:=#[] }
theorem noObjs_get (h:Heap) (b:Addr):(noObjs h).get? b=none:=by
  cases e:(noObjs h).get? b with
  | none=>rfl
  | some o=>exact absurd (Heap.lt_size e) (Nat.not_lt_zero _)
noncomputable def ledger (h:Heap) (L d:Addr):List (Addr×Obj):=(List.range h.objs.size).filterMap fun a=>if a=L∨a=d then none else (h.get? a).map fun o=>(a,o)
theorem mem_ledger {h:Heap} {L d a:Addr} {o:Obj}:(a,o)∈ledger h L d↔a≠L∧a≠d∧h.get? a=some o:=by
  unfold ledger
  rw[List.mem_filterMap]
  constructor
  · rintro⟨b,_,e⟩
    split at e
    · cases e
    · rename_i hb
      obtain⟨o',ho,e'⟩:=Option.map_eq_some_iff.mp e
      cases e'
      exact⟨fun q=>hb (.inl q),fun q=>hb (.inr q),ho⟩
  · rintro⟨n1,n2,ho⟩
    refine⟨a,List.mem_range.mpr (Heap.lt_size ho),?_⟩
    rw[if_neg (show ¬ (a=L∨a=d) from fun q=>q.elim n1 n2),ho]<;>rfl
theorem news_ledger {h:Heap} {L d:Addr} {od:Obj} (hne:d≠L) (ho:h.get? d=some od):News (noObjs h) L h ([]++(d,od) :: ledger h L d):=by
  rintro⟨a,o⟩ hp
  rcases List.mem_cons.mp hp with e | hp
  · cases e
    exact⟨ho,hne,noObjs_get _ _⟩
  · obtain⟨n1,n2,e⟩:=mem_ledger.mp hp
    exact⟨e,n1,noObjs_get _ _⟩
theorem fr_all {h:Heap} {L:Addr} {m:Str→Option Value} (n:h.Ns L m):Fr (noObjs h) L h m :=
  ⟨n,fun b o e=>(by rw[noObjs_get] at e;cases e),Nat.zero_le _⟩
end
end Att
namespace L2
open PySem PySem.Spec PyProof.Rows
theorem vals_ints:∀ {vs:List Value} {ns:List Int},IntsAre vs ns→Vals (ns.map V.int) vs
  | _,_,.nil=>.nil
  | _,_,.cons n t h=>.cons ⟨t,rfl⟩ (vals_ints h)
noncomputable def Only (H:Hp):Prop:=∀ b,H b=none∨∃ o xs,H b=some (.frz o (.lst xs))
theorem law_call {P:Program} {w:World} {K:PySem.W.Frag} {mg mb:Str→Option Value} {CX:CXT} {k:Nat} {fa a:Addr} {fd:FuncData} {x:Str} {sp:Sp} {s₁:Shared} {vs:List Value} {ns:List Int}
    (KX:K.In s₁.heap) (hns:s₁.heap.Ns mainGlobals mg) (hb:s₁.heap.Ns builtinsNs mb) (hbb:∀ x:Str,x≠"__name__"→mb x=bootBuiltins x) (hlim:s₁.heap.NoLimit) (hg:s₁.gens=#[])
    (ha:s₁.heap.get? a=some { cls:=.type "list",data:=.seq vs.toArray }) (hi:IntsAre vs ns) (hl:ns.length≤sizeLine) (hr:Room k callerA)
    (F:∀ base:Heap,K.In base→base.Ns mainGlobals mg→FnOk P w K mg base CX k fa fd [x] sp) (hbind:∀ (s:Shared) (u:Value),BindsTo s fd ⟨[u],[]⟩ [(x,u)])
    (hsp:∀ H:Hp,Only H→SqL K H a (ns.map V.int)→sp [.ref a] H (fun v _=>v=.bl true) fun _ _ _=>False)
    (hCX:∀ H e s',CX [] H s₁ (fun _ _ _=>False) e s'→False) :
    codeAny (model P w) callerA (.call (.ref fa) ⟨[.ref a],[]⟩) (fun r s'=>r=.ok (.ret (.bool true))∧OldK s₁.heap s'.heap∧s'.os=s₁.os∧AllBare s'.gens) s₁:=by
  have rv:=vals_ints hi
  have lenV:=hi.length
  have core:∀ H:Hp,Only H→SqL K H a (ns.map V.int)→HOk P w H s₁.heap→(∀ b,H b≠none→b=a)→(H a≠none→K.lookup a=none) →
      codeAny (model P w) callerA (.call (.ref fa) ⟨[.ref a],[]⟩) (fun r s'=>r=.ok (.ret (.bool true))∧OldK s₁.heap s'.heap∧s'.os=s₁.os∧AllBare s'.gens) s₁:=by
    intro H hO hS hok hA hK
    have base_of:∀ {b:Addr} {o:Obj},s₁.heap.get? b=some o→H b=none→(hidT s₁.heap H).get? b=some o:=fun e n=>hidT_get e n
    have noA:∀ {b:Addr} {o:Obj} {es:Array DictEntry} {ep:Nat},s₁.heap.get? b=some o→o.data=.dict es ep→H b=none:=fun {b o es ep} e d=>by
      cases q:H b with
      | none=>rfl
      | some u =>
        have e':b=a:=hA b (by rw[q];simp)
        subst e'
        rw[ha] at e;cases e
        have d':Data.seq vs.toArray _=Data.dict es ep:=d
        cases d'
    have nsK:∀ {b:Addr} {m:Str→Option Value},s₁.heap.Ns b m→(hidT s₁.heap H).Ns b m:=fun {b m} ⟨o,es,ep,e,d,r⟩=>⟨o,es,ep,base_of e (noA e d),d,r⟩
    have hKb:K.In (hidT s₁.heap H):=fun b o e=>base_of (KX b o e) (by
      cases q:H b with
      | none=>rfl
      | some u =>
        have e':b=a:=hA b (by rw[q];simp)
        subst e'
        rw[hK (by rw[q];simp)] at e;cases e)
    have hM:Mod K mg (hidT s₁.heap H):=⟨hKb,nsK hns,⟨mb,nsK hb,hbb⟩,let ⟨mc,h1,h2⟩:=hlim;⟨mc,nsK h1,h2⟩⟩
    have e0:Env0 P w K mg (hidT s₁.heap H) callerA [] s₁ H:=⟨rfl,hM,fun b o e=>of_hidT e,Nat.le_of_eq (hidT_size _ _),trivial,fun b hb=>absurd (show b∈([]:List Addr) from hb) (by simp),hok,.of_eq hg⟩
    refine codeAny_mono ((F _ hKb (nsK hns)).run callerA [] s₁ H ⟨[.ref a],[]⟩ [.ref a] [.ref a] _ _ hr e0 (hbind s₁ (.ref a)) (.cons rfl .nil) (hsp H hO hS)) fun r s' h=>?_
    cases r with
    | error e=>exact (hCX H e s' h).elim
    | ok fl =>
      cases fl with
      | next=>exact False.elim h
      | brk=>exact False.elim h
      | cont=>exact False.elim h
      | ret u =>
        obtain⟨v,H',os,bare,un,hok',r',q⟩:=h
        have q':v=.bl true:=q
        subst q'
        obtain rfl:u=Value.bool true:=r'
        refine⟨rfl,OldK.of_keep fun b o e=>?_,os,bare⟩
        cases q:H b with
        | none=>exact un.keep b o e q (by intro z;exact absurd (show b∈([]:List Addr) from z) (by simp)) (by simp)
        | some u =>
          rcases hO b with z | ⟨ob,xs,z⟩
          · rw[q] at z;cases z
          · have z2:=un.frzs b ob _ z
            obtain⟨e1,_⟩:=hok b _ z
            obtain⟨e2,_⟩:=hok' b _ z2
            rw[e] at e1;cases e1
            exact e2
  cases hk:K.lookup a with
  | some o =>
    have e:=KX a o hk
    rw[ha] at e
    cases e
    refine core (fun _=>none) (fun _=>.inl rfl) (.inr ⟨_,vs.toArray,_,hk,rfl,rfl,rfl,by rw[List.size_toArray,lenV];exact hl,by simpa using rv⟩) (fun b u z=>by have z':(none:Option HO)=some u:=z;cases z') (fun b z=>absurd rfl z) fun z=>absurd rfl z
  | none =>
    refine core (fun b=>if b=a then some (.frz { cls:=.type "list",data:=.seq vs.toArray } (.lst (ns.map V.int))) else none) (fun b=>?_) (.inl (.inr ⟨{ cls:=.type "list",data:=.seq vs.toArray },if_pos rfl⟩)) (fun b u z=>?_) (fun b z=>?_) fun _=>hk
    · by_cases hb:b=a
      · exact .inr ⟨_,_,if_pos hb⟩
      · exact .inl (if_neg hb)
    · by_cases hb:b=a
      · have z':=(if_pos hb).symm.trans z
        cases z'
        subst hb
        exact⟨ha,by rw[List.length_map];exact hl,vs,_,rv,ha⟩
      · have z':=(if_neg hb).symm.trans z
        cases z'
    · by_cases hb:b=a
      · exact hb
      · exact absurd (if_neg hb) z
end L2
namespace L2
open PySem PySem.Spec PyProof.Rows
end L2
namespace L2
open PySem PySem.Spec PyProof.Rows
noncomputable def defArgs (s:Stmt):Arguments:=match s with
  | .FunctionDef _ a _ _ _ _ _ _ _ _=>a
  | _=>{ posonlyargs:=[],args:=[],vararg:=none,kwonlyargs:=[],kw_defaults:=[],kwarg:=none,defaults:=[] }
noncomputable def defBody (s:Stmt):List Stmt:=match s with
  | .FunctionDef _ _ b _ _ _ _ _ _ _=>b
  | _=>[]
noncomputable def defScope (s:Stmt):Scope:=match s with
  | .FunctionDef _ _ _ _ _ _ sc _ _ _=>sc
  | _=>{ kind:=.function,names:=[],isGenerator:=false,isCoroutine:=false }
noncomputable abbrev CX0:CXT:=fun _ _ _ _ _ _=>False
noncomputable abbrev E0:XK:=fun _ _ _=>False
theorem Zc2 {X:Cx}:Passes CX0 X E0:=fun _ _ _ _ _ _ _ h=>h.elim
structure Fun (K:PySem.W.Frag) (x qual:Str) (st:Stmt) (f:Addr) (fd:FuncData):Prop where
  ex:∃ (oc:Value) (od:Option Addr) (kV doc pm:Value) (an:Option Addr) (cdv ct:Value) (osl:Array (Option Value)),
    fd=PySem.W.fnOf x qual (defArgs st) (defBody st) (defScope st) .none kV doc pm an cdv ct∧K.lookup f=some ⟨oc,od,.func fd,osl⟩∧PySem.W.codeIn K cdv qual=true
  kp:PySem.W.keepIn K (.ref f)=true
section
variable {P:Program} {w:World} {K:PySem.W.Frag} {mg:Str→Option Value} {base:Heap}
theorem Fun.ok {x qual:Str} {st:Stmt} {f:Addr} {fd:FuncData} {N ps:List Str} {k:Nat} {sp:Sp} (F:Fun K x qual st f fd) (S:FnScope N ps (defScope st)) (len:∀ vs H Q E,sp vs H Q E→vs.length=ps.length)
    (hbody:∀ (cdv:Value) (A:Around) (outer:List Env) (s:Shared) (H:Hp) (vs:List V) (Q:VK) (E:XK),Room k (A.deeper (envOfC qual (defScope st) s.heap.objs.size f cdv))→sp vs H Q E →
      ∃ t,PSs (cxOf CX0 P w K mg base N qual (defScope st) f cdv A outer s H E).nox (defBody st) t∧t { nx:=fun _ H'=>Q .non H',rt:=Q } (start N vs) H):FnOk P w K mg base CX0 (k+1) f fd ps sp:=by
  obtain⟨oc,od,kV,doc,pm,an,cdv,ct,osl,rfl,lk,hcd⟩:=F.ex
  refine fn_of lk hcd S len fun A outer s H vs Q E hr hsp=>?_
  obtain⟨t,h,q⟩:=hbody cdv A outer s H vs Q E hr hsp
  exact⟨t,h.nox,q⟩
theorem Fun.binds {x qual:Str} {st:Stmt} {f:Addr} {fd:FuncData} {ps:List Str} (F:Fun K x qual st f fd)
    (h:∀ (kV doc pm:Value) (an:Option Addr) (cdv ct:Value) (us:List Value),us.length=ps.length→bindArgs (PySem.W.fnOf x qual (defArgs st) (defBody st) (defScope st) .none kV doc pm an cdv ct) ⟨us,[]⟩=pure (ps.zip us)):Binds K fd ps []:=by
  obtain⟨oc,od,kV,doc,pm,an,cdv,ct,osl,rfl,lk,hcd⟩:=F.ex
  exact .all (h kV doc pm an cdv ct)
theorem fun_mk {x qual:Str} {st:Stmt} {f:Addr} {oc:Value} {od an:Option Addr} {osl:Array (Option Value)} {kV doc pm cdv ct:Value} (l:K.lookup f=some ⟨oc,od,.func (PySem.W.fnOf x qual (defArgs st) (defBody st) (defScope st) .none kV doc pm an cdv ct),osl⟩)
    (c:PySem.W.codeIn K cdv qual=true) (k:PySem.W.keepIn K (.ref f)=true):Fun K x qual st f (PySem.W.fnOf x qual (defArgs st) (defBody st) (defScope st) .none kV doc pm an cdv ct):=⟨⟨oc,od,kV,doc,pm,an,cdv,ct,osl,rfl,l,c⟩,k⟩
end
theorem hu_of {A:Around} {k:Nat} (hr:Room k A):A.units+1 < cLine:=Nat.lt_of_le_of_lt (Nat.add_le_add_left (by decide:1≤64) _) hr.units
theorem Zb3 {n:Nat} (h:n≤1000):n < sizeLine:=Nat.lt_of_le_of_lt h (by decide)
section
variable {X:Cx}
theorem pv (i:Nat) {x:Str} {pos:Pos} (hN:X.N[i]?=some x:=by rfl) (hv:Vis X.env.scope x:=by first | exact Or.inl rfl | exact Or.inr (Or.inl rfl) | exact Or.inr (Or.inr rfl)) (hd:(x == ("__debug__":Str))=false:=by decide)
    (hcd:(x == ("__classdict__":Str))=false:=by decide):PE X (.Name x pos) (tVar i):=pe_var hN hv hd hcd
end
theorem ite2 {c A B:Prop} [Decidable c] (h1:c→A) (h2:¬ c→B):if c then A else B:=by
  by_cases h:c
  · rw[if_pos h]
    exact h1 h
  · rw[if_neg h]
    exact h2 h
noncomputable def Same (H H':Hp):Prop:=∀ b o,H b=some o→H' b=some o
theorem Same.refl (H:Hp):Same H H:=fun _ _ h=>h
theorem Same.trans {H H1 H2:Hp} (a:Same H H1) (b:Same H1 H2):Same H H2:=fun c o h=>b c o (a c o h)
theorem Same.free {H H':Hp} (e:Same H H') {l:Addr} (h:H' l=Option.none):H l=Option.none:=by
  cases q:H l with
  | none=>rfl
  | some o =>
    rw[e l o q] at h
    cases h
theorem Same.seq {K:PySem.W.Frag} {H H':Hp} {a:Addr} {xs:List V} (e:Same H H') (h:SqL K H a xs):SqL K H' a xs:=by
  rcases h with (h | ⟨o,h⟩) | h
  · exact .inl (.inl (e _ _ h))
  · exact .inl (.inr ⟨o,e _ _ h⟩)
  · exact .inr h
end L2
namespace L2
open PySem PySem.Spec PyProof.Rows
section
variable {κ:Type} [DecidableEq κ]
noncomputable def valV (kvs:List (κ×V)) (k:κ):Option V:=(kvs.find? fun kv=>decide (kv.1=k)).map (·.2)
theorem valV_pos {p:κ×V} {r:List (κ×V)} {k:κ} (e:p.1=k):valV (p :: r) k=some p.2:=by simp[valV,List.find?_cons,e]
theorem valV_neg {p:κ×V} {r:List (κ×V)} {k:κ} (e:¬ p.1=k):valV (p :: r) k=valV r k:=by simp[valV,List.find?_cons,e]
theorem RelO.isSome_eq {o:Option V} {u:Option Value} (r:RelO o u):o.isSome=u.isSome:=by
  cases o with
  | none=>cases u with
    | none=>rfl
    | some _=>exact (show False from r).elim
  | some _=>cases u with
    | none=>exact (show False from r).elim
    | some _=>rfl
theorem KV.val {kvs:List (κ×V)} {vs:List (κ×Value)} (r:KV kvs vs) (k:κ):RelO (valV kvs k) (valueAt vs k):=by
  unfold KV at r
  induction r with
  | nil=>exact True.intro
  | @cons p q ps qs h t ih =>
    obtain⟨h1,h2⟩:=h
    by_cases e:p.1=k
    · have e':q.1=k:=h1.symm.trans e
      have b:valueAt (q :: qs) k=some q.2:=by simp[valueAt,List.find?_cons,e']
      rw[valV_pos e,b];exact h2
    · have e':¬ q.1=k:=fun z=>e (h1.trans z)
      have b:valueAt (q :: qs) k=valueAt qs k:=by simp[valueAt,List.find?_cons,e']
      rw[valV_neg e,b];exact ih
end
theorem kV_is {P:Program} {w:World} {k:Key} {u:Value} (r:RelV (kV k) u):(mixKind P w).is k u=true:=by
  cases k with
  | inl i=>obtain⟨t,e⟩:=(show ∃ t,u=Value.int i t from r);subst e;exact mixKind_int P w i t
  | inr x=>obtain⟨t,e⟩:=(show ∃ t,u=Value.str x t from r);subst e;exact mixKind_str P w x t
section
variable {X:Cx} {pins:List (Addr×Obj)} {σ:St} {H:Hp} {s:Shared} {a:Addr} {y v:V} {u r:Value} {o:Option V} {A:Around} {E:Value→Shared→Prop}
theorem Inv.big (I:Inv X pins σ H s):sysModules < s.heap.objs.size:=by
  have h:mainGlobals < s.heap.objs.size:=(I.mod.glob.keeps I.bk).lt
  exact Nat.lt_trans (by decide) h
end
noncomputable def NoSl (i:Expr):Prop:=∀ ov iv,subscripted i false ov iv=operate [ov,iv] (getItem ov iv)
theorem subD_of {prog:Program} {w:World} {A:Around} {E:Value→Shared→Prop} {s:Shared} {env:Env} {value slice:Expr} {pos:Pos} {T id:String} {Q:Value→Shared→Prop}
    (hl:typeLookup (.type T) "__getitem__"=pure (some (.builtin id))) (hs:NoSl slice)
    (h:wpAny (model prog w) A (eval value env) (fun o s₁=>wpAny (model prog w) A (eval slice env) (fun i s₂=>s₂.TypeIs o T∧wpAny (model prog w) A (getItem o i) Q E s₂) E s₁) E s) :
    wpAny (model prog w) A (eval (.Subscript value slice pos) env) Q E s:=by
  refine Subscript_ (wpAny_mono h (fun o s₁ h₁=>wpAny_mono h₁ (fun i s₂ h₂=>?_) fun _ _ x=>x) fun _ _ x=>x)
  obtain⟨hT,h₂⟩:=h₂
  unfold subscriptTail
  refine wpAny_bind ?_
  rw[getitemInPython_of_ne hT.not_modules]
  refine wpAny_bind (wpAny_specialOf hT hl ?_)
  have fin:wpAny (model prog w) A (subscripted slice false o i) (fun r s₃=>wpAny (model prog w) A (letTemporaryGo value o r >>= fun _=>pure r) Q E s₃) E s₂:=by
    rw[hs o i]
    exact wpAny_operating (wpAny_mono h₂ (fun r s₃ h₃=>wpAny_bind (wpAny_letTemporaryGo (wpAny_pure h₃))) fun _ _ x=>x)
  first
    | exact wpAny_pure (wpAny_bind fin)
    | exact wpAny_bind (wpAny_pure (wpAny_bind fin))
    | exact wpAny_bind fin
end L2
namespace L2
open PySem PySem.Spec PyProof.Rows
end L2
namespace L2
open PySem PySem.Spec PyProof.Rows
end L2
set_option maxHeartbeats 4000000
namespace L2
open PySem PySem.Spec PyProof.Rows
section
variable {X:Cx}
noncomputable def rMulS:R2:=fun x y H Q=>∃ z n,x=.str z∧y=.int n∧z.length≤1000∧-1000≤n∧n≤1000∧Q (.str (Txt.mul z n)) H
theorem mulOk_small {z:Str} {n:Int} (h1:z.length≤1000) (h2:-1000≤n) (h3:n≤1000):MulOk z n:=by
  refine⟨?_,fun h4 h5=>?_,fun h4 h5=>?_⟩
  · have a:¬ n < -(2 ^ 63:Int):=by omega
    have b:¬ n ≥ 2 ^ 63:=by omega
    rw[decide_eq_false a,decide_eq_false b];rfl
  · have:(1000:Int)≤(2 ^ 63 - 1) / n:=by
      rw[Int.le_ediv_iff_mul_le (by omega)]
      omega
    omega
  · have:z.length*n.toNat≤1000*1000:=Nat.mul_le_mul h1 (by omega)
    unfold Builtin.Str.tooLong
    rw[decide_eq_false]
    have e:=sizeLine_eq
    first | omega | (simp at *;omega)
theorem op_mulS:OpR X (binaryOp .Mult) rMulS:=by
  intro pins s σ H x y v u Q I rx ry h
  obtain⟨z,n,rfl,rfl,h1,h2,h3,q⟩:=h
  obtain⟨t,rfl⟩:=rx
  obtain⟨t',rfl⟩:=ry
  exact SB.mul (mulOk_small h1 h2 h3) fun t' k=>⟨.str _,H,I.tok k,⟨_,rfl⟩,q⟩
noncomputable def rSlS:V→Option Int→Option Int→Hp→VK→Prop:=fun x lo hi H Q=>∃ z,x=.str z∧z.length≤sizeLine∧Q (.str (Txt.slice z lo hi)) H
theorem part_of {v:Value} {o:Option Int} (p:IsPart v o):∃ l:Option (Int×Tok),v=partValue l∧l.map (·.1)=o:=by
  cases p with
  | none=>exact⟨none,rfl,rfl⟩
  | int i t=>exact⟨some (i,t),rfl,rfl⟩
theorem sl_str:SlR X rSlS:=by
  intro pins s σ H x v vl vu lo hi sl Q I rx hs pl pu h
  obtain⟨z,rfl,hz,q⟩:=h
  obtain⟨t,rfl⟩:=rx
  obtain⟨l,rfl,el⟩:=part_of pl
  obtain⟨u,rfl,eu⟩:=part_of pu
  refine⟨"str",_,F.slot_str_getitem.lookup,typeIs_str _ _ _,wpAny_getItem_str_slice (l:=l) (u:=u) (st:=none) hs rfl ?_⟩
  refine post_val_or_str ⟨?_,fun t' k=>?_⟩
  · subst el;subst eu
    exact Nat.le_trans (Txt.slice_le z _ _) hz
  · subst el;subst eu
    exact⟨.str _,H,I.tok k,⟨_,rfl⟩,q⟩
theorem strsAre_of:∀ {ys:List Str} {us:List Value},Vals (ys.map V.str) us→StrsAre us ys
  | [],_,r=>by cases r;exact .nil
  | y :: ys,_,r=>by
    cases r with
    | cons h t =>
      obtain⟨tk,rfl⟩:=h
      exact .cons _ _ (strsAre_of t)
noncomputable def rJoin (K:PySem.W.Frag):V→List V→Hp→VK→Prop:=fun x vs H Q=>∃ sep l ys,x=.str sep∧vs=[.ref l]∧SqL K H l (ys.map V.str)∧(ys.map (·.length)).sum+ys.length*sep.length≤16777216∧Q (.str (Txt.join sep ys)) H
theorem mt_join:MtM X "str.join" (rJoin X.K):=by
  intro pins s σ H x vs v us Q I rx rv h
  obtain⟨sep,l,ys,rfl,rfl,hx,hz,q⟩:=h
  obtain⟨t,rfl⟩:=rx
  obtain⟨u,rfl,ru⟩:=rv.one
  cases ru
  obtain⟨its,r,ht,_⟩:=I.list hx
  exact join_list ht.isList (strsAre_of (by simpa using r)) hz fun t' k=>⟨.str _,H,I.tok k,⟨_,rfl⟩,q⟩
noncomputable abbrev TF:=Str→St→Hp→VK→Prop
noncomputable def PF (X:Cx) (es:List Expr) (t:TF):Prop :=
  ∀ (out:Str) (pins:List (Addr×Obj)) (s:Shared) (σ:St) (H:Hp) (Q:VK),Inv X pins σ H s→t out σ H Q→wpAny (model X.prog X.w) X.A (joinParts out (evalEach es X.env)) (EP X pins σ Q) X.xe s
noncomputable def tF0:TF:=fun out _ H Q=>out.length≤sizeLine∧Q (.str out) H
noncomputable def tFc (x:Str) (t:TF):TF:=fun out σ H Q=>(out++x).length≤sizeLine∧t (out++x) σ H Q
noncomputable def tFv (te:TE) (t:TF):TF:=fun out σ H Q=>te σ H fun v H1=>∃ y,v=.str y∧y.length≤sizeLine∧(out++y).length≤sizeLine∧t (out++y) σ H1 Q
theorem pf_nil:PF X [] tF0:=fun out pins s σ H Q I h=>joinParts_nil ⟨.str out,H,I.tok _,⟨_,rfl⟩,h.2⟩ h.1
theorem pf_str {x:Str} {j:Nat} {pos:Pos} {es:List Expr} {t:TF} (h:PF X es t) (hs:evalEach (.Constant (.str x) j pos :: es) X.env=eval (.Constant (.str x) j pos) X.env :: evalEach es X.env:=by rfl):PF X (.Constant (.str x) j pos :: es) (tFc x t):=by
  intro out pins s σ H Q I hw
  rw[hs]
  refine joinParts_cons (Calls.Constant_str ?_)
  exact⟨hw.1,h _ pins _ σ H Q (I.tok _) hw.2⟩
theorem pf_val {e:Expr} {te:TE} {pos:Pos} {es:List Expr} {t:TF} (he:PE X e te) (h:PF X es t) (hs:evalEach (.FormattedValue e (-1) none pos :: es) X.env=eval (.FormattedValue e (-1) none pos) X.env :: evalEach es X.env:=by rfl):PF X (.FormattedValue e (-1) none pos :: es) (tFv te t):=by
  intro out pins s σ H Q I hw
  rw[hs]
  refine joinParts_cons (FormattedValue_plain (thn (he pins s σ H _ I hw) fun v s1 ⟨x,H1,I1,r1,q1⟩=>?_))
  obtain⟨y,rfl,hy,hz,q⟩:=q1
  obtain⟨tk,rfl⟩:=r1
  exact formatField_str (fun t' k=>⟨hz,h _ pins _ σ H1 Q (I1.tok k) q⟩) hy
noncomputable def tFs (t:TF):TE:=fun σ H Q=>t Str.empty σ H Q
theorem pe_fstr {e1 e2:Expr} {es:List Expr} {t:TF} {pos:Pos} (h:PF X (e1 :: e2 :: es) t) (hs:evalEach (e1 :: e2 :: es) X.env=eval e1 X.env :: eval e2 X.env :: evalEach es X.env:=by rfl):PE X (.JoinedStr (e1 :: e2 :: es) pos) (tFs t):=by
  intro pins s σ H Q I hw
  refine JoinedStr_many ?_
  rw[← hs]
  exact h _ pins s σ H Q I hw
end
end L2
namespace L2
open PySem PySem.Spec PyProof.Rows
mutual
noncomputable def Dn (K:PySem.W.Frag) (H:Hp):V→PyData→Prop
  | v,.none=>v=.non
  | v,.bool b=>v=.bl b
  | v,.int i=>v=.int i
  | v,.str x=>v=.str x
  | v,.list ds=>∃ a xs,v=.ref a∧SqL K H a xs∧DnAll K H xs ds
  | v,.tuple ds=>∃ a xs,v=.ref a∧SqT K H a xs∧DnAll K H xs ds
  | _,.dict _=>False
noncomputable def DnAll (K:PySem.W.Frag) (H:Hp):List V→List PyData→Prop
  | xs,[]=>xs=[]
  | xs,d :: ds=>∃ x r,xs=x :: r∧Dn K H x d∧DnAll K H r ds
end
noncomputable def KeepT (K:PySem.W.Frag) (H H':Hp):Prop:=∀ a xs,SqT K H a xs→SqT K H' a xs
mutual
noncomputable def noList:PyData→Bool
  | .list _=>false
  | .tuple ds=>noLists ds
  | .dict _=>false
  | _=>true
noncomputable def noLists:List PyData→Bool
  | []=>true
  | d :: ds=>noList d&&noLists ds
end
mutual
theorem Dn.keepT {K:PySem.W.Frag} {H H':Hp} (k:KeepT K H H'):∀ {d:PyData} {v:V},noList d=true→Dn K H v d→Dn K H' v d
  | .none,v,_,h=>by rw[Dn] at h ⊢;exact h
  | .bool _,v,_,h=>by rw[Dn] at h ⊢;exact h
  | .int _,v,_,h=>by rw[Dn] at h ⊢;exact h
  | .str _,v,_,h=>by rw[Dn] at h ⊢;exact h
  | .list _,v,n,h=>by rw[noList] at n;cases n
  | .dict _,v,n,h=>by rw[noList] at n;cases n
  | .tuple ds,v,n,h=>by
    rw[Dn] at h ⊢
    rw[noList] at n
    obtain⟨a,xs,e,hs,hd⟩:=h
    exact⟨a,xs,e,k a xs hs,DnAll.keepT k n hd⟩
theorem DnAll.keepT {K:PySem.W.Frag} {H H':Hp} (k:KeepT K H H'):∀ {ds:List PyData} {xs:List V},noLists ds=true→DnAll K H xs ds→DnAll K H' xs ds
  | [],xs,_,h=>by rw[DnAll] at h ⊢;exact h
  | d :: ds,xs,n,h=>by
    rw[DnAll] at h ⊢
    rw[noLists,Bool.and_eq_true] at n
    obtain⟨x,r,e,h1,h2⟩:=h
    exact⟨x,r,e,Dn.keepT k n.1 h1,DnAll.keepT k n.2 h2⟩
end
section
variable {X:Cx} {pins:List (Addr×Obj)} {σ:St} {H:Hp} {s:Shared}
mutual
theorem Dn.reads (I:Inv X pins σ H s):∀ {d:PyData} {v:V} {u:Value},Dn X.K H v d→RelV v u→∃ as,Reads s.heap u d as
  | .none,v,u,h,r=>by rw[Dn] at h;subst h;cases (show u=Value.none from r);exact⟨_,.none⟩
  | .bool b,v,u,h,r=>by rw[Dn] at h;subst h;cases (show u=Value.bool b from r);exact⟨_,.bool b⟩
  | .int i,v,u,h,r=>by rw[Dn] at h;subst h;obtain⟨t,rfl⟩:=r;exact⟨_,.int i t⟩
  | .str x,v,u,h,r=>by rw[Dn] at h;subst h;obtain⟨t,rfl⟩:=r;exact⟨_,.str x t⟩
  | .dict _,v,u,h,r=>by rw[Dn] at h;exact h.elim
  | .list ds,v,u,h,r=>by
    rw[Dn] at h
    obtain⟨a,xs,rfl,hs,hd⟩:=h
    cases (show u=Value.ref a from r)
    obtain⟨its,rv,⟨o,n,h1,h2,_,h3⟩,_⟩:=I.list hs
    obtain⟨as,q⟩:=DnAll.reads I hd rv
    exact⟨_,.list h1 h2 h3 (by simpa using q)⟩
  | .tuple ds,v,u,h,r=>by
    rw[Dn] at h
    obtain⟨a,xs,rfl,hs,hd⟩:=h
    cases (show u=Value.ref a from r)
    obtain⟨its,rv,⟨o,h1,h2,n,h3⟩,_⟩:=I.tuple hs
    obtain⟨as,q⟩:=DnAll.reads I hd rv
    exact⟨_,.tuple h1 h2 h3 (by simpa using q)⟩
theorem DnAll.reads (I:Inv X pins σ H s):∀ {ds:List PyData} {xs:List V} {us:List Value},DnAll X.K H xs ds→Vals xs us→∃ as,ReadsAll s.heap us ds as
  | [],xs,us,h,r=>by rw[DnAll] at h;subst h;cases r;exact⟨_,.nil⟩
  | d :: ds,xs,us,h,r=>by
    rw[DnAll] at h
    obtain⟨x,r',rfl,h1,h2⟩:=h
    cases r with
    | cons r1 r2 =>
      obtain⟨as,q1⟩:=Dn.reads I h1 r1
      obtain⟨bs,q2⟩:=DnAll.reads I h2 r2
      exact⟨_,.cons q1 q2⟩
end
end
section
variable {X:Cx}
noncomputable def rEqD (K:PySem.W.Frag) (neg:Bool):R2:=fun x y H Q=>∃ d e,Dn K H x d∧Dn K H y e∧d.canLay0=true∧e.canLay0=true∧min d.depth e.depth≤150∧Q (.bl (if neg then !PyData.eqv d e else PyData.eqv d e)) H
theorem op_eqD (hu:X.A.units+150 < cLine):OpR X (compareOp .Eq) (rEqD X.K false):=by
  intro pins s σ H x y v u Q I rx ry h
  obtain⟨d,e,h1,h2,l1,l2,hz,q⟩:=h
  obtain⟨as,r1⟩:=h1.reads I rx
  obtain⟨bs,r2⟩:=h2.reads I ry
  exact PySem.W.cmp_ofEq (SeqAt.rcAt_reads r1 r2 l1 l2 (by omega) _ _ _ _ ⟨.bl _,H,I,rfl,q⟩)
theorem op_neD (hu:X.A.units+150 < cLine):OpR X (compareOp .NotEq) (rEqD X.K true):=by
  intro pins s σ H x y v u Q I rx ry h
  obtain⟨d,e,h1,h2,l1,l2,hz,q⟩:=h
  obtain⟨as,r1⟩:=h1.reads I rx
  obtain⟨bs,r2⟩:=h2.reads I ry
  exact PySem.W.cmp_ofNotEq (SeqAt.rcNeAt_reads r1 r2 l1 l2 (by omega) _ _ _ _ ⟨.bl _,H,I,rfl,q⟩)
end
theorem Zg1 {A:Around} {k:Nat} (hr:Room k A):A.units+150 < cLine:=by have:=hr.un;omega
end L2
namespace L2
open PySem PySem.Spec PyProof.Rows
noncomputable def blk (X:Cx) (N':List Str) (scope:Scope) (cl:List (Str×Addr)) (s:Shared) (H:Hp) (C:Addr) (ex:List Addr):Cx where
  prog:=X.prog
  w:=X.w
  K:=X.K
  mg:=X.mg
  base:=X.base
  A:=X.A
  N:=N'
  s₀:=s
  H₀:=H
  env:=compEnvC scope cl C X.env
  outer:=X.stack
  stack:=X.stack
  ex:=ex
  fn:=fun _=>false
  calm:=X.calm
  pn:=[]
  xe:=fun _ _=>False
structure BlkOk (X:Cx) (scope:Scope) (cl:List (Str×Addr)) (N':List Str) (nt:Nat) (ci:List Nat):Prop where
  clos:closureFor scope X.env=pure cl
  cell:∀ y∈scope.names,y.2≠.cell
  kind:scope.kind=.function
  names:∀ y∈scope.names,y.2=.local→scope.names.lookup y.1=some .local
  sub:∀ x c,cl.lookup x=some c→X.env.cells.lookup x=some c
  has:∀ x,((relabel scope X.env).names.lookup x=some .cell∨(relabel scope X.env).names.lookup x=some .free)→∃ c,cl.lookup x=some c
  len:N'.length=nt+ci.length
  cap:∀ (j i:Nat),ci[j]?=some i→∃ x,N'[nt+j]?=some x∧X.N[i]?=some x∧X.env.scope.names.lookup x=some .cell∧((relabel scope X.env).names.lookup x=some .cell∨(relabel scope X.env).names.lookup x=some .free)
noncomputable def capt (nt:Nat) (ci:List Nat) (σ:St):St:=List.replicate nt none++ci.map fun i=>(σ[i]?).join
section
variable {X:Cx} {scope:Scope} {cl:List (Str×Addr)} {N':List Str} {nt:Nat} {ci:List Nat} {pins:List (Addr×Obj)} {σ:St} {H:Hp} {s:Shared}
theorem blk_start (B:BlkOk X scope cl N' nt ci) (I:Inv X pins σ H s) {fp:List Addr} (hf:∀ b∈fp,FpOk X pins H b) (ho:∀ b∈fp,∃ o,s.heap.get? b=some o) {C acc:Addr} {h1:Heap} {tk:Nat}
    (hacc:acc=s.heap.objs.size) (hC:C=s.heap.objs.size+1) (k:∀ b u,s.heap.get? b=some u→h1.get? b=some u) (ns:h1.Ns C fun _=>none) (ha:h1.get? acc=some { cls:=.type "list",data:=.seq #[] }) :
    Inv (blk X N' scope cl s H C fp) [] (capt nt ci σ) (upd H acc (.lst [])) { s with heap:=h1,toks:=tk }:=by
  have hn:H acc=none:=I.hok.fresh (by rw[hacc];exact Nat.le_refl _)
  have hnC:H C=none:=I.hok.fresh (by rw[hC];exact Nat.le_succ _)
  have cellLt:∀ x c,cl.lookup x=some c→c < s.heap.objs.size:=fun x c e=>by
    obtain⟨v,q⟩:=I.cell x c (B.sub x c e)
    exact q.lt
  refine⟨⟨I.ok.mod,B.kind,I.ok.glob,I.ok.blt,?_,fun x y c e1 e2=>I.ok.inj x y c (B.sub _ _ e1) (B.sub _ _ e2),fun x hx=>B.has x hx,fun x c (z:false=true)=>Bool.noConfusion z,fun hc=>I.ok.hd hc,I.ok.frames,.inl rfl,fun b hb=>?_,I.bs,?_,fun b o e hb=>?_,fun b hb=>?_,I.stack,fun b hb=>I.stkFree b hb⟩,
    rfl,I.bare,Un.laid (a:=acc) (o:=.lst []) k (by rw[hacc];exact Nat.le_refl _) hn,⟨_,ns,fun i x v e1 e2 e3=>?_⟩,fun x c e=>?_,?_,fun x c e=>?_,fun p hp=>absurd (show p∈([]:List (Addr×Obj)) from hp) (by simp),I.hok.laid k (by rw[hacc];exact Nat.le_refl _) ⟨Nat.zero_le _,[],0,.nil,ha⟩,?_⟩
  · show s.heap.objs.size≤C
    rw[hC];exact Nat.le_succ _
  · obtain⟨f0,f1,f2,f3,f4,f5⟩:=hf b hb
    obtain⟨o,e⟩:=ho b hb
    refine⟨?_,fun x c e'=>f4 x c (B.sub x c e')⟩
    show b≠C
    rw[hC]
    exact Nat.ne_of_lt (Nat.lt_succ_of_lt (Heap.lt_size e))
  · exact Nat.le_trans I.ok.bsz I.sz
  · obtain⟨f0,f1,f2,f3,f4,f5⟩:=hf b hb
    rcases f3 with z | z
    · exact I.ok.noex b o e z
    · exact absurd (Nat.lt_of_lt_of_le (Heap.lt_size e) (Nat.le_trans I.ok.bsz z)) (Nat.lt_irrefl _)
  · intro z
    obtain⟨f0,f1,f2,f3,f4,f5⟩:=hf b hb
    rcases List.mem_cons.mp (I.stkSub b z) with y | y
    · exact f1 y
    · exact f2 y
  ·
    obtain⟨m,hm,hl⟩:=I.loc
    unfold capt at e2
    by_cases hi:i < nt
    · rw[List.getElem?_append_left (by simpa using hi),List.getElem?_replicate] at e2
      split at e2<;>cases e2
    · rw[List.getElem?_append_right (by simpa using hi),List.length_replicate,List.getElem?_map] at e2
      cases q:ci[i - nt]? with
      | none=>rw[q] at e2;cases e2
      | some j =>
        rw[q] at e2
        have e2':(σ[j]?).join=some v:=Option.some.inj e2
        obtain⟨y,a1,a2,a3,a4⟩:=B.cap _ j q
        have ei:nt+(i - nt)=i:=by omega
        rw[ei,show N'[i]?=some x from e1] at a1
        cases a1
        have e2'':σ[j]?=some (some v):=by
          cases z:σ[j]? with
          | none=>rw[z] at e2';cases e2'
          | some w=>rw[z] at e2';exact congrArg some e2'
        obtain⟨u,r,l⟩:=hl j x v a2 e2'' (.inr (.inl a3))
        refine⟨u,r,.inr ⟨a4,?_⟩⟩
        rcases l with ⟨kk,_⟩ | ⟨_,c,c1,c2⟩
        · have kk':X.env.scope.names.lookup x=some .local:=kk
          rw[a3] at kk';cases kk'
        · obtain⟨c',ec⟩:=B.has x a4
          have:=B.sub x c' ec
          rw[c1] at this;cases this
          exact⟨c,ec,let ⟨o,e,d⟩:=c2;⟨o,k _ _ e,d⟩⟩
  · obtain⟨v,q⟩:=I.cell x c (B.sub x c e)
    exact⟨v,let ⟨o,e,d⟩:=q;⟨o,k _ _ e,d⟩⟩
  · show upd H acc (.lst []) C=none
    rw[Zc8 (by rw[hacc,hC];exact Nat.succ_ne_self _)];exact hnC
  · have lt:=cellLt x c e
    rw[Zc8 (by rw[hacc];exact Nat.ne_of_lt lt)]
    exact I.freeC x c (B.sub x c e)
  · show (capt nt ci σ).length=N'.length
    unfold capt
    rw[List.length_append,List.length_replicate,List.length_map,B.len]
noncomputable def Wk (σ σ':St):Prop:=σ'.length=σ.length∧∀ (i:Nat) v,σ[i]?=some (some v)→σ'[i]?=some (some v)
theorem Ze8 {σ:St} {i:Nat} {x:V} (h:σ[i]?=some none):Wk σ (σ.set i (some x)):=by
  refine⟨by simp,fun j v e=>?_⟩
  by_cases hj:j=i
  · subst hj;rw[h] at e;cases e
  · rw[List.getElem?_set_ne (Ne.symm hj)];exact e
theorem wk_head {x:V} {r:St}:Wk (none :: r) (some x :: r):=Ze8 (σ:=none :: r) (i:=0) rfl
theorem Wk.trans {σ1 σ2 σ3:St} (a:Wk σ1 σ2) (b:Wk σ2 σ3):Wk σ1 σ3:=⟨b.1.trans a.1,fun i v e=>b.2 i v (a.2 i v e)⟩
theorem Wk.refl (σ:St):Wk σ σ:=⟨rfl,fun _ _ e=>e⟩
noncomputable def lcW (K:PySem.W.Frag) (σ0:St) (J:It) (acc:Addr) (g:TG) (te:TE) (Q:VK) (W:Nat→Nat→List V→Hp→Prop):Prop :=
  ∀ i m ys H2,W i m ys H2→H2 acc=some (.lst ys)∧ys.length < sizeLine∧((J.stop i H2∧Q (.ref acc) H2) ∨
    (J.go i H2∧∀ x H3,J.yld i H2 x H3→g x σ0 H3 fun σ4 H4=>Wk σ0 σ4∧te σ4 H4 fun y H5=>H5 acc=some (.lst ys)∧∃ m',m' < m∧W (i+1) m' (ys++[y]) (upd H5 acc (.lst (ys++[y])))))
noncomputable def tLC (K:PySem.W.Frag) (nt:Nat) (ci:List Nat) (wi:TI) (g:TG) (te:TE):TE:=fun σ H Q=>wi σ H fun J H1=>∀ acc,H1 acc=none→∃ W:Nat→Nat→List V→Hp→Prop,(∃ m,W 0 m [] (upd H1 acc (.lst [])))∧lcW K (capt nt ci σ) J acc g te Q W
theorem compTurn_one (elt target iter:Expr) (scope:Scope) (pos:Pos) (it acc:Value) (env:Env) :
    compTurn (.ListComp elt [⟨target,iter,[],0⟩] scope pos) 0 it acc env=(standAt iter.pos >>= fun _=>pyNext it >>= fun r=>match r with
      | none=>pure (.done .next)
      | some v=>letOwnedTupleGo target it v >>= fun _=>assign target env v >>= fun _ =>
        (eval elt env >>= fun x=>call (.builtin "list.append") [acc,x] >>= fun _=>pure ()) >>= fun _ =>
          again (.compLoop (.ListComp elt [⟨target,iter,[],0⟩] scope pos) 0 it acc env)):=by rfl
theorem noE {M:Model} {A:Around} {env:Env} {E:Value→Shared→Prop}:∀ e s,(fun (_:Value) (_:Shared)=>False) e s→notedBy M A env E e s:=fun _ _ z=>z.elim
theorem lc_loop {tg elt iter:Expr} {pos:Pos} {g:TG} {te:TE} {it acc C:Addr} {fp:List Addr} {tn:Nat→Heap→Prop} {J:It} {Q:VK} {s0:Shared} {H0:Hp} {σ0:St} {R:Result→Shared→Prop} {s:Shared} {i0 m0:Nat} {ys0:List V} {H1:Hp} {W:Nat→Nat→List V→Hp→Prop}
    (hc:X.calm=true) (hg:PG (blk X N' scope cl s0 H0 C fp) tg g) (he:PE (blk X N' scope cl s0 H0 C fp) elt te) (T:Turn X.prog X.w X.K tg J fp it tn)
    (hfp:∀ (H':Hp),(∀ b∈fp,H' b=none)→∀ b∈fp,FpOk (blk X N' scope cl s0 H0 C fp) [] H' b) (hW:lcW X.K σ0 J acc g te Q W)
    (hR:∀ s' H',Inv (blk X N' scope cl s0 H0 C fp) [] σ0 H' s'→Q (.ref acc) H'→R (.ok .next) s')
    (I:Inv (blk X N' scope cl s0 H0 C fp) [] σ0 H1 s) (hst:tn i0 s.heap) (hfr:∀ b∈fp,H1 b=none) (w:W i0 m0 ys0 H1) :
    codeAny (model X.prog X.w) X.A (.compLoop (.ListComp elt [⟨tg,iter,[],0⟩] scope pos) 0 (.ref it) (.ref acc) (compEnvC scope cl C X.env)) R s:=by
  refine codeAny_loop rfl (fun n s=>∃ i ys H2,Inv (blk X N' scope cl s0 H0 C fp) [] σ0 H2 s∧tn i s.heap∧(∀ b∈fp,H2 b=none)∧W i n ys H2) (fun n s hI=>?_) m0 ⟨i0,ys0,H1,I,hst,hfr,w⟩
  obtain⟨i,ys,H2,I2,st2,fr2,w2⟩:=hI
  show wpAny _ _ ((compTurn (.ListComp elt [⟨tg,iter,[],0⟩] scope pos) 0 (.ref it) (.ref acc) (compEnvC scope cl C X.env)).onRaise (fun x=>do noteFrame x (compEnvC scope cl C X.env);theTreesLotGoes x)) _ _ s
  refine wpAny_noted ?_
  rw[compTurn_one]
  refine wpAny_bind (wpAny_standAt (wpAny_bind ?_))
  obtain⟨hacc,hlen,hcase⟩:=hW i n ys H2 w2
  rcases hcase with ⟨stop,q⟩ | ⟨go,step⟩
  · refine thn (T.done (blk X N' scope cl s0 H0 C fp) rfl rfl rfl hc i [] s σ0 H2 _ I2 (hfp H2 fr2) st2 stop) fun r s1 ⟨hr,I3⟩=>?_
    subst hr
    exact wpAny_pure (hR s1 H2 I3 q)
  · refine thn (T.item (blk X N' scope cl s0 H0 C fp) rfl rfl rfl hc i [] s σ0 H2 _ I2 (hfp H2 fr2) st2 go) fun r s1 ⟨u,hr,h4⟩=>?_
    subst hr
    refine wpAny_bind (thn h4 fun _ s5 ⟨x,H5,I5,r5,y5,st5,fr5⟩=>?_)
    have I5':=I5.pinned (hfp H5 fr5) (T.obj _ _ st5)
    refine wpAny_bind (wpAny_mono (hg _ s5 σ0 H5 x u _ I5' r5 (step x H5 y5)) (fun _ s6 ⟨σ6,H6,I6,hw6,q6⟩=>?_) noE)
    refine wpAny_bind (wpAny_bind (wpAny_mono (he _ s6 σ6 H6 _ I6 q6) (fun v s7 ⟨y,H7,I7,r7,ha7,m',hm',w7⟩=>?_) noE))
    refine wpAny_bind (wpAny_mono (Zg5 (X:=blk X N' scope cl s0 H0 C fp) _ s7 σ6 H7 (.ref acc) [y] (.ref acc) [v] (fun _ H8=>H8=upd H7 acc (.lst (ys++[y]))) I7 rfl (.cons r7 .nil) ⟨acc,ys,y,rfl,rfl,ha7,hlen,rfl⟩) (fun _ s8 ⟨_,H8,I8,_,e8⟩=>?_) noE)
    subst e8
    refine wpAny_pure (wpAny_pure ⟨rfl,m',hm',i+1,ys++[y],_,?_,?_,fun b hb=>?_,w7⟩)
    · exact I8.unpinned.weak hw6.1.symm hw6.2
    · exact T.keep _ _ _ st5 fun b hb o e=>(I8.pin (b,o) (List.mem_append_right _ (List.mem_append_right _ (Zh3 hb e)))).1
    · obtain⟨o,e,d⟩:=T.obj _ _ st5 b hb
      exact (I8.pin (b,o) (List.mem_append_right _ (List.mem_append_right _ (Zh3 hb e)))).2.1
theorem lc_core {tg elt iter:Expr} {pos pos':Pos} {wi:TI} {g:TG} {te:TE} {use:Option (Value→Sem Unit)} {Q:VK} {Qf:Value→Shared→Prop} (B:BlkOk X scope cl N' nt ci) (hc:X.calm=true) (hi:PI X tg iter wi)
    (hg:∀ s H C ex,PG (blk X N' scope cl s H C ex) tg g) (he:∀ s H C ex,PE (blk X N' scope cl s H C ex) elt te) (hs:∀ x,foldedSetIterable iter X.env x=pure x) (I:Inv X pins σ H s) (h:tLC X.K nt ci wi g te σ H Q)
    (fin:∀ (acc C:Addr) (s':Shared) (H':Hp),Inv X pins σ H' s'→Q (.ref acc) H'→(∃ m,s'.heap.Ns C m)→FpOk X pins H' C→(∃ o,s'.heap.get? C=some o∧∀ v,o.data≠.cell v)→compPost (model X.prog X.w) X.A X.xe use Qf (.ref acc) C (.ok .next) s') :
    wpAny (model X.prog X.w) X.A (comprehension (.ListComp elt [⟨tg,iter,[],0⟩] scope pos) scope X.env pos' (newList []) false (eval iter X.env) use) Qf X.xe s:=by
  refine wpAny_comprehension_free (use:=use) rfl hs B.clos B.kind B.names (thn (hi pins s σ H _ I h) fun v s1 h1=>thn h1 fun itv s2 h2=>?_)
  obtain⟨it,fp,tn,J,H2,e,I2,T,st2,f2,q2⟩:=h2
  subst e
  have hacc:H2 s2.heap.objs.size=none:=I2.hok.fresh (Nat.le_refl _)
  obtain⟨W,⟨m0,w0⟩,hW⟩:=q2 s2.heap.objs.size hacc
  refine wpAny_newObj_type (wpAny_newFunctionEnv B.cell (by intro y hy;simp at hy) (fun h₁ hns₁ hsb₁=>?_) B.kind)
  dsimp only at hns₁ hsb₁ ⊢
  have hCs:(s2.heap.push { cls:=.type "list",dict:=none,data:=.seq ([]:List Value).toArray }).objs.size=s2.heap.objs.size+1:=Heap.size_push ..
  have k1:∀ b u,s2.heap.get? b=some u→h₁.get? b=some u:=fun b u e=>hsb₁.extBut b u (by rw[hCs];exact Nat.ne_of_lt (Nat.lt_succ_of_lt (Heap.lt_size e))) (Heap.get?_push_of_some _ (Heap.get?_push_of_some _ e))
  have a1:h₁.get? s2.heap.objs.size=some { cls:=.type "list",data:=.seq #[] }:=hsb₁.extBut _ _ (by rw[hCs];exact Nat.ne_of_lt (Nat.lt_succ_self _)) (Heap.get?_push_of_some _ (Heap.get?_push_size _ rfl))
  rw[hCs] at hns₁ ⊢
  have I3:=blk_start (tk:=s2.toks+([]:List (Str×Value)).length) B I2 f2 (fun b hb=>let ⟨o,e,_⟩:=T.obj _ _ st2 b hb;⟨o,e⟩) rfl rfl k1 (by simpa using hns₁) a1
  have hfpB:∀ (H':Hp),(∀ b∈fp,H' b=none)→∀ b∈fp,FpOk (blk X N' scope cl s2 H2 (s2.heap.objs.size+1) fp) [] H' b:=fun H' hn b hb=>by
    obtain⟨f0,f1,f3,f4,f5,f6⟩:=f2 b hb
    obtain⟨o,e,_⟩:=T.obj _ _ st2 b hb
    refine⟨hn b hb,?_,fun z=>?_,.inl hb,fun x c e'=>f5 x c (B.sub x c e'),fun p hp=>absurd (show p∈([]:List (Addr×Obj)) from hp) (by simp)⟩
    · exact Nat.ne_of_lt (Nat.lt_succ_of_lt (Heap.lt_size e))
    · rcases List.mem_cons.mp (I2.stkSub b z) with y | y
      · exact f1 y
      · exact f3 y
  have hfr3:∀ b∈fp,upd H2 s2.heap.objs.size (.lst []) b=none:=fun b hb=>by
    obtain⟨o,e,_⟩:=T.obj _ _ st2 b hb
    rw[Zc8 (Nat.ne_of_lt (Heap.lt_size e))];exact (f2 b hb).1
  have st3:tn 0 h₁:=T.keep _ _ _ st2 fun b _ o e=>k1 b o e
  have loop:codeAny (model X.prog X.w) X.A (.compLoop (.ListComp elt [⟨tg,iter,[],0⟩] scope pos) 0 (.ref it) (.ref s2.heap.objs.size) (compEnvC scope cl (s2.heap.objs.size+1) X.env))
      (compPost (model X.prog X.w) X.A X.xe use Qf (.ref s2.heap.objs.size) (s2.heap.objs.size+1)) { s2 with heap:=h₁,toks:=s2.toks+([]:List (Str×Value)).length }:=by
    refine lc_loop (Q:=Q) hc (hg _ _ _ _) (he _ _ _ _) T hfpB hW (fun s' H' I' q=>?_) I3 st3 hfr3 w0
    have un:=I'.base
    have ns:=I'.loc
    have fC:H' (s2.heap.objs.size+1)=none:=I'.free
    have I4:Inv X pins σ H' s':=I2.call' I'.os un I'.hok I'.bare fun b hb=>by
      obtain⟨f0,f1,f3,f4,f5,f6⟩:=f2 b hb
      exact⟨f4,f1,f5,f6⟩
    obtain⟨m,hm,_⟩:=ns
    have hm':s'.heap.Ns (s2.heap.objs.size+1) m:=hm
    refine fin _ _ s' H' I4 q ⟨m,hm'⟩ (I2.fpOk (Nat.le_succ _) fC) ?_
    obtain⟨o,es,ep,e,d,_⟩:=hm'
    exact⟨o,e,fun v z=>by rw[d] at z;cases z⟩
  exact codeAny_compStart_list loop (T.self _ _ _ _ _ st3 loop)
theorem pe_lc {tg elt iter:Expr} {pos:Pos} {wi:TI} {g:TG} {te:TE} (B:X.Ok→BlkOk X scope cl N' nt ci) (hc:X.calm=true) (hi:PI X tg iter wi)
    (hg:∀ s H C ex,PG (blk X N' scope cl s H C ex) tg g) (he:∀ s H C ex,PE (blk X N' scope cl s H C ex) elt te) (hs:∀ x,foldedSetIterable iter X.env x=pure x:=by intro _;rfl) :
    PE X (.ListComp elt [⟨tg,iter,[],0⟩] scope pos) (tLC X.K nt ci wi g te):=by
  intro pins s σ H Q I h
  rw[eval_ListComp]
  refine lc_core (B I.ok) hc hi hg he hs I h fun acc C s' H' I' q hm hf ho=>?_
  obtain⟨m,hm⟩:=hm
  obtain⟨f0,f1,f2,f3,f4,f5⟩:=hf
  exact⟨m,hm,fun h' sb=>⟨.ref acc,H',I'.turned (t':=s'.toks) (fun b o hb e=>(sb.2 b hb).trans e) f0 f1 f3 f4 f5,rfl,q⟩⟩
theorem ps_setLC {i:Nat} {x:Str} {tg elt iter:Expr} {pos spos pos':Pos} {wi:TI} {g:TG} {te:TE} (hN:X.N.Nodup) (hi:X.N[i]?=some x) (hx:Loc X.env.scope x) (B:X.Ok→BlkOk X scope cl N' nt ci) (hc:X.calm=true) (hit:PI X tg iter wi)
    (hg:∀ s H C ex,PG (blk X N' scope cl s H C ex) tg g) (he:∀ s H C ex,PE (blk X N' scope cl s H C ex) elt te) (hsw:swapsWith (.ListComp elt [⟨tg,iter,[],0⟩] scope pos) (some (.Name x pos')) spos.line X.env=pure true)
    (hs:∀ x,foldedSetIterable iter X.env x=pure x:=by intro _;rfl) (hf:X.fn x=true∨X.env.scope.names.lookup x=some .local:=by first | exact .inl rfl | exact .inr rfl | assumption) :
    PS X (.Assign [.Name x pos'] (.ListComp elt [⟨tg,iter,[],0⟩] scope pos) spos) (tAsg (tLC X.K nt ci wi g te) (gName i)):=by
  intro pins s σ H D I h
  rw[exec_Assign_Name_used _ _ _ _ hsw]
  refine wpAny_bind (wpAny_standAt (wpAny_bind ?_))
  rw[arm_evalThenUse_ListComp]
  refine wpAny_bind (lc_core (B I.ok) hc hit hg he hs I h fun acc C s' H' I' q hm hfC ho=>?_)
  obtain⟨f0,f1,f2,f3,f4,f5⟩:=hfC
  obtain⟨m,hm⟩:=hm
  obtain⟨o,e,d⟩:=ho
  have Ip:Inv X (pins++[(C,o)]) σ H' s':=I'.pins_of fun p hp=>(List.mem_append.mp hp).elim (fun z=>I'.pin p (List.mem_append_right _ z)) fun z=>by
    have e':p=(C,o):=by simpa using z
    subst e'
    exact⟨e,f0,f1,f2,d⟩
  refine wpAny_assign_Name (store_ok Ip hN hi hx (show RelV (.ref acc) (Value.ref acc) from rfl) (fun s2 I2=>?_) hf)
  have e2:=(I2.pin (C,o) (List.mem_append_right _ (List.mem_append_right _ (by simp)))).1
  obtain⟨o',es,ep,h1,h2,h3⟩:=hm
  rw[e] at h1;cases h1
  refine⟨m,⟨o,es,ep,e2,h2,h3⟩,fun h' sb=>wpAny_pure (wpAny_pure ?_)⟩
  have I3:Inv X pins (σ.set i (some (.ref acc))) H' s2:=I2.unpinned
  exact⟨_,H',I3.turned (t':=s2.toks) (fun b o hb e=>(sb.2 b hb).trans e) f0 f1 f3 f4 f5,q⟩
end
end L2
namespace L2
open PySem PySem.Spec PyProof.Rows
noncomputable def Itz (K:PySem.W.Frag) (a b:Addr):It :=
  ⟨fun i H=>∃ xs ys x y,SqL K H a xs∧SqL K H b ys∧xs[i]?=some x∧ys[i]?=some y,
   fun i H v H'=>∃ T x y,v=.ref T∧H T=none∧H'=upd H T (.tup [x,y])∧(∀ xs,SqL K H a xs→xs[i]?=some x)∧∀ ys,SqL K H b ys→ys[i]?=some y,
   fun i H=>∃ xs ys,SqL K H a xs∧SqL K H b ys∧(xs.length≤i∨ys.length≤i)⟩
noncomputable def zipSt (z TI TO i1 i2 l1 l2:Addr) (i:Nat) (h:Heap):Prop :=
  IsZip h z TI TO .none∧IsPair h TI (.ref i1) (.ref i2)∧(∃ a b,IsPair h TO a b)∧h.IsListIter i1 l1 i∧h.IsListIter i2 l2 i
theorem turn_zip {P:Program} {w:World} {K:PySem.W.Frag} {elts:List Expr} {k0:Nat} {tpos:Pos} (z TI TO i1 i2 l1 l2:Addr) (D:ZipApart z TI TO i1 i2 l1 l2) :
    Turn P w K (.Tuple elts k0 tpos) (Itz K l1 l2) [z,TI,TO,i1,i2] z (zipSt z TI TO i1 i2 l1 l2) where
  mem:=by simp
  obj:=fun i h st b hb=>by
    obtain⟨hz,hTI,⟨a,c,hTO⟩,⟨o1,e1,c1,d1⟩,⟨o2,e2,c2,d2⟩⟩:=st
    simp only[List.mem_cons,List.not_mem_nil,or_false] at hb
    rcases hb with rfl | rfl | rfl | rfl | rfl
    · exact⟨_,hz,fun v q=>by cases q⟩
    · exact⟨_,hTI,fun v q=>by cases q⟩
    · exact⟨_,hTO,fun v q=>by cases q⟩
    · exact⟨o1,e1,fun v q=>by rw[d1] at q;cases q⟩
    · exact⟨o2,e2,fun v q=>by rw[d2] at q;cases q⟩
  keep:=fun i h h' st k=>by
    obtain⟨hz,hTI,⟨a,c,hTO⟩,h1,h2⟩:=st
    exact⟨k z (by simp) _ hz,k TI (by simp) _ hTI,⟨a,c,k TO (by simp) _ hTO⟩,h1.at fun o e=>k i1 (by simp) o e,h2.at fun o e=>k i2 (by simp) o e⟩
  item:=by
    intro X hP hw hK hc i pins s σ H E I hf st hg
    subst hP hw hK
    obtain⟨hz,hTI,⟨a,c,hTO⟩,h1,h2⟩:=st
    obtain⟨xs,ys,x,y,q1,q2,hx,hy⟩:=hg
    obtain⟨its1,rv1,p1,_⟩:=I.list q1
    obtain⟨its2,rv2,p2,_⟩:=I.list q2
    obtain⟨u1,hu1,ru1⟩:=rv1.get hx
    obtain⟨u2,hu2,ru2⟩:=rv2.get hy
    refine wpAny_pyNext_zip_item D hz hTI hTO h1 h2 p1.isList p2.isList (x:=u1) (y:=u2) (by simpa using hu1) (by simpa using hu2) fun h' a1 a2 a3 a4 a5 a6 kk=>?_
    have hT:H s.heap.objs.size=none:=I.hok.fresh (Nat.le_refl _)
    have nch:∀ b u,H b=some u→b ∉ [z,TO,i1,i2]:=fun b u e hb=>by
      have hb':b∈[z,TI,TO,i1,i2]:=by
        simp only[List.mem_cons,List.not_mem_nil,or_false] at hb ⊢
        rcases hb with q | q | q | q
        · exact .inl q
        · exact .inr (.inr (.inl q))
        · exact .inr (.inr (.inr (.inl q)))
        · exact .inr (.inr (.inr (.inr q)))
      rw[(hf b hb').1] at e;cases e
    have kk':∀ b o,b ∉ [z,TO,i1,i2]→s.heap.get? b=some o→h'.get? b=some o:=fun b o hb e=>by
      simp only[List.mem_cons,List.not_mem_nil,or_false,not_or] at hb
      exact kk b o hb.1 hb.2.1 hb.2.2.1 hb.2.2.2 e
    have ltT:∀ b o,s.heap.get? b=some o→b≠s.heap.objs.size:=fun b o e=>Nat.ne_of_lt (Heap.lt_size e)
    have hokT:HOk X.prog X.w (upd H s.heap.objs.size (.tup [x,y])) h':=fun b ob e=>by
      by_cases hb:b=s.heap.objs.size
      · subst hb
        rw[Za2] at e
        cases e
        exact⟨by show 2≤sizeLine;decide,[u1,u2],.cons ru1 (.cons ru2 .nil),_,a5,rfl,_,rfl⟩
      · rw[Zc8 hb] at e
        refine (I.hok b ob e).stay (fun c v hcv q=>kk' c v ?_ q) (fun c q=>by rw[Zc8 (Zb1 q hT)];exact q) fun c xs q=>by rw[Zc8 (Zb1 q hT)];exact q
        rcases hcv with rfl | hcv
        · exact nch _ _ e
        · exact nch _ _ hcv
    have I1:Inv X pins σ (upd H s.heap.objs.size (.tup [x,y])) { s with heap:=h' }:=by
      refine I.step (g':=s.gens) (d':=s.drawn) (t':=s.toks) (ch:=[z,TO,i1,i2]) (fun b hb=>?_) (fun b o _ _ hb e _=>kk' b o hb e) (fun b o _ _ hb e _=>⟨o.slots,kk' b o hb e⟩) (fun b o _ e n=>by rw[Zc8 (ltT b o e)];exact n) (fun b o hb e=>⟨o,kk' b o hb e⟩)
        (fun b xs q=>by rw[Zc8 (Zb1 q hT)];exact q) (fun b o u q=>by rw[Zc8 (Zb1 q hT)];exact q) (fun b ps q=>⟨#[],by rw[Zc8 (Zb1 q hT),q];simp⟩) (fun m hm=>?_) hokT I.bare
      · have hb':b∈[z,TI,TO,i1,i2]:=by
          simp only[List.mem_cons,List.not_mem_nil,or_false] at hb ⊢
          rcases hb with q | q | q | q
          · exact .inl q
          · exact .inr (.inr (.inl q))
          · exact .inr (.inr (.inr (.inl q)))
          · exact .inr (.inr (.inr (.inr q)))
        obtain⟨f0,f1,f2,f3,f4,f5⟩:=hf b hb'
        exact⟨f3,f1,f4,f5⟩
      · obtain⟨o,es,ep,ho,r⟩:=hm
        refine⟨o,es,ep,kk' _ o ?_ ho,r⟩
        simp only[List.mem_cons,List.not_mem_nil,or_false,not_or]
        exact⟨((hf z (by simp)).2.1).symm,((hf TO (by simp)).2.1).symm,((hf i1 (by simp)).2.1).symm,((hf i2 (by simp)).2.1).symm⟩
    refine⟨_,rfl,wpAny_letOwnedTupleGo_zip a1 fun h'' hz'' sb=>?_⟩
    obtain⟨f0,f1,f2,f3,f4,f5⟩:=hf z (by simp)
    have ltz:∀ b∈[z,TI,TO,i1,i2],b≠s.heap.objs.size:=fun b hb=>by
      simp only[List.mem_cons,List.not_mem_nil,or_false] at hb
      obtain⟨o1,e1,_⟩:=h1
      obtain⟨o2,e2,_⟩:=h2
      rcases hb with rfl | rfl | rfl | rfl | rfl
      · exact ltT _ _ hz
      · exact ltT _ _ hTI
      · exact ltT _ _ hTO
      · exact ltT _ _ e1
      · exact ltT _ _ e2
    have fn:∀ b∈[z,TI,TO,i1,i2],upd H s.heap.objs.size (.tup [x,y]) b=none:=fun b hb=>by rw[Zc8 (ltz b hb)];exact (hf b hb).1
    have I2:Inv X pins σ (upd H s.heap.objs.size (.tup [x,y])) { s with heap:=h'' }:=I1.turned (t':=s.toks) (fun b o hb e=>(sb.2 b hb).trans e) (fn z (by simp)) f1 f3 f4 f5
    refine⟨.ref s.heap.objs.size,_,I2,rfl,⟨_,x,y,rfl,hT,rfl,fun ys hy'=>by rw[I.list_inj hy' q1];exact hx,fun ys hy'=>by rw[I.list_inj hy' q2];exact hy⟩,⟨hz'',?_,⟨u1,u2,?_⟩,?_,?_⟩,fn⟩
    · exact (sb.2 TI D.TIz).trans (kk' TI _ (by simp only[List.mem_cons,List.not_mem_nil,or_false,not_or];exact⟨D.TIz,D.TITO,D.TIi1,D.TIi2⟩) hTI)
    · exact (sb.2 TO D.TOz).trans a2
    · exact a3.extBut sb.extBut D.i1z
    · exact a4.extBut sb.extBut D.i2z
  done:=by
    intro X hP hw hK hc i pins s σ H E I hf st hg
    subst hP hw hK
    obtain⟨hz,hTI,⟨a,c,hTO⟩,h1,h2⟩:=st
    obtain⟨xs,ys,q1,q2,hend⟩:=hg
    obtain⟨its1,rv1,p1,_⟩:=I.list q1
    obtain⟨its2,rv2,p2,_⟩:=I.list q2
    have e1:=rv1.length
    have e2:=rv2.length
    refine wpAny_pyNext_zip_end (I.ok.hd hc) D hz hTI hTO h1 h2 p1.isList p2.isList ?_ fun h' kk=>⟨rfl,?_⟩
    · rcases hend with q | q
      · exact .inl (by simp;omega)
      · exact .inr (by simp;omega)
    · have nch:∀ b u,H b=some u→b ∉ [z,TO,i1,i2]:=fun b u e hb=>by
        have hb':b∈[z,TI,TO,i1,i2]:=by
          simp only[List.mem_cons,List.not_mem_nil,or_false] at hb ⊢
          rcases hb with q | q | q | q
          · exact .inl q
          · exact .inr (.inr (.inl q))
          · exact .inr (.inr (.inr (.inl q)))
          · exact .inr (.inr (.inr (.inr q)))
        rw[(hf b hb').1] at e;cases e
      have kk':∀ b o,b ∉ [z,TO,i1,i2]→s.heap.get? b=some o→h'.get? b=some o:=fun b o hb e=>by
        simp only[List.mem_cons,List.not_mem_nil,or_false,not_or] at hb
        exact kk b o hb.1 hb.2.1 hb.2.2.1 hb.2.2.2 e
      have hok':HOk X.prog X.w H h':=fun b ob e=>by
        refine (I.hok b ob e).stay (fun c v hcv q=>kk' c v ?_ q) (fun c q=>q) fun c xs q=>q
        rcases hcv with rfl | hcv
        · exact nch _ _ e
        · exact nch _ _ hcv
      refine I.step (g':=s.gens) (d':=s.drawn) (t':=s.toks) (ch:=[z,TO,i1,i2]) (fun b hb=>?_) (fun b o _ _ hb e _=>kk' b o hb e) (fun b o _ _ hb e _=>⟨o.slots,kk' b o hb e⟩) (fun b o _ e n=>n) (fun b o _ e=>?_)
        (fun b xs q=>q) (fun b o u q=>q) (fun b ps q=>⟨#[],by rw[q];simp⟩) (fun m hm=>?_) hok' I.bare
      · have hb':b∈[z,TI,TO,i1,i2]:=by
          simp only[List.mem_cons,List.not_mem_nil,or_false] at hb ⊢
          rcases hb with q | q | q | q
          · exact .inl q
          · exact .inr (.inr (.inl q))
          · exact .inr (.inr (.inr (.inl q)))
          · exact .inr (.inr (.inr (.inr q)))
        obtain⟨f0,f1,f2,f3,f4,f5⟩:=hf b hb'
        exact⟨f3,f1,f4,f5⟩
      · rename_i hb
        exact⟨o,kk' b o hb e⟩
      · obtain⟨o,es,ep,ho,r⟩:=hm
        refine⟨o,es,ep,kk' _ o ?_ ho,r⟩
        simp only[List.mem_cons,List.not_mem_nil,or_false,not_or]
        exact⟨((hf z (by simp)).2.1).symm,((hf TO (by simp)).2.1).symm,((hf i1 (by simp)).2.1).symm,((hf i2 (by simp)).2.1).symm⟩
  self:=fun _ _ _ _ _ st h=>wpAny_pyIter_zip st.1 h
section
variable {X:Cx}
noncomputable def iZip (K:PySem.W.Frag) (ta:TA):TI:=fun σ H R=>ta σ H fun vs H1=>∃ a b,vs=[.ref a,.ref b]∧(∃ xs,SqL K H1 a xs)∧(∃ ys,SqL K H1 b ys)∧R (Itz K a b) H1
theorem pi_zip {a b:Expr} {ta:TA} {p pos:Pos} {elts:List Expr} {k0:Nat} {tpos:Pos} (hg:Gl X "zip") (hm:X.mg "zip"=none) (ha:PA X [a,b] ta) (hs:starEach [a,b] X.env=[(false,eval a X.env),(false,eval b X.env)]:=by rfl) (hs2:starEach [b] X.env=[(false,eval b X.env)]:=by rfl) :
    PI X (.Tuple elts k0 tpos) (.Call (.Name "zip" p) [a,b] [] pos) (iZip X.K ta):=by
  intro pins s σ H R I h
  refine Call_ (ld_blt I hg hm (by first | exact PySem.boot_zip | rfl) (PyProof.Rows.callWith_type1 (thn (ha pos pins s σ H _ I h) fun us s1 ⟨vs,H1,I1,r1,q1⟩=>?_) (by rw[hs,hs2]) (by rw[hs2];rfl)))
  obtain⟨l1,l2,e,⟨xs,q1⟩,⟨ys,q2⟩,q⟩:=q1
  subst e
  obtain⟨u1,u2,rfl,ru1,ru2⟩:=vals2 r1
  cases ru1
  cases ru2
  obtain⟨its1,rv1,p1,_⟩:=I1.list q1
  obtain⟨its2,rv2,p2,_⟩:=I1.list q2
  have a1:l1 < s1.heap.objs.size:=by obtain⟨_,e,_⟩:=p1.isList;exact Heap.lt_size e
  have a2:l2 < s1.heap.objs.size:=by obtain⟨_,e,_⟩:=p2.isList;exact Heap.lt_size e
  refine call_zip_2 p1.isList p2.isList fun h' hz hTI hTO hi1 hi2 _ hk=>wpAny_pyIter_zip hz ?_
  have I2:Inv X pins σ H1 { s1 with heap:=h' }:=I1.kept (t':=s1.toks) hk
  refine⟨_,_,_,_,H1,rfl,I2,turn_zip _ _ _ _ _ l1 l2 (zipApart_new a1 a2),⟨hz,hTI,⟨_,_,hTO⟩,hi1,hi2⟩,fun b hb=>?_,q⟩
  have hb':s1.heap.objs.size≤b:=by
    simp only[List.mem_cons,List.not_mem_nil,or_false] at hb
    rcases hb with rfl | rfl | rfl | rfl | rfl<;>omega
  exact I1.fpOk hb' (I1.hok.fresh hb')
end
end L2
namespace PySem
open Sem (wp)
namespace F
end F
end PySem
namespace L2
open PySem PySem.Spec PyProof.Rows
end L2
namespace L2
open PySem PySem.Spec PyProof.Rows
structure KDict (K:PySem.W.Frag) (w:World) (a:Addr) (kvs:List (Str×V)):Prop where
  ex:∃ (o:Obj) (es:Array DictEntry) (ep:Nat),K.lookup a=some o∧o.ExactDict∧o.data=.dict es ep∧Paired (fun (p:Str×V) (e:DictEntry)=>(∃ tk,e.key=.str p.1 tk)∧e.hash=PyData.keyHash w.params p.1∧RelV p.2 e.val) kvs es.toList
  nd:(kvs.map (·.1)).Nodup
  ns:(a == sysModules)=false
noncomputable def kvK (kvs:List (Str×V)):List (Key×V):=kvs.map fun p=>(Sum.inr p.1,p.2)
section
variable {X:Cx} {pins:List (Addr×Obj)} {σ:St} {H:Hp} {s:Shared} {a:Addr} {kvs:List (Str×V)}
theorem kd_pairs {P:Program} {w:World}:∀ {kvs:List (Str×V)} {es:List DictEntry},Paired (fun (p:Str×V) (e:DictEntry)=>(∃ tk,e.key=.str p.1 tk)∧e.hash=PyData.keyHash w.params p.1∧RelV p.2 e.val) kvs es →
    (∀ e∈es,∃ k,(mixKind P w).is k e.key=true∧e.hash=(mixKind P w).hash k)∧Pairs (mixKind P w) es (List.zip (kvs.map fun p=>(Sum.inr p.1:Key)) (es.map (·.val)))∧KV (kvK kvs) (List.zip (kvs.map fun p=>(Sum.inr p.1:Key)) (es.map (·.val)))
  | [],_,r=>by cases r;exact⟨(fun _ h=>(nomatch h)),.nil,.nil⟩
  | p :: kvs,_,r=>by
    cases r with
    | @cons _ e _ es h t =>
      obtain⟨⟨tk,h1⟩,h2,h3⟩:=h
      obtain⟨q1,q2,q3⟩:=kd_pairs (P:=P) t
      have hi:(mixKind P w).is (Sum.inr p.1) e.key=true:=by rw[h1];exact mixKind_str P w p.1 tk
      refine⟨fun e' he=>?_,.cons hi rfl q2,.cons ⟨rfl,h3⟩ q3⟩
      rcases List.mem_cons.mp he with rfl | he
      · exact⟨Sum.inr p.1,hi,h2⟩
      · exact q1 e' he
theorem KDict.of (D:KDict X.K X.w a kvs) (I:Inv X pins σ H s):∃ vs,KV (kvK kvs) vs∧s.heap.DictOf (mixKind X.prog X.w) a vs:=by
  obtain⟨o,es,ep,lk,ex,d,pr⟩:=D.ex
  obtain⟨q1,q2,q3⟩:=kd_pairs (P:=X.prog) pr
  refine⟨_,q3,o,es,ep,I.kIn a o lk,ex,d,fun e he=>q1 e (by simpa using he),q2,?_⟩
  have e:(List.zip (kvs.map fun p=>(Sum.inr p.1:Key)) (es.toList.map (·.val))).map (·.1)=kvs.map fun p=>(Sum.inr p.1:Key):=by
    rw[List.map_fst_zip]
    have:=Paired.length pr
    simp only[List.length_map];omega
  rw[e]
  have inj:∀ l:List (Str×V),(l.map (·.1)).Nodup→(l.map fun p=>(Sum.inr p.1:Key)).Nodup:=by
    intro l
    induction l with
    | nil=>intro _;exact List.nodup_nil
    | cons p r ih =>
      intro h
      rw[List.map_cons,List.nodup_cons] at h
      rw[List.map_cons,List.nodup_cons]
      refine⟨fun m=>h.1 ?_,ih h.2⟩
      obtain⟨q,hq,eq⟩:=List.mem_map.mp m
      exact List.mem_map.mpr ⟨q,hq,Sum.inr.inj eq⟩
  exact inj kvs D.nd
theorem valV_kvK (kvs:List (Str×V)) (x:Str):valV (kvK kvs) (Sum.inr x)=kvs.lookup x:=by
  unfold valV kvK
  induction kvs with
  | nil=>rfl
  | cons p r ih =>
    rw[List.map_cons,List.find?_cons]
    obtain⟨k,v⟩:=p
    by_cases e:k=x
    · subst e;simp[List.lookup_cons]
    · have e1:¬ (Sum.inr k:Key)=Sum.inr x:=fun q=>e (Sum.inr.inj q)
      have e2:(x == k)=false:=beq_eq_false_iff_ne.mpr (Ne.symm e)
      simp only[decide_eq_false e1,List.lookup_cons,e2]
      exact ih
noncomputable def tKD (kvs:List (Str×V)) (ti:TE):TE:=fun σ H Q=>ti σ H fun y H1=>∃ x v,y=.str x∧kvs.lookup x=some v∧Q v H1
theorem pe_kdget {name:Str} {i:Expr} {ti:TE} {p pos:Pos} (D:KDict X.K X.w a kvs) (hg:Gl X name) (hm:X.mg name=some (.ref a)) (hi:PE X i ti) (hs:NoSl i:=by exact fun _ _=>rfl) (hd:(name == ("__debug__":Str))=false:=by decide) :
    PE X (.Subscript (.Name name p) i pos) (tKD kvs ti):=by
  intro pins s σ H Q I h
  refine subD_of PySem.F.slot_dict_getitem.lookup hs (ld_glob I hg hm (thn (hi pins s σ H _ I h) fun iv s2 ⟨y,H2,I2,ry,x,v,ey,hl,q2⟩=>?_) hd)
  subst ey
  obtain⟨vs,rel,dd⟩:=D.of I2
  obtain⟨w',hw,rw'⟩:=RelO.some_of (v:=v) (o:=valueAt vs (Sum.inr x)) (by rw[← hl,← valV_kvK];exact rel.val (Sum.inr x))
  exact⟨dd.typeIs,wpAny_getItem_of (kV_is (k:=Sum.inr x) ry) dd.mapOf hw ⟨v,H2,I2.tok _,rw',q2⟩⟩
noncomputable def tKNotIn (kvs:List (Str×V)) (ti:TE):TE:=fun σ H Q=>ti σ H fun y H1=>∃ x,y=.str x∧Q (.bl (!(kvs.lookup x).isSome)) H1
theorem pc_knotin {name:Str} {i:Expr} {ti:TE} {p:Pos} (D:KDict X.K X.w a kvs) (hg:Gl X name) (hm:X.mg name=some (.ref a)) (hi:PE X i ti) (hd:(name == ("__debug__":Str))=false:=by decide) :
    PC X .NotIn i (.Name name p) (tKNotIn kvs ti):=by
  intro pins s σ H Q I h
  refine thn (hi pins s σ H _ I h) fun iv s1 ⟨y,H1,I1,ry,x,ey,q1⟩=>?_
  subst ey
  refine ld_glob I1 hg hm ?_ hd
  obtain⟨vs,rel,dd⟩:=D.of I1
  refine wpAny_notIn_of (kV_is (k:=Sum.inr x) ry) D.ns dd.mapOf ?_
  rw[← (rel.val (Sum.inr x)).isSome_eq,valV_kvK]
  exact⟨.bl _,H1,I1.tok _,rfl,q1⟩
end
end L2
namespace L2
open PySem PySem.Spec PyProof.Rows
section
variable {X:Cx} {scope:Scope} {N':List Str}
theorem relabel_nofree {scope:Scope} {env:Env} (h:∀ y∈scope.names,y.2≠.free):(relabel scope env).names=scope.names:=by
  unfold relabel
  simp only
  have aux:∀ l:List (Str×NameKind),(∀ y∈l,y.2≠.free)→l.map (fun (n,k)=>if (k == NameKind.free&&env.scope.kind == .function&&env.kindOf n == some .cell) then (n,NameKind.cell) else (n,k))=l:=by
    intro l
    induction l with
    | nil=>intro _;rfl
    | cons y r ih =>
      intro h
      rw[List.map_cons,ih fun z hz=>h z (List.mem_cons_of_mem _ hz)]
      obtain⟨n,k⟩:=y
      have:(k == NameKind.free)=false:=by simpa using h (n,k) List.mem_cons_self
      simp[this]
  exact aux _ h
theorem blk0 (hc:∀ y∈scope.names,y.2≠.cell) (hf:∀ y∈scope.names,y.2≠.free) (hk:scope.kind=.function) (hn:∀ y∈scope.names,y.2=.local→scope.names.lookup y.1=some .local) (_:X.Ok):BlkOk X scope [] N' N'.length [] where
  clos:=closureFor_none hf
  cell:=hc
  kind:=hk
  names:=hn
  sub:=fun _ _ h=>by cases h
  has:=fun x h=>by
    rw[relabel_nofree hf] at h
    rcases h with h | h
    · exact absurd rfl (hc _ (PySem.mem_of_lookup h))
    · exact absurd rfl (hf _ (PySem.mem_of_lookup h))
  len:=by simp
  cap:=fun j i h=>by simp at h
noncomputable def closL (cells:List (Str×Addr)):List (Str×NameKind)→List (Str×Addr)→List (Str×Addr)
  | [],acc=>acc
  | (n,k) :: r,acc=>if k == .free then closL cells r ((n,(cells.lookup n).getD 0) :: acc) else closL cells r acc
theorem closL_eq {env:Env}:∀ (names:List (Str×NameKind)) (acc:List (Str×Addr)),(∀ y∈names,y.2=.free→∃ c,env.cells.lookup y.1=some c) →
    (forIn names acc fun (x:Str×NameKind) cs=>(match x with | (name,kind)=>if (kind == .free)=true then do let c ← cellOf env name;pure (ForInStep.yield ((name,c) :: cs)) else pure (ForInStep.yield cs):Sem (ForInStep (List (Str×Addr)))))=pure (closL env.cells names acc)
  | [],acc,_=>rfl
  | (n,k) :: r,acc,h=>by
    rw[List.forIn_cons]
    unfold closL
    by_cases hk:(k == NameKind.free)=true
    · obtain⟨c,hc⟩:=h (n,k) List.mem_cons_self (by simpa using hk)
      have e:cellOf env n=pure c:=by unfold cellOf;rw[show env.cells.lookup n=some c from hc]
      have hc':env.cells.lookup n=some c:=hc
      simp only[hk,if_true,e,pure_bind,hc',Option.getD_some]
      exact closL_eq r _ fun y hy=>h y (List.mem_cons_of_mem _ hy)
    · simp only[hk,if_false,pure_bind]
      exact closL_eq r acc fun y hy=>h y (List.mem_cons_of_mem _ hy)
theorem closureFor_eq {scope:Scope} {env:Env} (h:∀ y∈scope.names,y.2=.free→∃ c,env.cells.lookup y.1=some c):closureFor scope env=pure (closL env.cells scope.names []):=by
  unfold closureFor
  have e:=closL_eq (env:=env) scope.names [] h
  simp only[bind_pure_comp] at e ⊢
  first
    | exact e
    | (rw[e];rfl)
    | (refine Eq.trans ?_ e;rfl)
theorem closL_mem {cells:List (Str×Addr)}:∀ {names:List (Str×NameKind)} {acc:List (Str×Addr)} {x:Str} {c:Addr},(x,c)∈closL cells names acc→(x,c)∈acc∨((x,NameKind.free)∈names∧c=(cells.lookup x).getD 0)
  | [],acc,x,c,h=>.inl h
  | (n,k) :: r,acc,x,c,h=>by
    unfold closL at h
    by_cases hk:(k == NameKind.free)=true
    · rw[if_pos hk] at h
      have hk':k=.free:=by simpa using hk
      rcases closL_mem h with h | ⟨h1,h2⟩
      · rcases List.mem_cons.mp h with e | h
        · cases e
          subst hk'
          exact .inr ⟨List.mem_cons_self,rfl⟩
        · exact .inl h
      · exact .inr ⟨List.mem_cons_of_mem _ h1,h2⟩
    · rw[if_neg hk] at h
      rcases closL_mem h with h | ⟨h1,h2⟩
      · exact .inl h
      · exact .inr ⟨List.mem_cons_of_mem _ h1,h2⟩
theorem closL_has {cells:List (Str×Addr)}:∀ {names:List (Str×NameKind)} {acc:List (Str×Addr)} {x:Str},(x,NameKind.free)∈names∨(∃ c,(x,c)∈acc)→∃ c,(x,c)∈closL cells names acc
  | [],acc,x,h=>by
    rcases h with h | h
    · cases h
    · exact h
  | (n,k) :: r,acc,x,h=>by
    unfold closL
    by_cases hk:(k == NameKind.free)=true
    · rw[if_pos hk]
      refine closL_has ?_
      rcases h with h | ⟨c,h⟩
      · rcases List.mem_cons.mp h with e | h
        · cases e
          exact .inr ⟨_,List.mem_cons_self⟩
        · exact .inl h
      · exact .inr ⟨c,List.mem_cons_of_mem _ h⟩
    · rw[if_neg hk]
      refine closL_has ?_
      rcases h with h | h
      · rcases List.mem_cons.mp h with e | h
        · cases e
          exact absurd (beq_self_eq_true NameKind.free) hk
        · exact .inl h
      · exact .inr h
theorem lookup_of_mem {l:List (Str×Addr)} {x:Str} {c:Addr} (h:(x,c)∈l):∃ c',l.lookup x=some c':=by
  induction l with
  | nil=>cases h
  | cons p r ih =>
    obtain⟨n,a⟩:=p
    by_cases e:(x == n)=true
    · exact⟨a,by simp[List.lookup_cons,e]⟩
    · have e':(x == n)=false:=by simpa using e
      rcases List.mem_cons.mp h with h | h
      · cases h;simp at e
      · obtain⟨c',q⟩:=ih h
        exact⟨c',by simp only[List.lookup_cons,e'];exact q⟩
theorem relabel_free {env:Env}:∀ {names:List (Str×NameKind)} {x:Str} {k:NameKind},(names.map fun (n,k)=>if (k == NameKind.free&&env.scope.kind == .function&&env.kindOf n == some .cell) then (n,NameKind.cell) else (n,k)).lookup x=some k→(k=.cell∨k=.free)→(∀ y∈names,y.2≠.cell)→(x,NameKind.free)∈names
  | [],x,k,h,_,_=>by cases h
  | (n,j) :: r,x,k,h,hk,hc=>by
    rw[List.map_cons] at h
    by_cases e:(x == n)=true
    · have e':x=n:=by simpa using e
      subst e'
      have hj:j≠.cell:=hc (x,j) List.mem_cons_self
      by_cases q:(j == NameKind.free&&env.scope.kind == .function&&env.kindOf x == some .cell)=true
      · have:j=.free:=by
          rw[Bool.and_eq_true,Bool.and_eq_true] at q
          simpa using q.1.1
        subst this
        exact List.mem_cons_self
      · simp only[q,if_false,List.lookup_cons,beq_self_eq_true] at h
        have h':j=k:=by simpa using h
        subst h'
        rcases hk with z | z
        · exact absurd z hj
        · subst z;exact List.mem_cons_self
    · have e':(x == n)=false:=by simpa using e
      refine List.mem_cons_of_mem _ (relabel_free (env:=env) (k:=k) ?_ hk fun y hy=>hc y (List.mem_cons_of_mem _ hy))
      have h':List.lookup x ((if (j == NameKind.free&&env.scope.kind == .function&&env.kindOf n == some .cell)=true then (n,NameKind.cell) else (n,j)) :: _)=some k:=h
      by_cases q:(j == NameKind.free&&env.scope.kind == .function&&env.kindOf n == some .cell)=true
      · rw[if_pos q,List.lookup_cons,e'] at h';exact h'
      · rw[if_neg q,List.lookup_cons,e'] at h';exact h'
theorem relabel_cell {env:Env} {x:Str} (h1:env.scope.kind=.function) (h2:env.kindOf x=some .cell):∀ {names:List (Str×NameKind)},names.lookup x=some .free→(names.map fun (n,k)=>if (k == NameKind.free&&env.scope.kind == .function&&env.kindOf n == some .cell) then (n,NameKind.cell) else (n,k)).lookup x=some .cell
  | [],h=>by cases h
  | (n,j) :: r,h=>by
    rw[List.map_cons]
    by_cases e:(x == n)=true
    · have e':x=n:=by simpa using e
      subst e'
      simp only[List.lookup_cons,beq_self_eq_true] at h
      have hj:j=.free:=by simpa using h
      subst hj
      have q:((NameKind.free == NameKind.free)&&env.scope.kind == .function&&env.kindOf x == some .cell)=true:=by rw[h1,h2];rfl
      show List.lookup x ((if ((NameKind.free == NameKind.free)&&env.scope.kind == .function&&env.kindOf x == some .cell)=true then (x,NameKind.cell) else (x,NameKind.free)) :: _)=_
      rw[if_pos q,List.lookup_cons,beq_self_eq_true]
    · have e':(x == n)=false:=by simpa using e
      simp only[List.lookup_cons,e'] at h
      by_cases q:(j == NameKind.free&&env.scope.kind == .function&&env.kindOf n == some .cell)=true
      · show List.lookup x ((if (j == NameKind.free&&env.scope.kind == .function&&env.kindOf n == some .cell)=true then (n,NameKind.cell) else (n,j)) :: _)=_
        rw[if_pos q,List.lookup_cons,e'];exact relabel_cell h1 h2 h
      · show List.lookup x ((if (j == NameKind.free&&env.scope.kind == .function&&env.kindOf n == some .cell)=true then (n,NameKind.cell) else (n,j)) :: _)=_
        rw[if_neg q,List.lookup_cons,e'];exact relabel_cell h1 h2 h
noncomputable def capOk (N':List Str) (nt:Nat) (ci:List Nat) (Xn:List Str) (fsc scope:Scope):Bool :=
  (List.range ci.length).all fun j=>match ci[j]?,N'[nt+j]? with
    | some i,some x=>Xn[i]? == some x&&fsc.names.lookup x == some .cell&&scope.names.lookup x == some .free
    | _,_=>false
theorem blkC {nt:Nat} {ci:List Nat} (Xn:List Str) (fsc:Scope) (hN:X.N=Xn) (hs:X.env.scope=fsc) (hc:∀ y∈scope.names,y.2≠.cell) (hk:scope.kind=.function) (hn:∀ y∈scope.names,y.2=.local→scope.names.lookup y.1=some .local)
    (hfr:∀ y∈scope.names,y.2=.free→fsc.names.lookup y.1=some .cell) (hl:N'.length=nt+ci.length) (cap:capOk N' nt ci Xn fsc scope=true) (ok:X.Ok):BlkOk X scope (closL X.env.cells scope.names []) N' nt ci:=by
  have fr:∀ y∈scope.names,y.2=.free→∃ c,X.env.cells.lookup y.1=some c:=fun y hy e=>ok.has y.1 (.inl (by show X.env.scope.names.lookup y.1=_;rw[hs];exact hfr y hy e))
  have sub:∀ x c,(closL X.env.cells scope.names []).lookup x=some c→X.env.cells.lookup x=some c:=fun x c h=>by
    rcases closL_mem (PySem.mem_of_lookup h) with z | ⟨z1,z2⟩
    · cases z
    · obtain⟨c',e⟩:=fr _ z1 rfl
      rw[show X.env.cells.lookup x=some c' from e] at z2 ⊢
      rw[z2];rfl
  refine⟨closureFor_eq fr,hc,hk,hn,sub,fun x h=>?_,hl,fun j i h=>?_⟩
  · have hm:(x,NameKind.free)∈scope.names:=by
      rcases h with h | h
      · exact relabel_free h (.inl rfl) hc
      · exact relabel_free h (.inr rfl) hc
    obtain⟨c,q⟩:=closL_has (cells:=X.env.cells) (acc:=[]) (.inl hm)
    exact lookup_of_mem q
  · unfold capOk at cap
    rw[List.all_eq_true] at cap
    have hj:j < ci.length:=(List.getElem?_eq_some_iff.mp h).1
    have q:=cap j (List.mem_range.mpr hj)
    rw[h] at q
    cases e:N'[nt+j]? with
    | none=>rw[e] at q;cases q
    | some x =>
      rw[e] at q
      simp only[Bool.and_eq_true,beq_iff_eq] at q
      refine⟨x,rfl,by rw[hN];exact q.1.1,by rw[hs];exact q.1.2,.inl (relabel_cell ok.kind ?_ q.2)⟩
      show X.env.scope.names.lookup x=_
      rw[hs];exact q.1.2
end
theorem Same.sqt {K:PySem.W.Frag} {H H':Hp} {a:Addr} {xs:List V} (e:Same H H') (h:SqT K H a xs):SqT K H' a xs:=by
  rcases h with (h | ⟨o,h⟩) | h
  · exact .inl (.inl (e _ _ h))
  · exact .inl (.inr ⟨o,e _ _ h⟩)
  · exact .inr h
theorem Same.keepT {K:PySem.W.Frag} {H H':Hp} (e:Same H H'):KeepT K H H':=fun _ _ h=>e.sqt h
theorem Za3 {H:Hp} {p:Addr} (h:H p=none) (o:HO):Same H (upd H p o):=fun b u q=>by rw[Zc8 (Zb1 q h)];exact q
theorem KeepT.trans {K:PySem.W.Frag} {H H1 H2:Hp} (a:KeepT K H H1) (b:KeepT K H1 H2):KeepT K H H2:=fun x xs h=>b x xs (a x xs h)
theorem Zf6 {K:PySem.W.Frag} {H:Hp} {l:Addr} {xs:List V} {o:HO} (h:H l=some (.lst xs)):KeepT K H (upd H l o):=fun a ys q=>by
  rcases q with (q | ⟨ob,q⟩) | q
  · exact .inl (.inl (by rw[Zc8 (ne_of q h (by intro z;cases z))];exact q))
  · exact .inl (.inr ⟨ob,by rw[Zc8 (ne_of q h (by intro z;cases z))];exact q⟩)
  · exact .inr q
theorem keepT_new {K:PySem.W.Frag} {H:Hp} {l:Addr} {o:HO} (h:H l=none):KeepT K H (upd H l o):=(Za3 h o).keepT
theorem Same.write {H0 H:Hp} {l:Addr} {o:HO} (e:Same H0 H) (h:H0 l=none):Same H0 (upd H l o):=fun b u q=>by
  rw[Zc8 (Zb1 q h)];exact e b u q
theorem cxOf_K (CX:CXT) (P:Program) (w:World) (K:PySem.W.Frag) (mg:Str→Option Value) (base:Heap) (N:List Str) (qual:Str) (scope:Scope) (f:Addr) (cd:Value) (A:Around) (outer:List Env) (s:Shared) (H:Hp) (E:XK):(cxOf CX P w K mg base N qual scope f cd A outer s H E).K=K:=rfl
theorem blk_K (X:Cx) (N':List Str) (scope:Scope) (cl:List (Str×Addr)) (s:Shared) (H:Hp) (C:Addr) (ex:List Addr):(blk X N' scope cl s H C ex).K=X.K:=rfl
theorem scal_int (a b:Int):scal (.int a) (.int b)=true:=rfl
theorem Ze2 (a b:Str):scal (.str a) (.str b)=true:=rfl
theorem scal_bl (a b:Bool):scal (.bl a) (.bl b)=true:=rfl
theorem mul_left {i j:Int} (h1:-(2 ^ 64) < i) (h2:i < 2 ^ 64):CMul i j:=.inl ⟨h1,h2⟩
theorem mul_right {i j:Int} (h1:-(2 ^ 64) < j) (h2:j < 2 ^ 64):CMul i j:=.inr ⟨h1,h2⟩
theorem Za7 {t u:TS} {D:Ends} {σ:St} {H:Hp} (R:St→Hp→Prop) (rest:∀ σ' H',R σ' H'→u D σ' H') (first:∀ C:St→Hp→Prop,(∀ σ' H',R σ' H'→C σ' H')→t { D with nx:=C } σ H):tSeq t u D σ H:=first (u D) rest
theorem lcW_range {K:PySem.W.Frag} {σ0:St} {n:Nat} {lo:Int} {acc:Addr} {g:TG} {te:TE} {Q:VK} {H:Hp} (Pv:Nat→List V→Hp→Prop) (h0:Pv 0 [] (upd H acc (.lst []))) (hl:∀ i ys H2,i≤n→Pv i ys H2→H2 acc=some (.lst ys)∧ys.length < sizeLine)
    (hs:∀ i ys H2,i < n→Pv i ys H2→∀ C:VK,(∀ y H5,H5 acc=some (.lst ys)→Pv (i+1) (ys++[y]) (upd H5 acc (.lst (ys++[y])))→C y H5)→g (.int (lo+i)) σ0 H2 fun σ4 H4=>Wk σ0 σ4∧te σ4 H4 C) (hd:∀ ys H2,Pv n ys H2→Q (.ref acc) H2) :
    ∃ W:Nat→Nat→List V→Hp→Prop,(∃ m,W 0 m [] (upd H acc (.lst [])))∧lcW K σ0 (Itr lo n) acc g te Q W:=by
  refine⟨fun i m ys H2=>m=n - i∧i≤n∧Pv i ys H2,⟨n,by simp,Nat.zero_le _,h0⟩,?_⟩
  rintro i m ys H2 ⟨rfl,hi,p⟩
  obtain⟨a,b⟩:=hl i ys H2 hi p
  refine⟨a,b,?_⟩
  by_cases hlt:i < n
  · refine .inr ⟨hlt,fun x H3 y=>?_⟩
    obtain⟨e,y⟩:=y
    subst e y
    exact hs i ys _ hlt p _ fun v H5 z1 z2=>⟨z1,n - (i+1),by omega,rfl,hlt,z2⟩
  · have e:i=n:=by omega
    subst e
    exact .inl ⟨Nat.le_refl _,hd ys H2 p⟩
theorem lcW_list {K:PySem.W.Frag} {σ0:St} {a:Addr} {xs:List V} {acc:Addr} {g:TG} {te:TE} {Q:VK} {H:Hp} (Pv:Nat→List V→Hp→Prop) (h0:Pv 0 [] (upd H acc (.lst []))) (hl:∀ i ys H2,i≤xs.length→Pv i ys H2→H2 acc=some (.lst ys)∧ys.length < sizeLine∧SqL K H2 a xs)
    (hs:∀ i x ys H2,xs[i]?=some x→Pv i ys H2→∀ C:VK,(∀ y H5,H5 acc=some (.lst ys)→Pv (i+1) (ys++[y]) (upd H5 acc (.lst (ys++[y])))→C y H5)→g x σ0 H2 fun σ4 H4=>Wk σ0 σ4∧te σ4 H4 C) (hd:∀ ys H2,Pv xs.length ys H2→Q (.ref acc) H2) :
    ∃ W:Nat→Nat→List V→Hp→Prop,(∃ m,W 0 m [] (upd H acc (.lst [])))∧lcW K σ0 (Itl K a) acc g te Q W:=by
  refine⟨fun i m ys H2=>m=xs.length - i∧i≤xs.length∧Pv i ys H2,⟨xs.length,by simp,Nat.zero_le _,h0⟩,?_⟩
  rintro i m ys H2 ⟨rfl,hi,p⟩
  obtain⟨e1,e2,q⟩:=hl i ys H2 hi p
  refine⟨e1,e2,?_⟩
  by_cases hlt:i < xs.length
  · refine .inr ⟨⟨xs,xs[i],q,by simp[hlt]⟩,fun x H3 y=>?_⟩
    obtain⟨e,y⟩:=y
    subst e
    exact hs i x ys _ (y xs q) p _ fun v H5 z1 z2=>⟨z1,xs.length - (i+1),by omega,rfl,hlt,z2⟩
  · have e:i=xs.length:=by omega
    subst e
    exact .inl ⟨⟨xs,q,Nat.le_refl _⟩,hd ys H2 p⟩
theorem str_ext {x y:Str} (h:x.cps.toList=y.cps.toList):x=y:=by
  obtain⟨a⟩:=x
  obtain⟨b⟩:=y
  have:a=b:=by simpa using congrArg List.toArray h
  rw[this]
theorem cps_append (x y:Str):(x++y).cps.toList=x.cps.toList++y.cps.toList:=by
  show (x.cps++y.cps).toList=_
  simp
theorem len_cps (x:Str):x.length=x.cps.toList.length:=by simp[Str.length]
theorem join_cps:∀ ys:List Str,(Txt.join Str.empty ys).cps.toList=(ys.map fun y=>y.cps.toList).flatten:=by
  intro ys
  show (Builtin.Str.glued Str.empty ys).cps.toList=_
  rw[StrLaws.glued_eq_join]
  induction ys with
  | nil=>rfl
  | cons y r ih =>
    cases r with
    | nil=>simp[Str.join]
    | cons z r =>
      show (y++Str.empty++Str.join Str.empty (z :: r)).cps.toList=_
      rw[cps_append,cps_append,ih]
      simp[Str.empty]
theorem slice_cps (x:Str) (a b:Nat) (hab:a≤b) (hb:b≤x.length):(Txt.slice x (some (a:Int)) (some (b:Int))).cps.toList=(x.cps.toList.drop a).take (b - a):=by
  have e:Txt.slice x (some (a:Int)) (some (b:Int))=StrLaws.sliceText x (some (a:Int)) (some (b:Int)):=rfl
  rw[e,StrLaws.sliceText_nat x hab hb]
end L2
namespace Ken
open PySem L2
theorem boot_len:bootBuiltins "len"=some (.builtin "len"):=by decide +kernel
theorem boot_max:bootBuiltins "max"=some (.builtin "max"):=by decide +kernel
theorem boot_min:bootBuiltins "min"=some (.builtin "min"):=by decide +kernel
theorem boot_sorted:bootBuiltins "sorted"=some (.builtin "sorted"):=by decide +kernel
theorem boot_all:bootBuiltins "all"=some (.builtin "all"):=by decide +kernel
theorem boot_list:bootBuiltins "list"=some (.type "list"):=by decide +kernel
inductive Kd where
  | both | one | thn
  deriving DecidableEq
noncomputable def Kd.str:Kd→Str
  | .both=>"both"
  | .one=>"one"
  | .thn=>"then"
inductive Tm where
  | low
  | ltr (w:Str)
  | nd (k:Kd) (a b:Tm)
  deriving DecidableEq
noncomputable def Tm.data:Tm→PyData
  | .low=>.tuple [.str "low"]
  | .ltr w=>.tuple [.str "letter",.str w]
  | .nd k a b=>.tuple [.str k.str,a.data,b.data]
noncomputable def Tm.parts:Tm→Nat
  | .low=>1
  | .ltr _=>1
  | .nd _ a b=>1+a.parts+b.parts
noncomputable def Tm.deep:Tm→Nat
  | .low=>1
  | .ltr _=>1
  | .nd _ a b=>1+max a.deep b.deep
theorem Tm.parts_pos:∀ t:Tm,1≤t.parts
  | .low=>Nat.le_refl _
  | .ltr _=>Nat.le_refl _
  | .nd _ a b=>by show 1≤1+a.parts+b.parts;omega
noncomputable def Word (x:Str):Prop:=1≤x.cps.toList.length∧x.cps.toList.length≤8∧∀ c∈x.cps.toList,97≤c∧c≤122
theorem Word.strOk {x:Str} (h:Word x):PySem.PyData.strOk x=true:=by
  unfold PySem.PyData.strOk
  rw[Array.all_eq_true_iff_forall_mem]
  intro c hc
  have:=h.2.2 c (by simpa using hc)
  exact decide_eq_true (by omega)
noncomputable def Tm.ok:Tm→Prop
  | .low=>True
  | .ltr w=>Word w
  | .nd _ a b=>a.ok∧b.ok
noncomputable abbrev IsT (K:PySem.W.Frag) (H:Hp) (v:V) (t:Tm):Prop:=Dn K H v t.data
theorem Tm.noList:∀ t:Tm,L2.noList t.data=true
  | .low=>rfl
  | .ltr _=>rfl
  | .nd k a b=>by
    show (true&&(L2.noList a.data&&(L2.noList b.data&&true)))=true
    rw[a.noList,b.noList];rfl
theorem Tm.lay:∀ t:Tm,t.ok→t.data.canLay0=true
  | .low,_=>by
    show (PySem.PyData.strOk "low"&&true)=true
    decide +kernel
  | .ltr w,h=>by
    show (PySem.PyData.strOk "letter"&&(PySem.PyData.strOk w&&true))=true
    rw[Word.strOk h];decide +kernel
  | .nd k a b,h=>by
    show (PySem.PyData.strOk k.str&&(a.data.canLay0&&(b.data.canLay0&&true)))=true
    rw[a.lay h.1,b.lay h.2]
    cases k<;>decide +kernel
theorem Tm.depth:∀ t:Tm,t.data.depth=t.deep
  | .low=>rfl
  | .ltr _=>rfl
  | .nd k a b=>by
    show max 0 (max a.data.depth (max b.data.depth 0))+1=1+max a.deep b.deep
    rw[a.depth,b.depth];omega
section
variable {K:PySem.W.Frag} {H H':Hp} {v:V}
theorem IsT.keep {t:Tm} (h:IsT K H v t) (k:KeepT K H H'):IsT K H' v t:=Dn.keepT k t.noList h
theorem isT_low:IsT K H v .low↔∃ a,v=.ref a∧SqT K H a [.str "low"]:=by
  show Dn K H v (.tuple [.str "low"])↔_
  rw[Dn]
  constructor
  · rintro⟨a,xs,rfl,hs,hd⟩
    rw[DnAll] at hd
    obtain⟨x,r,rfl,h1,h2⟩:=hd
    rw[Dn] at h1
    rw[DnAll] at h2
    subst h1;subst h2
    exact⟨a,rfl,hs⟩
  · rintro⟨a,rfl,hs⟩
    refine⟨a,_,rfl,hs,?_⟩
    rw[DnAll]
    exact⟨_,_,rfl,by rw[Dn],by rw[DnAll]⟩
theorem isT_ltr {w:Str}:IsT K H v (.ltr w)↔∃ a,v=.ref a∧SqT K H a [.str "letter",.str w]:=by
  show Dn K H v (.tuple [.str "letter",.str w])↔_
  rw[Dn]
  constructor
  · rintro⟨a,xs,rfl,hs,hd⟩
    rw[DnAll] at hd
    obtain⟨x,r,rfl,h1,h2⟩:=hd
    rw[DnAll] at h2
    obtain⟨y,r,rfl,h3,h4⟩:=h2
    rw[Dn] at h1 h3
    rw[DnAll] at h4
    subst h1;subst h3;subst h4
    exact⟨a,rfl,hs⟩
  · rintro⟨a,rfl,hs⟩
    refine⟨a,_,rfl,hs,?_⟩
    rw[DnAll]
    refine⟨_,_,rfl,by rw[Dn],?_⟩
    rw[DnAll]
    exact⟨_,_,rfl,by rw[Dn],by rw[DnAll]⟩
theorem isT_nd {k:Kd} {a b:Tm}:IsT K H v (.nd k a b)↔∃ p x y,v=.ref p∧SqT K H p [.str k.str,x,y]∧IsT K H x a∧IsT K H y b:=by
  show Dn K H v (.tuple [.str k.str,a.data,b.data])↔_
  rw[Dn]
  constructor
  · rintro⟨p,xs,rfl,hs,hd⟩
    rw[DnAll] at hd
    obtain⟨x,r,rfl,h1,h2⟩:=hd
    rw[DnAll] at h2
    obtain⟨y,r,rfl,h3,h4⟩:=h2
    rw[DnAll] at h4
    obtain⟨z,r,rfl,h5,h6⟩:=h4
    rw[Dn] at h1
    rw[DnAll] at h6
    subst h1;subst h6
    exact⟨p,y,z,rfl,hs,h3,h5⟩
  · rintro⟨p,x,y,rfl,hs,h1,h2⟩
    refine⟨p,_,rfl,hs,?_⟩
    rw[DnAll]
    refine⟨_,_,rfl,by rw[Dn],?_⟩
    rw[DnAll]
    refine⟨_,_,rfl,h1,?_⟩
    rw[DnAll]
    exact⟨_,_,rfl,h2,by rw[DnAll]⟩
end
theorem eqvAll3 (a b c d e f:PyData):PyData.eqvAll [a,b,c] [d,e,f]=(PyData.eqv a d&&(PyData.eqv b e&&PyData.eqv c f)):=by
  simp[PyData.eqvAll]
theorem Kd.str_inj {a b:Kd} (h:a.str=b.str):a=b:=by
  cases a<;>cases b<;>first | rfl | exact absurd h (by decide)
theorem Tm.eqv:∀ s t:Tm,PyData.eqv s.data t.data=decide (s=t)
  | .low,.low=>by decide
  | .low,.ltr w=>by
    show PyData.eqvAll [.str "low"] [.str "letter",.str w]=_
    simp[PyData.eqvAll]
  | .low,.nd k a b=>by
    show PyData.eqvAll [.str "low"] [.str k.str,a.data,b.data]=_
    simp[PyData.eqvAll]
  | .ltr w,.low=>by
    show PyData.eqvAll [.str "letter",.str w] [.str "low"]=_
    simp[PyData.eqvAll]
  | .ltr w,.ltr v=>by
    show (PyData.eqv (.str "letter") (.str "letter")&&(PyData.eqv (.str w) (.str v)&&true))=_
    simp[PyData.eqv]
    rfl
  | .ltr w,.nd k a b=>by
    show PyData.eqvAll [.str "letter",.str w] [.str k.str,a.data,b.data]=_
    simp[PyData.eqvAll]
  | .nd k a b,.low=>by
    show PyData.eqvAll [.str k.str,a.data,b.data] [.str "low"]=_
    simp[PyData.eqvAll]
  | .nd k a b,.ltr w=>by
    show PyData.eqvAll [.str k.str,a.data,b.data] [.str "letter",.str w]=_
    simp[PyData.eqvAll]
  | .nd k a b,.nd l c d=>by
    show PyData.eqvAll [.str k.str,a.data,b.data] [.str l.str,c.data,d.data]=_
    rw[eqvAll3,a.eqv c,b.eqv d]
    have e:PyData.eqv (.str k.str) (.str l.str)=decide (k=l):=by
      show (k.str == l.str)=_
      by_cases h:k=l
      · subst h;simp
      · have:¬ k.str=l.str:=fun z=>h (Kd.str_inj z)
        rw[decide_eq_false h];exact beq_eq_false_iff_ne.mpr this
    rw[e]
    by_cases h1:k=l<;>by_cases h2:a=c<;>by_cases h3:b=d<;>simp[h1,h2,h3]
end Ken
namespace Ken
open PySem L2
noncomputable def mix (c k:Int):Int:=((c+1)*(48271+118*k) % 2147483629 / 977*16807+(c+1)*(48271+118*k) % 2147483629*(k*k+7)+k) % 2147483587
theorem mix_nn (c k:Int):0≤mix c k:=by unfold mix;exact Int.emod_nonneg _ (by decide)
noncomputable def sp_mix:Sp:=fun vs H Q _=>∃ c k:Int,vs=[.int c,.int k]∧0≤k∧k≤100000∧Q (.int (mix c k)) H
noncomputable def cellOf (ns:List Int) (k:Int):Int:=mix (if k < (ns.length:Int) then (ns[k.toNat]?.getD 0) % 2147483647 else 0) (k+101)
theorem cell_nn (ns:List Int) (k:Int):0≤cellOf ns k:=mix_nn _ _
noncomputable def sp_cell (K:PySem.W.Frag):Sp:=fun vs H Q _=>∃ (a:Addr) (ns:List Int) (k:Int),vs=[.ref a,.int k]∧SqL K H a (ns.map V.int)∧ns.length≤63∧0≤k∧k≤1000∧Q (.int (cellOf ns k)) H
noncomputable def Words (ws:List Str):Prop:=2≤ws.length∧ws.length≤6∧∀ w∈ws,Word w
noncomputable def Tm.inW (ws:List Str):Tm→Prop
  | .low=>True
  | .ltr w=>w∈ws
  | .nd _ a b=>a.inW ws∧b.inW ws
theorem Tm.inW.ok {ws:List Str} (hw:∀ w∈ws,Word w):∀ {t:Tm},t.inW ws→t.ok
  | .low,_=>trivial
  | .ltr w,h=>hw w h
  | .nd _ a b,h=>⟨Tm.inW.ok hw h.1,Tm.inW.ok hw h.2⟩
noncomputable def Made (K:PySem.W.Frag) (H:Hp) (ws:List Str) (p d:Nat) (r:V) (t:Tm):Prop:=IsT K H r t∧t.inW ws∧t.parts≤p∧t.deep≤d
theorem Made.mono {K:PySem.W.Frag} {H H':Hp} {ws:List Str} {p d p' d':Nat} {r:V} {t:Tm} (h:Made K H ws p d r t) (k:KeepT K H H') (hp:p≤p') (hd:d≤d'):Made K H' ws p' d' r t :=
  ⟨h.1.keep k,h.2.1,Nat.le_trans h.2.2.1 hp,Nat.le_trans h.2.2.2 hd⟩
section
variable {K:PySem.W.Frag} {H:Hp} {p:Addr}
theorem made_low (ws:List Str) (hp:H p=none):Made K (upd H p (.tup [.str "low"])) ws 1 1 (.ref p) .low :=
  ⟨isT_low.mpr ⟨p,rfl,.inl (.inl Za2)⟩,trivial,Nat.le_refl _,Nat.le_refl _⟩
theorem made_ltr {ws:List Str} {w:Str} (hw:w∈ws) (hp:H p=none):Made K (upd H p (.tup [.str "letter",.str w])) ws 1 1 (.ref p) (.ltr w) :=
  ⟨isT_ltr.mpr ⟨p,rfl,.inl (.inl Za2)⟩,hw,Nat.le_refl _,Nat.le_refl _⟩
theorem made_nd {ws:List Str} {k:Kd} {x y:V} {a b:Tm} {pa da pb db:Nat} (ha:Made K H ws pa da x a) (hb:Made K H ws pb db y b) (hp:H p=none) :
    Made K (upd H p (.tup [.str k.str,x,y])) ws (1+pa+pb) (1+max da db) (.ref p) (.nd k a b):=by
  refine⟨isT_nd.mpr ⟨p,x,y,rfl,.inl (.inl Za2),ha.1.keep (keepT_new hp),hb.1.keep (keepT_new hp)⟩,⟨ha.2.1,hb.2.1⟩,?_,?_⟩
  · show 1+a.parts+b.parts≤_
    have:=ha.2.2.1
    have:=hb.2.2.1
    omega
  · show 1+max a.deep b.deep≤_
    have:=ha.2.2.2
    have:=hb.2.2.2
    omega
end
theorem at_list {α:Type} {xs:List α} {i:Int} (h0:0≤i) (h1:i < (xs.length:Int)):∃ v,v∈xs∧atI xs i=some v:=by
  obtain⟨j,rfl⟩:=Int.eq_ofNat_of_zero_le h0
  have hj:j < xs.length:=by omega
  exact⟨xs[j],List.getElem_mem hj,Zd6 (List.getElem?_eq_getElem hj)⟩
end Ken
namespace Ken
open PySem L2
theorem small1M {n:Nat} (h:n≤1000000):n < sizeLine:=Nat.lt_of_le_of_lt h (by rw[sizeLine_eq];decide)
theorem isT_tup {K:PySem.W.Frag} {H:Hp} {v:V} {t:Tm} (h:IsT K H v t):∃ a xs,v=.ref a∧SqT K H a xs:=by
  cases t with
  | low=>obtain⟨a,rfl,hs⟩:=isT_low.mp h;exact⟨a,_,rfl,hs⟩
  | ltr w=>obtain⟨a,rfl,hs⟩:=isT_ltr.mp h;exact⟨a,_,rfl,hs⟩
  | nd k x y=>obtain⟨a,vx,vy,rfl,hs,_,_⟩:=isT_nd.mp h;exact⟨a,_,rfl,hs⟩
theorem canLay_list {ds:List PyData} (h:∀ d∈ds,d.canLay0=true):(PyData.list ds).canLay0=true:=by
  show PyData.canLayAll0 ds=true
  induction ds with
  | nil=>rfl
  | cons d ds ih =>
    show (d.canLay0&&PyData.canLayAll0 ds)=true
    rw[h d List.mem_cons_self,ih fun e he=>h e (List.mem_cons_of_mem _ he)];rfl
end Ken
namespace Ken
open PySem L2
noncomputable def sp_law (K:PySem.W.Frag):Sp:=fun vs H Q _=>∃ (a:Addr) (ns:List Int),vs=[.ref a]∧SqL K H a (ns.map V.int)∧ns.length≤63∧∀ H',Q (.bl true) H'
theorem paired_get {α β:Type} {F:α→β→Prop}:∀ {l:List α} {m:List β} {i:Nat} {x:α},Paired F l m→l[i]?=some x→∃ y,m[i]?=some y∧F x y
  | _,_,0,_,.cons h t,e=>by cases e;exact⟨_,rfl,h⟩
  | _,_,i+1,_,.cons h t,e=>paired_get (i:=i) t (by simpa using e)
end Ken
namespace L2
open PySem PySem.Spec PyProof.Rows
theorem pg_tupK {X:Cx} {K:PySem.W.Frag} {pos:Pos} {es:List Expr} {k:Nat} {t:TGs} {n:Nat} (hc:X.calm=true) (hK:X.K=K) (h:PGs X es t)
    (hn:(assignEach es X.env).length=n) (hst:(assignEach es X.env).findIdx? (·.1)=none):PG X (.Tuple es k pos) (gTup K n t):=hK▸pg_tup hc h hn hst
end L2
namespace Ken
open PySem L2
theorem Zd3 {α β:Type} {F:α→β→Prop}:∀ {l l':List α} {m m':List β},Paired F l m→Paired F l' m'→Paired F (l++l') (m++m')
  | _,_,_,_,.nil,q=>q
  | _,_,_,_,.cons h t,q=>.cons h (Zd3 t q)
end Ken
namespace Ken
open PySem L2
end Ken
namespace L2
open PySem PySem.Spec PyProof.Rows
section
variable {X:Cx}
theorem call_list_ofK {K:PySem.W.Frag} (hK:X.K=K):CallR X (.type "list") (fun xs H Q=>∃ p ys,xs=[.ref p]∧(SqL K H p ys∨SqT K H p ys)∧∀ l,H l=none→Q (.ref l) (upd H l (.lst ys))):=hK▸Zd8
theorem ix_listK {K:PySem.W.Frag} (hK:X.K=K):IxR X (rIxL K):=hK▸Zd5
theorem ix_tupK {K:PySem.W.Frag} (hK:X.K=K):IxR X (rIxT K):=hK▸Zb7
end
end L2
namespace L2
open PySem PySem.Spec PyProof.Rows
noncomputable abbrev TK:=St→Hp→(Hp→Prop)→Prop
noncomputable def compW (σ0:St) (J:It) (g:TG) (tk:TK) (Q:Hp→Prop) (W:Nat→Nat→Hp→Prop):Prop :=
  ∀ i m H2,W i m H2→(J.stop i H2∧Q H2)∨(J.go i H2∧∀ x H3,J.yld i H2 x H3→g x σ0 H3 fun σ4 H4=>Wk σ0 σ4∧tk σ4 H4 fun H5=>∃ m',m' < m∧W (i+1) m' H5)
noncomputable def PTn (Y:Cx) (body:Sem Unit) (tk:TK):Prop:=∀ (pins:List (Addr×Obj)) (s:Shared) (σ:St) (H:Hp) (N:Hp→Prop),Inv Y pins σ H s→tk σ H N →
  wpAny (model Y.prog Y.w) Y.A body (fun _ s'=>∃ σ' H',Inv Y pins σ' H' s'∧Wk σ σ'∧N H') Y.xe s
noncomputable def TurnIs (e:Expr) (d:Nat) (tg:Expr) (p:Pos) (acc:Value) (env:Env) (body:Sem Unit):Prop:=∀ it,compTurn e d it acc env=(standAt p >>= fun _=>pyNext it >>= fun r=>match r with
      | none=>pure (.done .next)
      | some v=>letOwnedTupleGo tg it v >>= fun _=>assign tg env v >>= fun _=>body >>= fun _=>again (.compLoop e d it acc env))
noncomputable def DenIs (prog:Program) (w:World) (A:Around) (e:Expr) (d:Nat) (acc:Value) (env:Env):Prop:=∀ it,
  (model prog w).den (.compLoop e d it acc env)=(compTurn e d it acc env).onRaise (fun x=>do noteFrame x env;theTreesLotGoes x)∧A.under (.compLoop e d it acc env)=A ∧
  (∃ p,(model prog w).den (.compStart e d it acc env)=(compStart e d it acc env).onRaise (fun x=>do noteFrame x env;standAt p))∧A.under (.compStart e d it acc env)=A
theorem comp_loop {Y:Cx} {e tg:Expr} {d:Nat} {p:Pos} {g:TG} {tk:TK} {it:Addr} {acc:Value} {body:Sem Unit} {fp:List Addr} {tn:Nat→Heap→Prop} {J:It} {Q:Hp→Prop} {σ0:St} {R:Result→Shared→Prop} {s:Shared} {i0 m0:Nat} {H1:Hp} {W:Nat→Nat→Hp→Prop} {pins:List (Addr×Obj)}
    (hc:Y.calm=true) (hxe:Y.xe=fun _ _=>False) (hden:DenIs Y.prog Y.w Y.A e d acc Y.env) (eq:TurnIs e d tg p acc Y.env body) (hg:PG Y tg g) (hb:PTn Y body tk) (T:Turn Y.prog Y.w Y.K tg J fp it tn)
    (hfp:∀ (H':Hp),(∀ b∈fp,H' b=none)→∀ b∈fp,FpOk Y pins H' b) (hW:compW σ0 J g tk Q W)
    (hR:∀ s' H',Inv Y pins σ0 H' s'→Q H'→R (.ok .next) s')
    (I:Inv Y pins σ0 H1 s) (hst:tn i0 s.heap) (hfr:∀ b∈fp,H1 b=none) (w:W i0 m0 H1) :
    codeAny (model Y.prog Y.w) Y.A (.compLoop e d (.ref it) acc Y.env) R s:=by
  have nE:∀ {M:Model} {A:Around} {env:Env} {E:Value→Shared→Prop} (x:Value) (s:Shared),Y.xe x s→notedBy M A env E x s:=fun x s z=>by rw[hxe] at z;exact z.elim
  refine codeAny_loop rfl (fun n s=>∃ i H2,Inv Y pins σ0 H2 s∧tn i s.heap∧(∀ b∈fp,H2 b=none)∧W i n H2) (fun n s hI=>?_) m0 ⟨i0,H1,I,hst,hfr,w⟩
  obtain⟨i,H2,I2,st2,fr2,w2⟩:=hI
  rw[(hden (.ref it)).1,(hden (.ref it)).2.1]
  refine wpAny_noted ?_
  rw[eq]
  refine wpAny_bind (wpAny_standAt (wpAny_bind ?_))
  rcases hW i n H2 w2 with ⟨stop,q⟩ | ⟨go,step⟩
  · refine thn (T.done Y rfl rfl rfl hc i pins s σ0 H2 _ I2 (hfp H2 fr2) st2 stop) fun r s1 ⟨hr,I3⟩=>?_
    subst hr
    exact wpAny_pure (hR s1 H2 I3 q)
  · refine thn (T.item Y rfl rfl rfl hc i pins s σ0 H2 _ I2 (hfp H2 fr2) st2 go) fun r s1 ⟨u,hr,h4⟩=>?_
    subst hr
    refine wpAny_bind (thn h4 fun _ s5 ⟨x,H5,I5,r5,y5,st5,fr5⟩=>?_)
    have I5':=I5.pinned (hfp H5 fr5) (T.obj _ _ st5)
    refine wpAny_bind (wpAny_mono (hg _ s5 σ0 H5 x u _ I5' r5 (step x H5 y5)) (fun _ s6 ⟨σ6,H6,I6,hw6,q6⟩=>?_) nE)
    refine wpAny_bind (wpAny_mono (hb _ s6 σ6 H6 _ I6 q6) (fun _ s8 ⟨σ8,H8,I8,hw8,m',hm',w7⟩=>?_) nE)
    refine wpAny_pure ⟨rfl,m',hm',i+1,H8,?_,?_,fun b hb=>?_,w7⟩
    · have:=hw6.trans hw8
      exact I8.unpinned.weak this.1.symm this.2
    · exact T.keep _ _ _ st5 fun b hb o e=>(I8.pin (b,o) (List.mem_append_right _ (List.mem_append_right _ (Zh3 hb e)))).1
    · obtain⟨o,e,dd⟩:=T.obj _ _ st5 b hb
      exact (I8.pin (b,o) (List.mem_append_right _ (List.mem_append_right _ (Zh3 hb e)))).2.1
theorem codeAny_compStart_gen {prog:Program} {w:World} {A:Around} {R:Result→Shared→Prop} {s:Shared} {e:Expr} {d:Nat} {g:Comprehension} {it acc:Value} {env:Env} (hden:DenIs prog w A e d acc env) (hcl:(clausesOf e)[d]?=some g) (ha:g.is_async=0)
    (h0:codeAny (model prog w) A (.compLoop e d it acc env) R s)
    (h:wpAny (model prog w) A (pyIter it) (fun it' s'=>codeAny (model prog w) A (.compLoop e d it' acc env) R s') (notedBy (model prog w) A env fun x s'=>R (.error x) s') s) :
    codeAny (model prog w) A (.compStart e d it acc env) R s:=by
  refine codeAny_of_tree ?_
  obtain⟨p,ep⟩:=(hden it).2.2.1
  rw[ep,(hden it).2.2.2]
  refine wpAny_notedAt ?_
  unfold compStart
  rw[hcl]
  have e1:((some g).elim false fun x=>x.is_async != 0)=false:=by show (g.is_async != 0)=false;rw[ha];rfl
  rw[e1,if_neg Bool.false_ne_true]
  refine wpAny_bind (wpAny_askSetting ?_)
  refine wpAny_ite ?_
  split
  · exact wpAny_pure ⟨rfl,h0⟩
  · refine wpAny_bind (wpAny_rule (wpAny_bind (wpAny_standAt (wpAny_bind (wpAny_mono h (fun it' s' h'=>wpAny_pure ⟨rfl,h'⟩) fun _ _ z=>z)))))
theorem den_L {prog:Program} {w:World} {A:Around} {elt:Expr} {gens:List Comprehension} {scope:Scope} {pos:Pos} {d:Nat} {acc:Value} {env:Env}:DenIs prog w A (.ListComp elt gens scope pos) d acc env:=fun it=>⟨rfl,rfl,⟨_,rfl⟩,rfl⟩
noncomputable def emitL (elt:Expr) (acc:Value) (env:Env):Sem Unit:=eval elt env >>= fun x=>call (.builtin "list.append") [acc,x] >>= fun _=>pure ()
noncomputable def emitS (elt:Expr) (acc:Value) (env:Env):Sem Unit:=eval elt env >>= fun v=>standAt elt.pos >>= fun _=>call (.builtin "set.add") [acc,v] >>= fun _=>pure ()
noncomputable def emitD (k v:Expr) (d:Addr) (env:Env):Sem Unit:=eval k env >>= fun kv=>holding [kv] (eval v env) >>= fun vv=>standAt { line:=k.pos.line,col:=k.pos.col,endLine:=v.pos.endLine,endCol:=v.pos.endCol } >>= fun _=>holding [kv,vv] (dictSet d kv vv)
noncomputable def testB (c:Expr) (env:Env) (body:Sem Unit):Sem Unit:=PySem.isTrue c env (eval c env) >>= fun ok=>if ok=true then body else pure ()
noncomputable def nestB (e:Expr) (d:Nat) (iter:Expr) (acc:Value) (env:Env):Sem Unit:=eval iter env >>= fun x=>standAt iter.pos >>= fun _=>foldedSetIterable iter env x >>= fun x=>holding [x] (pyIter x) >>= fun it=>runOwn (.compStart e d it acc env) env >>= fun _=>pure ()
theorem Zg6 {elt tg iter c tg2 iter2:Expr} {scope:Scope} {pos:Pos} {acc:Value} {env:Env}:TurnIs (.ListComp elt [⟨tg,iter,[c],0⟩] scope pos) 0 tg iter.pos acc env (testB c env (emitL elt acc env)):=fun it=>by
  simp only[compTurn,testB,emitL,emitS,emitD,nestB,List.getElem?_cons_zero,List.getElem?_cons_succ,List.getElem?_nil,List.forIn_cons,List.forIn_nil,bind_assoc,pure_bind,if_true,bne_self_eq_false,Bool.false_eq_true,if_false,Nat.zero_add,Nat.reduceAdd]
  refine bind_congr fun _=>bind_congr fun r=>?_
  cases r with
  | none=>rfl
  | some v =>
    refine bind_congr fun _=>bind_congr fun _=>?_
    first
      | rfl
      | (refine bind_congr fun ok => ?_
         cases ok<;>simp)
      | simp
noncomputable def kApp (te:TE) (acc:Addr):TK:=fun σ H N=>te σ H fun y H5=>∃ ys,H5 acc=some (.lst ys)∧ys.length < sizeLine∧N (upd H5 acc (.lst (ys++[y])))
noncomputable def kTest (tc:TT) (tk:TK):TK:=fun σ H N=>tc σ H fun b H1=>if b=true then tk σ H1 N else N H1
section
variable {Y:Cx}
theorem Zf1 {elt:Expr} {te:TE} {acc:Addr} (he:PE Y elt te):PTn Y (emitL elt (.ref acc) Y.env) (kApp te acc):=by
  intro pins s σ H N I h
  refine wpAny_bind (thn (he pins s σ H _ I h) fun v s7 ⟨y,H7,I7,r7,ys,ha7,hlen,n⟩=>?_)
  refine wpAny_bind (thn (Zg5 (X:=Y) pins s7 σ H7 (.ref acc) [y] (.ref acc) [v] (fun _ H8=>H8=upd H7 acc (.lst (ys++[y]))) I7 rfl (.cons r7 .nil) ⟨acc,ys,y,rfl,rfl,ha7,hlen,rfl⟩) fun _ s8 ⟨_,H8,I8,_,e8⟩=>?_)
  subst e8
  exact wpAny_pure ⟨σ,_,I8,Wk.refl _,n⟩
theorem Zg7 {c:Expr} {tc:TT} {body:Sem Unit} {tk:TK} (ht:PT Y c tc) (hb:PTn Y body tk):PTn Y (testB c Y.env body) (kTest tc tk):=by
  intro pins s σ H N I h
  refine wpAny_bind (thn (ht pins s σ H _ I h) fun b s1 ⟨H1,I1,q1⟩=>?_)
  cases b with
  | true =>
    rw[if_pos rfl] at q1 ⊢
    exact hb pins s1 σ H1 N I1 q1
  | false =>
    rw[if_neg Bool.false_ne_true] at q1 ⊢
    exact wpAny_pure ⟨σ,H1,I1,Wk.refl _,q1⟩
end
noncomputable def tComp (nt:Nat) (ci:List Nat) (wi:TI) (g:TG) (tk:Addr→TK) (o0:HO):TE:=fun σ H Q=>wi σ H fun J H1=>∀ acc,H1 acc=none→∃ W:Nat→Nat→Hp→Prop,(∃ m,W 0 m (upd H1 acc o0))∧compW (capt nt ci σ) J g (tk acc) (fun H2=>Q (.ref acc) H2) W
section
variable {X:Cx} {scope:Scope} {cl:List (Str×Addr)} {N':List Str} {nt:Nat} {ci:List Nat} {pins:List (Addr×Obj)} {σ:St} {H:Hp} {s:Shared}
theorem blk_startO {o0:HO} (B:BlkOk X scope cl N' nt ci) (I:Inv X pins σ H s) {fp:List Addr} (hf:∀ b∈fp,FpOk X pins H b) (ho:∀ b∈fp,∃ o,s.heap.get? b=some o) {C acc:Addr} {h1:Heap} {tk:Nat}
    (hacc:acc=s.heap.objs.size) (hC:C=s.heap.objs.size+1) (k:∀ b u,s.heap.get? b=some u→h1.get? b=some u) (ns:h1.Ns C fun _=>none) (ha:ObjOk X.prog X.w (upd H acc o0) h1 acc o0) :
    Inv (blk X N' scope cl s H C fp) [] (capt nt ci σ) (upd H acc o0) { s with heap:=h1,toks:=tk }:=by
  have hn:H acc=none:=I.hok.fresh (by rw[hacc];exact Nat.le_refl _)
  have hnC:H C=none:=I.hok.fresh (by rw[hC];exact Nat.le_succ _)
  have cellLt:∀ x c,cl.lookup x=some c→c < s.heap.objs.size:=fun x c e=>by
    obtain⟨v,q⟩:=I.cell x c (B.sub x c e)
    exact q.lt
  refine⟨⟨I.ok.mod,B.kind,I.ok.glob,I.ok.blt,?_,fun x y c e1 e2=>I.ok.inj x y c (B.sub _ _ e1) (B.sub _ _ e2),fun x hx=>B.has x hx,fun x c (z:false=true)=>Bool.noConfusion z,fun hc=>I.ok.hd hc,I.ok.frames,.inl rfl,fun b hb=>?_,I.bs,?_,fun b o e hb=>?_,fun b hb=>?_,I.stack,fun b hb=>I.stkFree b hb⟩,
    rfl,I.bare,Un.laid (a:=acc) (o:=o0) k (by rw[hacc];exact Nat.le_refl _) hn,⟨_,ns,fun i x v e1 e2 e3=>?_⟩,fun x c e=>?_,?_,fun x c e=>?_,fun p hp=>absurd (show p∈([]:List (Addr×Obj)) from hp) (by simp),I.hok.laid k (by rw[hacc];exact Nat.le_refl _) ha,?_⟩
  · show s.heap.objs.size≤C
    rw[hC];exact Nat.le_succ _
  · obtain⟨f0,f1,f2,f3,f4,f5⟩:=hf b hb
    obtain⟨o,e⟩:=ho b hb
    refine⟨?_,fun x c e'=>f4 x c (B.sub x c e')⟩
    show b≠C
    rw[hC]
    exact Nat.ne_of_lt (Nat.lt_succ_of_lt (Heap.lt_size e))
  · exact Nat.le_trans I.ok.bsz I.sz
  · obtain⟨f0,f1,f2,f3,f4,f5⟩:=hf b hb
    rcases f3 with z | z
    · exact I.ok.noex b o e z
    · exact absurd (Nat.lt_of_lt_of_le (Heap.lt_size e) (Nat.le_trans I.ok.bsz z)) (Nat.lt_irrefl _)
  · intro z
    obtain⟨f0,f1,f2,f3,f4,f5⟩:=hf b hb
    rcases List.mem_cons.mp (I.stkSub b z) with y | y
    · exact f1 y
    · exact f2 y
  ·
    obtain⟨m,hm,hl⟩:=I.loc
    unfold capt at e2
    by_cases hi:i < nt
    · rw[List.getElem?_append_left (by simpa using hi),List.getElem?_replicate] at e2
      split at e2<;>cases e2
    · rw[List.getElem?_append_right (by simpa using hi),List.length_replicate,List.getElem?_map] at e2
      cases q:ci[i - nt]? with
      | none=>rw[q] at e2;cases e2
      | some j =>
        rw[q] at e2
        have e2':(σ[j]?).join=some v:=Option.some.inj e2
        obtain⟨y,a1,a2,a3,a4⟩:=B.cap _ j q
        have ei:nt+(i - nt)=i:=by omega
        rw[ei,show N'[i]?=some x from e1] at a1
        cases a1
        have e2'':σ[j]?=some (some v):=by
          cases z:σ[j]? with
          | none=>rw[z] at e2';cases e2'
          | some w=>rw[z] at e2';exact congrArg some e2'
        obtain⟨u,r,l⟩:=hl j x v a2 e2'' (.inr (.inl a3))
        refine⟨u,r,.inr ⟨a4,?_⟩⟩
        rcases l with ⟨kk,_⟩ | ⟨_,c,c1,c2⟩
        · have kk':X.env.scope.names.lookup x=some .local:=kk
          rw[a3] at kk';cases kk'
        · obtain⟨c',ec⟩:=B.has x a4
          have:=B.sub x c' ec
          rw[c1] at this;cases this
          exact⟨c,ec,let ⟨o,e,d⟩:=c2;⟨o,k _ _ e,d⟩⟩
  · obtain⟨v,q⟩:=I.cell x c (B.sub x c e)
    exact⟨v,let ⟨o,e,d⟩:=q;⟨o,k _ _ e,d⟩⟩
  · show upd H acc o0 C=none
    rw[Zc8 (by rw[hacc,hC];exact Nat.succ_ne_self _)];exact hnC
  · have lt:=cellLt x c e
    rw[Zc8 (by rw[hacc];exact Nat.ne_of_lt lt)]
    exact I.freeC x c (B.sub x c e)
  · show (capt nt ci σ).length=N'.length
    unfold capt
    rw[List.length_append,List.length_replicate,List.length_map,B.len]
theorem cg_core {e:Expr} {gs:List Comprehension} {ifs:List Expr} {body:Addr→Env→Sem Unit} {newAcc:Sem Value} {ob:Obj} {o0:HO} {p0:Pos} {tk:Addr→TK} {tg iter:Expr} {pos':Pos} {wi:TI} {g:TG} {use:Option (Value→Sem Unit)} {Q:VK} {Qf:Value→Shared→Prop} (B:BlkOk X scope cl N' nt ci) (hc:X.calm=true) (hi:PI X tg iter wi)
    (hg:∀ s H C ex,PG (blk X N' scope cl s H C ex) tg g) (hcl:clausesOf e=⟨tg,iter,ifs,0⟩ :: gs) (hden:∀ acc env,DenIs X.prog X.w X.A e 0 acc env) (htn:∀ a env,TurnIs e 0 tg p0 (.ref a) env (body a env))
    (hb:∀ s H C ex a,PTn (blk X N' scope cl s H C ex) (body a (blk X N' scope cl s H C ex).env) (tk a)) (hnew:∀ {M:Model} {A:Around} {E:Value→Shared→Prop} {s:Shared} {Q:Value→Shared→Prop},Q (.ref s.heap.objs.size) { s with heap:=s.heap.push ob }→wpAny M A newAcc Q E s)
    (hfree:ob.isFreed=false) (hobj:∀ (H:Hp) (h:Heap) (a:Addr),h.get? a=some ob→sysModules < a→ObjOk X.prog X.w (upd H a o0) h a o0) (hs:∀ x,foldedSetIterable iter X.env x=pure x) (I:Inv X pins σ H s) (h:tComp nt ci wi g tk o0 σ H Q)
    (fin:∀ (acc C:Addr) (s':Shared) (H':Hp),Inv X pins σ H' s'→Q (.ref acc) H'→(∃ m,s'.heap.Ns C m)→FpOk X pins H' C→(∃ o,s'.heap.get? C=some o∧∀ v,o.data≠.cell v)→compPost (model X.prog X.w) X.A X.xe use Qf (.ref acc) C (.ok .next) s') :
    wpAny (model X.prog X.w) X.A (comprehension e scope X.env pos' newAcc false (eval iter X.env) use) Qf X.xe s:=by
  refine wpAny_comprehension_free (use:=use) hcl hs B.clos B.kind B.names (thn (hi pins s σ H _ I h) fun v s1 h1=>thn h1 fun itv s2 h2=>?_)
  obtain⟨it,fp,tn,J,H2,e,I2,T,st2,f2,q2⟩:=h2
  subst e
  have hacc:H2 s2.heap.objs.size=none:=I2.hok.fresh (Nat.le_refl _)
  obtain⟨W,⟨m0,w0⟩,hW⟩:=q2 s2.heap.objs.size hacc
  refine hnew (wpAny_newFunctionEnv B.cell (by intro y hy;simp at hy) (fun h₁ hns₁ hsb₁=>?_) B.kind)
  dsimp only at hns₁ hsb₁ ⊢
  have hCs:(s2.heap.push ob).objs.size=s2.heap.objs.size+1:=Heap.size_push ..
  have k1:∀ b u,s2.heap.get? b=some u→h₁.get? b=some u:=fun b u e=>hsb₁.extBut b u (by rw[hCs];exact Nat.ne_of_lt (Nat.lt_succ_of_lt (Heap.lt_size e))) (Heap.get?_push_of_some _ (Heap.get?_push_of_some _ e))
  have a1:h₁.get? s2.heap.objs.size=some ob:=hsb₁.extBut _ _ (by rw[hCs];exact Nat.ne_of_lt (Nat.lt_succ_self _)) (Heap.get?_push_of_some _ (Heap.get?_push_size _ hfree))
  rw[hCs] at hns₁ ⊢
  have hsys:sysModules < s2.heap.objs.size:=I2.big
  have I3:=blk_startO (o0:=o0) (tk:=s2.toks+([]:List (Str×Value)).length) B I2 f2 (fun b hb=>let ⟨o,e,_⟩:=T.obj _ _ st2 b hb;⟨o,e⟩) rfl rfl k1 (by simpa using hns₁) (hobj _ _ _ a1 hsys)
  have hfpB:∀ (H':Hp),(∀ b∈fp,H' b=none)→∀ b∈fp,FpOk (blk X N' scope cl s2 H2 (s2.heap.objs.size+1) fp) [] H' b:=fun H' hn b hb=>by
    obtain⟨f0,f1,f3,f4,f5,f6⟩:=f2 b hb
    obtain⟨o,e,_⟩:=T.obj _ _ st2 b hb
    refine⟨hn b hb,?_,fun z=>?_,.inl hb,fun x c e'=>f5 x c (B.sub x c e'),fun p hp=>absurd (show p∈([]:List (Addr×Obj)) from hp) (by simp)⟩
    · exact Nat.ne_of_lt (Nat.lt_succ_of_lt (Heap.lt_size e))
    · rcases List.mem_cons.mp (I2.stkSub b z) with y | y
      · exact f1 y
      · exact f3 y
  have hfr3:∀ b∈fp,upd H2 s2.heap.objs.size o0 b=none:=fun b hb=>by
    obtain⟨o,e,_⟩:=T.obj _ _ st2 b hb
    rw[Zc8 (Nat.ne_of_lt (Heap.lt_size e))];exact (f2 b hb).1
  have st3:tn 0 h₁:=T.keep _ _ _ st2 fun b _ o e=>k1 b o e
  have loop:codeAny (model X.prog X.w) X.A (.compLoop e 0 (.ref it) (.ref s2.heap.objs.size) (compEnvC scope cl (s2.heap.objs.size+1) X.env))
      (compPost (model X.prog X.w) X.A X.xe use Qf (.ref s2.heap.objs.size) (s2.heap.objs.size+1)) { s2 with heap:=h₁,toks:=s2.toks+([]:List (Str×Value)).length }:=by
    refine comp_loop (Y:=blk X N' scope cl s2 H2 (s2.heap.objs.size+1) fp) (Q:=fun H'=>Q (.ref s2.heap.objs.size) H') hc rfl (hden _ _) (htn _ _) (hg _ _ _ _) (hb _ _ _ _ _) T hfpB hW (fun s' H' I' q=>?_) I3 st3 hfr3 w0
    have un:=I'.base
    have ns:=I'.loc
    have fC:H' (s2.heap.objs.size+1)=none:=I'.free
    have I4:Inv X pins σ H' s':=I2.call' I'.os un I'.hok I'.bare fun b hb=>by
      obtain⟨f0,f1,f3,f4,f5,f6⟩:=f2 b hb
      exact⟨f4,f1,f5,f6⟩
    obtain⟨m,hm,_⟩:=ns
    have hm':s'.heap.Ns (s2.heap.objs.size+1) m:=hm
    refine fin _ _ s' H' I4 q ⟨m,hm'⟩ (I2.fpOk (Nat.le_succ _) fC) ?_
    obtain⟨o,es,ep,e,d,_⟩:=hm'
    exact⟨o,e,fun v z=>by rw[d] at z;cases z⟩
  exact codeAny_compStart_gen (hden _ _) (by rw[hcl];rfl) rfl loop (T.self _ _ _ _ _ st3 loop)
theorem lst_obj {P:Program} {w:World} (H:Hp) (h:Heap) (a:Addr) (e:h.get? a=some { cls:=.type "list",dict:=none,data:=.seq ([]:List Value).toArray }) (_:sysModules < a):ObjOk P w (upd H a (.lst [])) h a (.lst []):=⟨Nat.zero_le _,[],0,.nil,e⟩
theorem pe_lcG {elt tg iter:Expr} {ifs:List Expr} {gs:List Comprehension} {pos p0:Pos} {wi:TI} {g:TG} {tk:Addr→TK} {body:Addr→Env→Sem Unit} (B:X.Ok→BlkOk X scope cl N' nt ci) (hc:X.calm=true) (hi:PI X tg iter wi)
    (hg:∀ s H C ex,PG (blk X N' scope cl s H C ex) tg g) (htn:∀ a env,TurnIs (.ListComp elt (⟨tg,iter,ifs,0⟩ :: gs) scope pos) 0 tg p0 (.ref a) env (body a env))
    (hb:∀ s H C ex a,PTn (blk X N' scope cl s H C ex) (body a (blk X N' scope cl s H C ex).env) (tk a)) (hs:∀ x,foldedSetIterable iter X.env x=pure x:=by intro _;rfl) :
    PE X (.ListComp elt (⟨tg,iter,ifs,0⟩ :: gs) scope pos) (tComp nt ci wi g tk (.lst [])):=by
  intro pins s σ H Q I h
  rw[eval_ListComp]
  refine cg_core (B I.ok) hc hi hg rfl (fun _ _=>den_L) htn hb (fun h=>wpAny_newObj_type h) rfl lst_obj hs I h fun acc C s' H' I' q hm hf ho=>?_
  obtain⟨m,hm⟩:=hm
  obtain⟨f0,f1,f2,f3,f4,f5⟩:=hf
  exact⟨m,hm,fun h' sb=>⟨.ref acc,H',I'.turned (t':=s'.toks) (fun b o hb e=>(sb.2 b hb).trans e) f0 f1 f3 f4 f5,rfl,q⟩⟩
theorem ps_setLCG {i:Nat} {x:Str} {elt tg iter:Expr} {ifs:List Expr} {gs:List Comprehension} {pos spos pos' p0:Pos} {wi:TI} {g:TG} {tk:Addr→TK} {body:Addr→Env→Sem Unit} (hN:X.N.Nodup) (hi:X.N[i]?=some x) (hx:Loc X.env.scope x) (B:X.Ok→BlkOk X scope cl N' nt ci) (hc:X.calm=true) (hit:PI X tg iter wi)
    (hg:∀ s H C ex,PG (blk X N' scope cl s H C ex) tg g) (htn:∀ a env,TurnIs (.ListComp elt (⟨tg,iter,ifs,0⟩ :: gs) scope pos) 0 tg p0 (.ref a) env (body a env))
    (hb:∀ s H C ex a,PTn (blk X N' scope cl s H C ex) (body a (blk X N' scope cl s H C ex).env) (tk a)) (hsw:swapsWith (.ListComp elt (⟨tg,iter,ifs,0⟩ :: gs) scope pos) (some (.Name x pos')) spos.line X.env=pure true)
    (hs:∀ x,foldedSetIterable iter X.env x=pure x:=by intro _;rfl) (hf:X.fn x=true∨X.env.scope.names.lookup x=some .local:=by first | exact .inl rfl | exact .inr rfl | assumption) :
    PS X (.Assign [.Name x pos'] (.ListComp elt (⟨tg,iter,ifs,0⟩ :: gs) scope pos) spos) (tAsg (tComp nt ci wi g tk (.lst [])) (gName i)):=by
  intro pins s σ H D I h
  rw[exec_Assign_Name_used _ _ _ _ hsw]
  refine wpAny_bind (wpAny_standAt (wpAny_bind ?_))
  rw[arm_evalThenUse_ListComp]
  refine wpAny_bind (cg_core (B I.ok) hc hit hg rfl (fun _ _=>den_L) htn hb (fun h=>wpAny_newObj_type h) rfl lst_obj hs I h fun acc C s' H' I' q hm hfC ho=>?_)
  obtain⟨f0,f1,f2,f3,f4,f5⟩:=hfC
  obtain⟨m,hm⟩:=hm
  obtain⟨o,e,d⟩:=ho
  have Ip:Inv X (pins++[(C,o)]) σ H' s':=I'.pins_of fun p hp=>(List.mem_append.mp hp).elim (fun z=>I'.pin p (List.mem_append_right _ z)) fun z=>by
    have e':p=(C,o):=by simpa using z
    subst e'
    exact⟨e,f0,f1,f2,d⟩
  refine wpAny_assign_Name (store_ok Ip hN hi hx (show RelV (.ref acc) (Value.ref acc) from rfl) (fun s2 I2=>?_) hf)
  have e2:=(I2.pin (C,o) (List.mem_append_right _ (List.mem_append_right _ (by simp)))).1
  obtain⟨o',es,ep,h1,h2,h3⟩:=hm
  rw[e] at h1;cases h1
  refine⟨m,⟨o,es,ep,e2,h2,h3⟩,fun h' sb=>wpAny_pure (wpAny_pure ?_)⟩
  have I3:Inv X pins (σ.set i (some (.ref acc))) H' s2:=I2.unpinned
  exact⟨_,H',I3.turned (t':=s2.toks) (fun b o hb e=>(sb.2 b hb).trans e) f0 f1 f3 f4 f5,q⟩
end
end L2
namespace Ken
open PySem L2
noncomputable abbrev gd (p:Array Nat) (k:Nat):Nat:=p.getD k 0
theorem gd_eq {p:Array Nat} {k x:Nat} (h:p[k]?=some x):gd p k=x:=by simp[gd,Array.getD_eq_getD_getElem?,h]
structure PermOk (n:Nat) (p:Array Nat):Prop where
  size:p.size=n
  low:∀ k,k < n→gd p k < n
  inj:∀ i j,i < n→j < n→gd p i=gd p j→i=j
theorem Zf5 {n:Nat} {p:Array Nat} (h:p.Perm (List.range n).toArray):PermOk n p:=by
  have hs:p.size=n:=by have:=h.size_eq;simpa using this
  have hl:p.toList.Perm (List.range n):=by simpa using (Array.perm_iff_toList_perm.mp h)
  have hn:p.toList.Nodup:=hl.nodup_iff.mpr List.nodup_range
  have g:∀ k (hk:k < n),gd p k=p.toList[k]'(by simp[hs,hk]):=fun k hk=>by
    have:k < p.size:=by omega
    exact gd_eq (by simp[this])
  refine⟨hs,fun k hk=>?_,fun i j hi hj e=>?_⟩
  · rw[g k hk]
    have:p.toList[k]'(by simp[hs,hk])∈List.range n:=hl.mem_iff.mp (List.getElem_mem _)
    simpa using this
  · rw[g i hi,g j hj] at e
    exact (List.getElem_inj hn).mp e
section
variable {n:Nat} {lt:Nat→Nat→Bool} {cmp:Nat→Nat→(Bool→Shared→Prop)→Shared→Prop} {S:Shared→Prop}
noncomputable def Asks (n:Nat) (lt:Nat→Nat→Bool) (S:Shared→Prop) (cmp:Nat→Nat→(Bool→Shared→Prop)→Shared→Prop):Prop :=
  ∀ i j (C:Bool→Shared→Prop) s,i < n→j < n→i≠j→S s→(∀ s',S s'→C (lt i j) s')→cmp i j C s
theorem rev_get {p:Array Nat} {m k:Nat} (hm:m≤p.size):gd (W.kas_rev p 0 m) k=if k < m then gd p (m - 1 - k) else gd p k:=by
  have h:=PyProof.Rows.getElem?_mirror_all (xs:=p) (i:=0) (j:=m) hm k
  unfold W.kas_rev
  by_cases hk:k < m
  · rw[if_pos ⟨Nat.zero_le _,hk⟩] at h
    rw[if_pos hk]
    simp only[gd,Array.getD_eq_getD_getElem?,h]
    congr 2
    omega
  · rw[if_neg (fun z=>hk z.2)] at h
    rw[if_neg hk]
    simp only[gd,Array.getD_eq_getD_getElem?,h]
theorem bub_get {p:Array Nat} {k m i:Nat} (hk:k < p.size) (hm:m≤k):gd (PyProof.Rows.bubble p k (k - m)) i=if i=m then gd p k else if m < i∧i≤k then gd p (i - 1) else gd p i:=by
  have h:=PyProof.Rows.getElem?_bubble (xs:=p) (src:=k) hk (k - m) (by omega) i
  have e:k - (k - m)=m:=by omega
  rw[e] at h
  simp only[gd,Array.getD_eq_getD_getElem?,h]
  split
  · rfl
  · split<;>rfl
end
end Ken
namespace L2
open PySem PySem.Spec PyProof.Rows
end L2
namespace L2
open PySem PySem.Spec PyProof.Rows
theorem sort_small {prog:Program} {w:World} {A:Around} {E:Value→Shared→Prop} {s:Shared} {a:Addr} {vs:List Value} {n:Nat} {Q:Value→Shared→Prop} (h2:vs.length < 2) (ho:s.heap.get? a=some (seqObj "list" vs.toArray n))
    (h:Q .none { s with heap:=sortedHeap s.heap a vs vs.toArray }):wpAny (model prog w) A (call (.builtin "list.sort") [.ref a]) Q E s:=by
  refine wpAny_call_entry slot_list_sort ⟨_,ho,rfl⟩ entry_list_sort ?_ (args_list_sort (.ref a))
  rw[list_sort_plain]
  have ha:=Heap.lt_size ho
  refine wpAny_bind (listItems_at ho rfl (wpAny_bind (listUpdate_at ho rfl ?_)))
  obtain⟨e1,ho1⟩:∃ e1,(s.heap.update a (Obj.mapSeq fun _=>#[])).get? a=some (seqObj "list" #[] e1):=⟨_,get?_update_seq ho fun _=>#[]⟩
  refine wpAny_bind (seqEpoch_at ho1 rfl (wpAny_bind (wpAny_newTuple (wpAny_bind (wpAny_newList (wpAny_holding ?_))))))
  have ho6:(((s.heap.update a (Obj.mapSeq fun _=>#[])).push (seqObj "tuple" vs.toArray 0)).push (seqObj "list" #[] 0)).get? a=some (seqObj "list" #[] e1):=Heap.get?_push_of_some _ (Heap.get?_push_of_some _ ho1)
  have hz:vs.toArray.size < 2:=by simpa using h2
  simp only[if_pos hz]
  refine wpAny_bind (wpAny_pure ?_)
  rw[StateT.run_pure]
  refine wpAny_bind (wpAny_pure ?_)
  dsimp only
  have em:Array.map (fun x=>x.snd) (arrOf (SortSt.mk' general' (vs.toArray.zip vs.toArray) #[] 7 none))=vs.toArray:=by
    show Array.map (fun x=>x.snd) (vs.toArray.zip vs.toArray)=vs.toArray
    apply Array.ext'
    simp[List.map_snd_zip]
  have ez:(Array.map (fun x=>x.snd) (arrOf (SortSt.mk' general' (vs.toArray.zip vs.toArray) #[] 7 none))).size≤sizeLine+1:=by
    rw[em]
    have:vs.toArray.size=vs.length:=by simp
    rw[this]
    exact Nat.le_trans (Nat.le_of_lt h2) (by decide)
  refine wpAny_bind (seqEpoch_at ho6 rfl (wpAny_bind (listUpdate_at ho6 rfl ?_ (hsz2:=ez))))
  have h':Q .none { s with heap:=sortedHeap s.heap a vs (Array.map (fun x=>x.snd) (arrOf (SortSt.mk' general' (vs.toArray.zip vs.toArray) #[] 7 none))) }:=by rw[em];exact h
  rw[if_neg (by simp)]
  exact wpAny_pure ⟨_,rfl,h'⟩
noncomputable def sLt (x y:Str):Bool:=decide (x.cps.toList < y.cps.toList)
theorem sLt_irr (x:Str):sLt x x=false:=decide_eq_false (List.lt_irrefl _)
theorem sLt_trans {x y z:Str} (h:sLt x y=true) (g:sLt y z=true):sLt x z=true:=decide_eq_true (List.lt_trans (of_decide_eq_true h) (of_decide_eq_true g))
theorem sLt_asym {x y:Str} (h:sLt x y=true):sLt y x=false:=decide_eq_false (List.lt_asymm (of_decide_eq_true h))
theorem sLt_tot {x y:Str} (h:x≠y):sLt x y=true∨sLt y x=true:=by
  rcases Std.lt_trichotomy x.cps.toList y.cps.toList with z | z | z
  · exact .inl (decide_eq_true z)
  · exact absurd (str_ext z) h
  · exact .inr (decide_eq_true z)
noncomputable def lexT:List Str→List Str→Bool
  | [],[]=>false
  | [],_ :: _=>true
  | _ :: _,[]=>false
  | x :: xs,y :: ys=>if x=y then lexT xs ys else sLt x y
theorem Zg8:∀ {a b c:List Str},lexT a b=true→lexT b c=true→lexT a c=true
  | [],[],c,h,_=>by cases h
  | [],_ :: _,[],_,g=>by cases g
  | [],_ :: _,_ :: _,_,_=>rfl
  | _ :: _,[],c,h,_=>by cases h
  | _ :: _,_ :: _,[],_,g=>by cases g
  | x :: a,y :: b,z :: c,h,g=>by
    unfold lexT at h g ⊢
    by_cases e1:x=y
    · subst e1
      rw[if_pos rfl] at h
      by_cases e2:x=z
      · rw[if_pos e2] at g ⊢
        exact Zg8 h g
      · rw[if_neg e2] at g ⊢
        exact g
    · rw[if_neg e1] at h
      by_cases e2:y=z
      · subst e2
        rw[if_neg e1];exact h
      · rw[if_neg e2] at g
        have hz:=sLt_trans h g
        have e3:x≠z:=fun q=>by rw[q,sLt_irr] at hz;cases hz
        rw[if_neg e3];exact hz
theorem lexT_asym:∀ {a b:List Str},lexT a b=true→lexT b a=false
  | [],[],h=>by cases h
  | [],_ :: _,_=>rfl
  | _ :: _,[],h=>by cases h
  | x :: a,y :: b,h=>by
    unfold lexT at h ⊢
    by_cases e1:x=y
    · rw[if_pos e1] at h
      rw[if_pos e1.symm]
      exact lexT_asym h
    · rw[if_neg e1] at h
      rw[if_neg fun z=>e1 z.symm]
      exact sLt_asym h
theorem lexT_tot:∀ {a b:List Str},a≠b→lexT a b=true∨lexT b a=true
  | [],[],h=>absurd rfl h
  | [],_ :: _,_=>.inl rfl
  | _ :: _,[],_=>.inr rfl
  | x :: a,y :: b,h=>by
    unfold lexT
    by_cases e1:x=y
    · rw[if_pos e1,if_pos e1.symm]
      exact lexT_tot fun z=>h (by rw[e1,z])
    · rw[if_neg e1,if_neg fun z=>e1 z.symm]
      exact sLt_tot e1
noncomputable def lexF (fin:Bool):List Str→List Str→Bool
  | x :: xs,y :: ys=>if x=y then lexF fin xs ys else sLt x y
  | _,_=>fin
theorem lexF_lexT:∀ (a b:List Str),lexF (decide (a.length < b.length)) a b=lexT a b
  | [],[]=>rfl
  | [],_ :: _=>by simp[lexF,lexT]
  | _ :: _,[]=>by simp[lexF,lexT]
  | x :: a,y :: b=>by
    unfold lexF lexT
    rw[← lexF_lexT a b]
    have:decide ((x :: a).length < (y :: b).length)=decide (a.length < b.length):=by simp
    rw[this]
section
variable {X:Cx}
theorem objOk_has {P:Program} {w:World} {H:Hp} {h:Heap} {a:Addr} {o:HO} (x:ObjOk P w H h a o):∃ ob,h.get? a=some ob:=by
  cases o with
  | lst xs=>obtain⟨_,_,_,_,e⟩:=x;exact⟨_,e⟩
  | tup xs=>obtain⟨_,_,_,p,e,_⟩:=x;exact⟨_,e⟩
  | dK kvs=>obtain⟨_,_,_,_,o,_,_,e,_⟩:=x;exact⟨_,e⟩
  | dT kvs=>obtain⟨_,_,_,_,o,_,_,e,_⟩:=x;exact⟨_,e⟩
  | set S n=>obtain⟨o,_,_,_,e,_⟩:=x;exact⟨_,e⟩
  | ins C dx fs=>obtain⟨_,_,_,e,_⟩:=x;exact⟨_,e⟩
  | own y=>obtain⟨_,e⟩:=x;exact⟨_,e⟩
  | xd fs=>obtain⟨_,⟨_,_,_,e,_⟩,_⟩:=x;exact⟨_,e⟩
  | rng lo hi=>obtain⟨_,_,_,e⟩:=x;exact⟨_,e⟩
  | frz ob u=>obtain⟨e,_⟩:=x;exact⟨_,e⟩
  | tbl ps=>exact⟨_,show h.get? a=some _ from x⟩
  | met f y=>exact⟨_,show h.get? a=some _ from x⟩
  | ext φ=>obtain⟨_,⟨_,e⟩,_⟩:=x;exact⟨_,e⟩
theorem perm_map {α:Type} {l:List α} {d:α} {p:Array Nat} (h:p.Perm (List.range l.length).toArray):List.Perm (p.toList.map fun i=>l.getD i d) l:=by
  have h1:p.toList.Perm (List.range l.length):=by simpa using (Array.perm_iff_toList_perm.mp h)
  have h2:=h1.map fun i=>l.getD i d
  have h3:(List.range l.length).map (fun i=>l.getD i d)=l:=by
    apply List.ext_getElem?
    intro j
    rw[List.getElem?_map]
    by_cases hj:j < l.length
    · rw[List.getElem?_range hj];simp[hj]
    · rw[List.getElem?_eq_none (by simpa using hj),List.getElem?_eq_none (by omega)];rfl
  rw[h3] at h2
  exact h2
theorem paired_pick {α β:Type} {F:α→β→Prop} {l:List α} {m:List β} {da:α} {db:β} (h:Paired F l m):∀ {is:List Nat},(∀ i∈is,i < l.length)→Paired F (is.map fun i=>l.getD i da) (is.map fun i=>m.getD i db)
  | [],_=>.nil
  | i :: is,hs=>by
    refine .cons ?_ (paired_pick h fun j hj=>hs j (List.mem_cons_of_mem _ hj))
    have hi:=hs i List.mem_cons_self
    obtain⟨y,e,q⟩:=Ken.paired_get h (List.getElem?_eq_getElem hi)
    have e1:l.getD i da=l[i]:=by simp[hi]
    have e2:m.getD i db=y:=by simp[e]
    show F (l.getD i da) (m.getD i db)
    rw[e1,e2];exact q
theorem inv_new {pins:List (Addr×Obj)} {σ:St} {H:Hp} {s:Shared} {h2:Heap} {D:Addr} {o0:HO} {tk:Nat} {m:Str→Option Value} (I:Inv X pins σ H s) (hm:s.heap.Ns X.env.locals m) (hk:∀ b o,b≠X.env.locals→s.heap.get? b=some o→h2.get? b=some o) (hn:h2.Ns X.env.locals m) (hD:s.heap.get? D=none)
    (hob:ObjOk X.prog X.w (upd H D o0) h2 D o0):Inv X pins σ (upd H D o0) { s with heap:=h2,toks:=tk }∧H D=none:=by
  have hH:H D=none:=by
    cases e:H D with
    | none=>rfl
    | some ob =>
      obtain⟨o,ho⟩:∃ o,s.heap.get? D=some o:=objOk_has (I.hok D ob e)
      rw[hD] at ho;cases ho
  have ne:∀ b o,s.heap.get? b=some o→b≠D:=fun b o e z=>by subst z;rw[hD] at e;cases e
  have neH:∀ b u,H b=some u→b≠D:=fun b u e=>Zb1 e hH
  refine⟨?_,hH⟩
  refine I.step (g':=s.gens) (d':=s.drawn) (t':=tk) (ch:=[]) (fun _ z=>nomatch z) (fun b o hL _ _ e _=>hk b o hL e) (fun b o hL _ _ e _=>⟨o.slots,hk b o hL e⟩) (fun b o _ e n=>by rw[Zc8 (ne b o e)];exact n) (fun b o _ e=>?_)
    (fun b xs q=>by rw[Zc8 (neH _ _ q)];exact q) (fun b o u q=>by rw[Zc8 (neH _ _ q)];exact q) (fun b ps q=>⟨#[],by rw[Zc8 (neH _ _ q),q];simp⟩) (fun m' hm'=>?_) (fun b ob e=>?_) I.bare
  · by_cases hb:b=X.env.locals
    · subst hb
      obtain⟨o',es,ep,q,_⟩:=hn
      exact⟨o',q⟩
    · exact⟨o,hk b o hb e⟩
  · rw[hm'.eq_nsMap,← hm.eq_nsMap];exact hn
  · by_cases hb:b=D
    · subst hb
      rw[Za2] at e
      cases e
      exact hob
    · rw[Zc8 hb] at e
      refine (I.hok b ob e).stay (fun c v hcv q=>hk c v ?_ q) (fun c q=>by rw[Zc8 (neH _ _ q)];exact q) fun c xs q=>by rw[Zc8 (neH _ _ q)];exact q
      rcases hcv with rfl | hcv
      · exact Zb1 e I.free
      · exact Zb1 hcv I.free
end
end L2
namespace L2
open PySem PySem.Spec PyProof.Rows
theorem comp_list {K:PySem.W.Frag} {a:Addr} {xs:List V} {σ0:St} {g:TG} {tk:TK} {Q:Hp→Prop} {H:Hp} (Pv:Nat→Hp→Prop) (h0:Pv 0 H) (hl:∀ i H,i≤xs.length→Pv i H→SqL K H a xs)
    (hs:∀ i x H (N:Hp→Prop),xs[i]?=some x→Pv i H→(∀ H',Pv (i+1) H'→N H')→g x σ0 H fun σ4 H4=>Wk σ0 σ4∧tk σ4 H4 N) (hd:∀ H,Pv xs.length H→Q H) :
    ∃ W:Nat→Nat→Hp→Prop,(∃ m,W 0 m H)∧compW σ0 (Itl K a) g tk Q W:=by
  refine⟨fun i m H=>m=xs.length - i∧i≤xs.length∧Pv i H,⟨xs.length,by simp,Nat.zero_le _,h0⟩,?_⟩
  rintro i m H ⟨rfl,hi,p⟩
  have q:=hl i H hi p
  by_cases hlt:i < xs.length
  · refine .inr ⟨⟨xs,xs[i],q,by simp[hlt]⟩,fun x H' y=>?_⟩
    obtain⟨e,y⟩:=y
    subst e
    exact hs i x H' _ (y xs q) p fun H5 p5=>⟨xs.length - (i+1),by omega,rfl,hlt,p5⟩
  · have e:i=xs.length:=by omega
    subst e
    exact .inl ⟨⟨xs,q,Nat.le_refl _⟩,hd _ p⟩
end L2
namespace Ken
open PySem L2
noncomputable def Tm.pre:Tm→List Tm
  | .low=>[.low]
  | .ltr w=>[.ltr w]
  | .nd k a b=>.nd k a b :: (a.pre++b.pre)
noncomputable def Tm.own:Tm→List Str
  | .low=>["low"]
  | .ltr w=>["letter",w]
  | .nd k _ _=>[k.str]
noncomputable def Tm.spell (t:Tm):List Str:=t.pre.flatMap Tm.own
theorem Zc7 (k:Kd) (a b:Tm):(Tm.nd k a b).spell=k.str :: (a.spell++b.spell):=by
  show (Tm.nd k a b :: (a.pre++b.pre)).flatMap Tm.own=_
  rw[List.flatMap_cons,List.flatMap_append];rfl
theorem spell_pre:∀ {s t:Tm} {l m:List Str},s.spell++l=t.spell++m→s=t∧l=m
  | .low,.low,l,m,h=>⟨rfl,by have:=List.cons.inj (show ("low":Str) :: l=("low":Str) :: m from h);exact this.2⟩
  | .low,.ltr w,l,m,h=>absurd (List.cons.inj (show ("low":Str) :: l=("letter":Str) :: (w :: m) from h)).1 (by decide)
  | .low,.nd k a b,l,m,h=>by
    rw[Zc7] at h
    exact absurd (List.cons.inj (show ("low":Str) :: l=k.str :: ((a.spell++b.spell)++m) from h)).1 (by cases k<;>decide)
  | .ltr w,.low,l,m,h=>absurd (List.cons.inj (show ("letter":Str) :: (w :: l)=("low":Str) :: m from h)).1 (by decide)
  | .ltr w,.ltr v,l,m,h=>by
    have h1:=(List.cons.inj (show ("letter":Str) :: (w :: l)=("letter":Str) :: (v :: m) from h)).2
    obtain⟨e1,e2⟩:=List.cons.inj h1
    exact⟨by rw[e1],e2⟩
  | .ltr w,.nd k a b,l,m,h=>by
    rw[Zc7] at h
    exact absurd (List.cons.inj (show ("letter":Str) :: (w :: l)=k.str :: ((a.spell++b.spell)++m) from h)).1 (by cases k<;>decide)
  | .nd k a b,.low,l,m,h=>by
    rw[Zc7] at h
    exact absurd (List.cons.inj (show k.str :: ((a.spell++b.spell)++l)=("low":Str) :: m from h)).1 (by cases k<;>decide)
  | .nd k a b,.ltr w,l,m,h=>by
    rw[Zc7] at h
    exact absurd (List.cons.inj (show k.str :: ((a.spell++b.spell)++l)=("letter":Str) :: (w :: m) from h)).1 (by cases k<;>decide)
  | .nd k a b,.nd k' c d,l,m,h=>by
    rw[Zc7,Zc7] at h
    obtain⟨e1,e2⟩:=List.cons.inj (show k.str :: ((a.spell++b.spell)++l)=k'.str :: ((c.spell++d.spell)++m) from h)
    rw[List.append_assoc,List.append_assoc] at e2
    obtain⟨f1,f2⟩:=spell_pre e2
    obtain⟨g1,g2⟩:=spell_pre f2
    exact⟨by rw[Kd.str_inj e1,f1,g1],g2⟩
theorem spell_inj {s t:Tm} (h:s.spell=t.spell):s=t:=(spell_pre (l:=[]) (m:=[]) (by rw[h])).1
theorem Za6 {K:PySem.W.Frag} {H H':Hp} (k:KeepT K H H') {us:List V} {ts:List Tm} (h:Paired (IsT K H) us ts):Paired (IsT K H') us ts:=Paired.mapP h fun _ _ z=>z.keep k
end Ken
namespace L2
open PySem PySem.Spec PyProof.Rows
noncomputable def ExcO (e:Addr) (C:Value) (dd T:Option Addr):HO:=.ext fun h=>∃ vs sl,h.get? e=some ⟨C,dd,.fields vs,sl⟩∧vs.size=6∧vs[1]?=some (T.elim Value.none Value.ref)
noncomputable def TbO (t:Addr) (fl:Value):HO:=.ext fun h=>∃ c d ts sl,h.get? t=some ⟨c,d,.fields ts,sl⟩∧ts[3]?=some fl
section
variable {P:Program} {w:World} {H:Hp} {h:Heap} {e t:Addr} {C fl:Value} {dd T:Option Addr}
theorem exc_get (hok:HOk P w H h) (q:H e=some (ExcO e C dd T)):∃ vs sl,h.get? e=some ⟨C,dd,.fields vs,sl⟩∧vs.size=6∧vs[1]?=some (T.elim Value.none Value.ref):=(hok e _ q).1
theorem exc_mk (z:∃ vs sl,h.get? e=some ⟨C,dd,.fields vs,sl⟩∧vs.size=6∧vs[1]?=some (T.elim Value.none Value.ref)):ObjOk P w H h e (ExcO e C dd T) :=
  ⟨z,let ⟨_,_,q,_⟩:=z;⟨_,q⟩,fun _ _ ⟨vs,sl,a,b⟩ k=>⟨vs,sl,k _ a,b⟩⟩
theorem tb_get (hok:HOk P w H h) (q:H t=some (TbO t fl)):∃ c d ts sl,h.get? t=some ⟨c,d,.fields ts,sl⟩∧ts[3]?=some fl:=(hok t _ q).1
theorem tb_mk (z:∃ c d ts sl,h.get? t=some ⟨c,d,.fields ts,sl⟩∧ts[3]?=some fl):ObjOk P w H h t (TbO t fl) :=
  ⟨z,let ⟨_,_,_,_,q,_⟩:=z;⟨_,q⟩,fun _ _ ⟨c,d,ts,sl,a,b⟩ k=>⟨c,d,ts,sl,k _ a,b⟩⟩
end
noncomputable def FlyAt (fl:Value) (H:Hp) (e:Addr) (C:Value) (dd T:Option Addr):Prop:=H e=some (ExcO e C dd T)∧∀ t,T=some t→t≠e∧H t=some (TbO t fl)
noncomputable abbrev FlyT:=FlyAt .none
noncomputable def XStep (e:Addr) (T:Option Addr) (H:Hp) (T':Option Addr) (H':Hp):Prop :=
  (∀ b o,H b=some o→b≠e→T≠some b→H' b=some o)∧∀ t,T'=some t→t≠e∧(T=some t∨H t=none)
theorem XStep.refl {e:Addr} {T:Option Addr} {H:Hp} (h:∀ t,T=some t→t≠e):XStep e T H T H:=⟨fun _ _ q _ _=>q,fun t q=>⟨h t q,.inl q⟩⟩
theorem XStep.trans {e:Addr} {T T' T'':Option Addr} {H H' H'':Hp} (a:XStep e T H T' H') (b:XStep e T' H' T'' H''):XStep e T H T'' H'':=by
  refine⟨fun c o q n1 n2=>b.1 c o (a.1 c o q n1 n2) n1 fun z=>?_,fun t q=>⟨(b.2 t q).1,?_⟩⟩
  · rcases (a.2 c z).2 with y | y
    · exact n2 y
    · rw[q] at y;cases y
  · rcases (b.2 t q).2 with z | z
    · exact (a.2 t z).2
    · by_cases hT:T=some t
      · exact .inl hT
      · cases e1:H t with
        | none=>exact .inr rfl
        | some o=>rw[a.1 t o e1 (b.2 t q).1 hT] at z;cases z
section
variable {X:Cx} {pins:List (Addr×Obj)} {σ:St} {H:Hp} {s:Shared} {M:Model} {A:Around} {E:Value→Shared→Prop} {e L:Addr} {C:Value} {dd T:Option Addr}
theorem Inv.noted {s':Shared} {t:Addr} {fl:Value} (I:Inv X pins σ H s) (F:FlyT H e C dd T) (hos:s'.os=s.os) (hg:s'.gens=s.gens)
    (hn:s.heap.objs.size≤t)
    (keep:∀ b o,s.heap.get? b=some o→b ∉ frs X.stack→b≠e→T≠some b→s'.heap.get? b=some o)
    (slot:∀ b o,s.heap.get? b=some o→b∈frs X.stack→∃ sl,s'.heap.get? b=some { o with slots:=sl })
    (old:∀ b,T=some b→∃ c d ts sl,s'.heap.get? b=some ⟨c,d,.fields ts,sl⟩∧ts[3]?=some Value.none)
    (exc:∃ vs sl,s'.heap.get? e=some ⟨C,dd,.fields vs,sl⟩∧vs.size=6∧vs[1]?=some (Value.ref t))
    (tb:∃ c d ts sl,s'.heap.get? t=some ⟨c,d,.fields ts,sl⟩∧ts[3]?=some fl) :
    Inv X pins σ (upd (upd H t (TbO t fl)) e (ExcO e C dd (some t))) s':=by
  have hnt:H t=none:=I.hok.fresh hn
  have het:e≠t:=Zb1 F.1 hnt
  have hfe:e ∉ frs X.stack:=fun z=>by have:=I.stkFree e z;rw[F.1] at this;cases this
  have nx:∀ b o,H b=some o→(∀ φ,o≠.ext φ)→b≠e∧b≠t∧T≠some b:=fun b o q n=>by
    refine⟨fun z=>?_,Zb1 q hnt,fun z=>?_⟩
    · subst z;rw[F.1] at q;cases q;exact n _ rfl
    · have:=(F.2 b z).2;rw[q] at this;cases this;exact n _ rfl
  have up:∀ b o,H b=some o→b≠e→upd (upd H t (TbO t fl)) e (ExcO e C dd (some t)) b=some o:=fun b o q n=>by
    rw[Zc8 n,Zc8 (Zb1 q hnt)];exact q
  have upn:∀ b,H b=none→b≠t→upd (upd H t (TbO t fl)) e (ExcO e C dd (some t)) b=none:=fun b q n=>by
    rw[Zc8 (Zb1 F.1 q).symm,Zc8 n];exact q
  refine I.call' (ch:=[]) hos ⟨fun b o q n hb _=>?_,fun b o q n hb _=>slot b o q hb,fun b o q n _=>upn b n (Nat.ne_of_lt (Nat.lt_of_lt_of_le (Heap.lt_size q) hn)),fun b o q _=>?_,fun b xs q=>up b _ q (nx b _ q fun φ z=>nomatch z).1,fun b o u q=>up b _ q (nx b _ q fun φ z=>nomatch z).1,
    fun b ps q=>⟨#[],by rw[up b _ q (nx b _ q fun φ z=>nomatch z).1];simp⟩⟩ (fun b o q=>?_) (by rw[hg];exact I.bare) (fun b z=>nomatch z)
  · exact keep b o q hb (Zb1 F.1 n).symm fun z=>by have:=(F.2 b z).2;rw[n] at this;cases this
  · by_cases hb:b∈frs X.stack
    · obtain⟨sl,z⟩:=slot b o q hb;exact⟨_,z⟩
    · by_cases he:b=e
      · subst he;obtain⟨_,_,z,_⟩:=exc;exact⟨_,z⟩
      · by_cases hT:T=some b
        · obtain⟨_,_,_,_,z,_⟩:=old b hT;exact⟨_,z⟩
        · exact⟨o,keep b o q hb he hT⟩
  · by_cases he:b=e
    · subst he;rw[Za2] at q;cases q;exact exc_mk exc
    · rw[Zc8 he] at q
      by_cases ht:b=t
      · subst ht;rw[Za2] at q;cases q;exact tb_mk tb
      · rw[Zc8 ht] at q
        by_cases hT:T=some b
        · have q2:=(F.2 b hT).2
          rw[q] at q2;cases q2
          exact tb_mk (old b hT)
        · refine (I.hok b o q).stay (fun c u hc z=>keep c u z ?_ ?_ ?_) (fun c z=>up c _ z (nx c _ z fun φ y=>nomatch y).1) fun c xs z=>up c _ z (nx c _ z fun φ y=>nomatch y).1
          · intro y
            have y2:=I.stkFree c y
            rcases hc with hc | hc
            · subst hc;rw[q] at y2;cases y2
            · rw[hc] at y2;cases y2
          · rcases hc with hc | hc
            · rw[hc];exact he
            · exact (nx c _ hc fun φ y=>nomatch y).1
          · rcases hc with hc | hc
            · rw[hc];exact hT
            · exact (nx c _ hc fun φ y=>nomatch y).2.2
theorem entry_ok {head:Value} {hadNext:Bool} {Q:Unit→Shared→Prop} (I:Inv X pins σ H s) (F:FlyT H e C dd T) (hA:A.frames=some X.stack) (hst:X.stack=X.env :: X.outer) (hf:X.env.frame=some L)
    (h:∀ s' t,H t=none→Inv X pins σ (upd (upd H t (TbO t (rawInt L))) e (ExcO e C dd (some t))) s'→Q () s') :
    wpAny M A (do let a ← frameOf X.env;let pl ← entryPlaceOf L hadNext;let b ← EntryCells.newEntry head a .none (rawInt L) .none pl;setField (.ref e) 1 b) Q E s:=by
  obtain⟨vs,sl,he,hz,h1⟩:=exc_get I.hok F.1
  have hfe:e ∉ frs X.stack:=fun z=>by have:=I.stkFree e z;rw[F.1] at this;cases this
  have FF:=I.stack
  rw[hst] at FF hA
  refine wpAny_bind (wpAny_frameOf_fun hA FF hf fun h₁ hs₁=>?_)
  refine wpAny_bind (wpAny_entryPlaceOf fun pl hpl=>?_)
  unfold EntryCells.newEntry newFields
  refine wpAny_bind (wpAny_newObj_type ?_ (hpl.sizeOk5 _ _ _ _ _))
  have hs2:∀ b,b ∉ frs X.stack→h₁.get? b=s.heap.get? b:=fun b hb=>hs₁.2.1 b (by rw[hst] at hb;exact hb)
  have he₁:h₁.get? e=some ⟨C,dd,.fields vs,sl⟩:=(hs2 e hfe).trans he
  have he₂:=Heap.get?_push_of_some (h:=h₁) { cls:=.type "traceback",dict:=none,data:=.fields ([head,.ref L,.none,rawInt L,.none]++(if pl.isEmpty then List.replicate 6 Value.none else pl)).toArray } he₁
  refine wpAny_setField he₂ rfl (by rw[hz];decide) ?_
  have hTe:h₁.objs.size≠e:=Nat.ne_of_gt (Heap.lt_size he₁)
  have hsz:s.heap.objs.size≤h₁.objs.size:=Nat.le_of_eq hs₁.1.symm
  refine h _ h₁.objs.size (I.hok.fresh hsz) (Inv.noted I F rfl rfl hsz (fun b o q hb hbe hT=>?_) (fun b o q hb=>?_) (fun b hT=>?_) ?_ ?_)
  · show (Heap.update _ e _).get? b=some o
    rw[Heap.get?_update_other _ _ (Ne.symm hbe)]
    exact Heap.get?_push_of_some _ ((hs2 b hb).trans q)
  · obtain⟨sl',z⟩:=hs₁.2.2 b o q
    refine⟨sl',?_⟩
    show (Heap.update _ e _).get? b=_
    rw[Heap.get?_update_other _ _ (fun y=>hfe (by rw[y];exact hb))]
    exact Heap.get?_push_of_some _ z
  · obtain⟨c,d,ts,sl',z,z3⟩:=tb_get I.hok (F.2 b hT).2
    have hb:b ∉ frs X.stack:=fun y=>by have:=I.stkFree b y;rw[(F.2 b hT).2] at this;cases this
    refine⟨c,d,ts,sl',?_,z3⟩
    show (Heap.update _ e _).get? b=_
    rw[Heap.get?_update_other _ _ (Ne.symm (F.2 b hT).1)]
    exact Heap.get?_push_of_some _ ((hs2 b hb).trans z)
  · refine⟨vs.setIfInBounds 1 (.ref h₁.objs.size),sl,?_,by simp[hz],by simp[hz]⟩
    show (Heap.update _ e _).get? e=_
    rw[Heap.get?_update_self _ he₂ rfl]
    rfl
  · exact⟨_,_,_,_,(Heap.get?_update_other _ _ (Ne.symm hTe)).trans (Heap.get?_push_size h₁ rfl),by simp⟩
theorem note_ok {Q:Unit→Shared→Prop} (I:Inv X pins σ H s) (F:FlyT H e C dd T) (hA:A.frames=some X.stack) (hst:X.stack=X.env :: X.outer) (hf:X.env.frame=some L)
    (h:∀ s' H' t,Inv X pins σ H' s'→FlyAt (rawInt L) H' e C dd (some t)→XStep e T H (some t) H'→Q () s'):wpAny M A (noteFrame (.ref e) X.env) Q E s:=by
  obtain⟨vs,sl,he,hz,h1⟩:=exc_get I.hok F.1
  have fin:∀ s' t,H t=none→Inv X pins σ (upd (upd H t (TbO t (rawInt L))) e (ExcO e C dd (some t))) s'→Q () s':=fun s' t hn J=>by
    have het:e≠t:=Zb1 F.1 hn
    refine h s' _ t J ⟨Za2,fun u q=>?_⟩ ⟨fun b o q n1 n2=>?_,fun u q=>?_⟩
    · cases q;exact⟨het.symm,by rw[Zc8 het.symm,Za2]⟩
    · rw[Zc8 n1,Zc8 (Zb1 q hn)];exact q
    · cases q;exact⟨het.symm,.inr hn⟩
  unfold noteFrame
  simp only[hf]
  refine wpAny_bind (wpAny_field he rfl h1 ?_)
  cases hT:T with
  | none =>
    subst hT
    rw[if_neg (by decide)]
    exact entry_ok I F hA hst hf fin
  | some t =>
    subst hT
    obtain⟨hte,ht⟩:=F.2 t rfl
    obtain⟨c,d,ts,sl',z,z3⟩:=tb_get I.hok ht
    rw[if_pos (show ((Option.some t).elim Value.none Value.ref != Value.none)=true from by simp)]
    refine wpAny_bind (wpAny_field z rfl z3 ?_)
    rw[if_neg (by simp[rawInt])]
    refine wpAny_bind (wpAny_setField z rfl (Array.getElem?_eq_some_iff.mp z3).1 ?_)
    refine entry_ok (T:=some t) ?_ F hA hst hf fin
    have I2:=I.write (o:=TbO t .none) (h':=s.heap.update t (Obj.mapFields (·.setIfInBounds 3 .none))) (x:=t) (e:=t) (t':=s.toks) (by rw[ht];trivial) (.inl rfl) (fun b u n q=>by rw[Heap.get?_update_other _ _ (Ne.symm n)];exact q)
      ⟨_,Heap.get?_update_self _ z rfl⟩ (tb_mk ⟨c,d,ts.setIfInBounds 3 .none,sl',by rw[Heap.get?_update_self _ z rfl];rfl,by simp[(Array.getElem?_eq_some_iff.mp z3).1]⟩)
    have:upd H t (TbO t .none)=H:=by
      funext b
      by_cases hb:b=t
      · subst hb;rw[Za2,ht]
      · rw[Zc8 hb]
    rw[this] at I2
    exact I2
theorem land_ok {Q:Unit→Shared→Prop} {fl:Value} (I:Inv X pins σ H s) (F:FlyAt fl H e C dd T)
    (h:∀ s' H',Inv X pins σ H' s'→FlyT H' e C dd T→XStep e T H T H'→Q () s'):wpAny M A (setFlight (.ref e) none) Q E s:=by
  obtain⟨vs,sl,he,hz,h1⟩:=exc_get I.hok F.1
  unfold setFlight
  refine wpAny_bind (wpAny_field he rfl h1 ?_)
  cases hT:T with
  | none =>
    subst hT
    rw[if_neg (by decide)]
    exact wpAny_pure (h s H I ⟨F.1,fun t q=>nomatch q⟩ (XStep.refl fun t q=>nomatch q))
  | some t =>
    subst hT
    obtain⟨hte,ht⟩:=F.2 t rfl
    obtain⟨c,d,ts,sl',z,z3⟩:=tb_get I.hok ht
    rw[if_pos (show ((Option.some t).elim Value.none Value.ref != Value.none)=true from by simp)]
    refine wpAny_setField z rfl (Array.getElem?_eq_some_iff.mp z3).1 ?_
    have I2:=I.write (o:=TbO t .none) (h':=s.heap.update t (Obj.mapFields (·.setIfInBounds 3 .none))) (x:=t) (e:=t) (t':=s.toks) (by rw[ht];trivial) (.inl rfl) (fun b u n q=>by rw[Heap.get?_update_other _ _ (Ne.symm n)];exact q)
      ⟨_,Heap.get?_update_self _ z rfl⟩ (tb_mk ⟨c,d,ts.setIfInBounds 3 .none,sl',by rw[Heap.get?_update_self _ z rfl];rfl,by simp[(Array.getElem?_eq_some_iff.mp z3).1]⟩)
    refine h _ _ I2 ⟨by rw[Zc8 (Ne.symm hte)];exact F.1,fun u q=>?_⟩ ⟨fun b o q n1 n2=>?_,fun u q=>?_⟩
    · cases q;exact⟨hte,Za2⟩
    · rw[Zc8 (fun y=>n2 (by rw[y]))];exact q
    · cases q;exact⟨hte,.inl rfl⟩
end
noncomputable def CXe (P:Program) (w:World):CXT:=fun outer H s E e s'=>∃ ea C dd T H',e=.ref ea∧s'.os=s.os∧AllBare s'.gens∧Un (frs outer) [] H H' s.heap s'.heap∧HOk P w H' s'.heap∧FlyT H' ea C dd T ∧
  ∀ T'' H'',XStep ea T H' T'' H''→FlyT H'' ea C dd T''→E (.ref ea) dd H''
noncomputable def XOk (X:Cx) (E:XK):Prop:=∀ (pins:List (Addr×Obj)) (σ:St) (H:Hp) (s:Shared) (ea:Addr) (C:Value) (dd T:Option Addr),Inv X pins σ H s→FlyT H ea C dd T →
  (∀ T'' H'',XStep ea T H T'' H''→FlyT H'' ea C dd T''→E (.ref ea) dd H'')→X.xe (.ref ea) s
theorem leave_ok {X:Cx} {pins:List (Addr×Obj)} {σ:St} {H:Hp} {s:Shared} {M:Model} {A:Around} {E:Value→Shared→Prop} {e L:Addr} {C:Value} {dd T:Option Addr} {Q:Unit→Shared→Prop}
    (I:Inv X pins σ H s) (F:FlyT H e C dd T) (hA:A.frames=some X.stack) (hst:X.stack=X.env :: X.outer) (hf:X.env.frame=some L)
    (h:∀ s' H' T',Inv X pins σ H' s'→FlyT H' e C dd T'→XStep e T H T' H'→Q () s'):wpAny M A (leaving X.env (.ref e)) Q E s:=by
  unfold leaving
  exact wpAny_bind (note_ok I F hA hst hf fun s1 H1 t I1 F1 S1=>land_ok I1 F1 fun s2 H2 I2 F2 S2=>h s2 H2 _ I2 F2 (S1.trans S2))
theorem xok_cxOf {P:Program} {w:World} {K:PySem.W.Frag} {mg:Str→Option Value} {base:Heap} {N:List Str} {qual:Str} {scope:Scope} {f:Addr} {cd:Value} {A:Around} {outer:List Env} {s:Shared} {H:Hp} {E:XK} :
    XOk (cxOf (CXe P w) P w K mg base N qual scope f cd A outer s H E) E:=by
  intro pins σ H1 s1 ea C dd T I F h
  refine leave_ok (X:=cxOf (CXe P w) P w K mg base N qual scope f cd A outer s H E) (L:=s.heap.objs.size) I F I.ok.frames rfl rfl fun s2 H2 T' I2 F2 S2=>?_
  exact⟨ea,C,dd,T',H2,rfl,I2.os,I2.bare,I2.base,I2.hok,F2,fun T'' H'' S F=>h T'' H'' (S2.trans S) F⟩
end L2
namespace L2
open PySem PySem.Spec PyProof.Rows
noncomputable abbrev bmV:List Value:=[.type "ValueError",.type "Exception",.type "BaseException",.type "object"]
noncomputable def IsXC (h:Heap) (C:Addr) (bm:List Value) (mN:Str→Option Value):Prop:=∃ nm q N bs hdct sn sub ab col dd k0 k1 k2 k3 k5,h.get? C=some (excClassObj nm q C N bs bm hdct sn sub ab col dd k0 k1 k2 k3 k5 "ValueError.__new__")∧h.Ns N mN∧OwnTail h bmV bm
noncomputable def XCls (K:PySem.W.Frag) (C:Addr):Prop:=∀ h,K.In h→∃ bm mN,IsXC h C bm mN∧mN "__init__"=none
theorem IsXC.keeps {h h':Heap} {C:Addr} {bm:List Value} {mN:Str→Option Value} (x:IsXC h C bm mN) (k:∀ b o,h.get? b=some o→h'.get? b=some o):IsXC h' C bm mN :=
  let ⟨nm,q,N,bs,hdct,sn,sub,ab,col,dd,k0,k1,k2,k3,k5,a,b,c⟩:=x
  ⟨nm,q,N,bs,hdct,sn,sub,ab,col,dd,k0,k1,k2,k3,k5,k _ _ a,b.keeps k,c.keeps k⟩
section
variable {P:Program} {w:World} {H:Hp} {h h':Heap} {a:Addr} {o:HO}
theorem ObjOk.obj (x:ObjOk P w H h a o):∃ ob,h.get? a=some ob:=by
  cases o with
  | lst xs=>obtain⟨_,_,_,_,e⟩:=x;exact⟨_,e⟩
  | tup xs=>obtain⟨_,_,_,o,e,_⟩:=x;exact⟨_,e⟩
  | dK kvs=>obtain⟨_,_,_,_,o,_,_,e,_⟩:=x;exact⟨_,e⟩
  | dT kvs=>obtain⟨_,_,_,_,o,_,_,e,_⟩:=x;exact⟨_,e⟩
  | set S n=>obtain⟨o,_,_,_,e,_⟩:=x;exact⟨_,e⟩
  | ins C dx fs=>obtain⟨_,_,_,e,_⟩:=x;exact⟨_,e⟩
  | own y=>exact x
  | xd fs=>obtain⟨_,⟨_,_,_,e,_⟩,_⟩:=x;exact⟨_,e⟩
  | rng lo hi=>obtain⟨_,_,_,e⟩:=x;exact⟨_,e⟩
  | frz ob u=>obtain⟨e,_⟩:=x;exact⟨_,e⟩
  | tbl ps=>exact⟨_,x⟩
  | met f y=>exact⟨_,x⟩
  | ext φ=>exact x.2.1
theorem HOk.newAt (x:HOk P w H h) (n:h.get? a=none):H a=none:=by
  cases q:H a with
  | none=>rfl
  | some u =>
    obtain⟨ob,z⟩:=(x a u q).obj
    rw[n] at z
    cases z
theorem Inv.laidN {X:Cx} {pins:List (Addr×Obj)} {σ:St} {s:Shared} {t':Nat} (I:Inv X pins σ H s) (k:∀ b u,s.heap.get? b=some u→h'.get? b=some u) (hn:s.heap.get? a=none) (new:ObjOk X.prog X.w (upd H a o) h' a o) :
    Inv X pins σ (upd H a o) { s with heap:=h',toks:=t' }:=by
  have hH:=I.hok.newAt hn
  have nb:∀ b u,H b=some u→upd H a o b=some u:=fun b u q=>by rw[Zc8 (Zb1 q hH)];exact q
  refine I.un ⟨fun b u q _ _ _=>k b u q,fun b u q _ _ _=>⟨u.slots,k b u q⟩,fun b u q n _=>?_,fun b u q _=>⟨u,k b u q⟩,fun b xs q=>nb _ _ q,fun b u xs q=>nb _ _ q,fun b ps q=>⟨#[],by rw[nb _ _ q];simp⟩⟩ fun b u q=>?_
  · rw[Zc8 (fun z=>by subst z;rw[hn] at q;cases q)];exact n
  · by_cases hb:b=a
    · subst hb;rw[Za2] at q;cases q;exact new
    · rw[Zc8 hb] at q
      exact (I.hok b u q).stay (fun c v _ z=>k c v z) (fun c z=>nb _ _ z) fun c xs z=>nb _ _ z
end
theorem IsXC.base {h:Heap} {C:Addr} {bm:List Value} {mN:Str→Option Value} (x:IsXC h C bm mN):bm.contains (.type "BaseException")=true :=
  let ⟨_,_,_,_,_,_,_,_,_,_,_,_,_,_,_,_,_,c⟩:=x
  c.hasType rfl
theorem xcls_mk {K:PySem.W.Frag} {C N:Addr} {nm q:Str} {bs bm:List Value} {hdct:Bool} {sn:List Str} {sub:List Value} {ab:Bool} {col:Option Bool} {dd:Option Addr} {k0 k1 k2 k3 k5:Option Value}
    (l:K.lookup C=some (excClassObj nm q C N bs bm hdct sn sub ab col dd k0 k1 k2 k3 k5 "ValueError.__new__")) (t:PySem.W.tailIn K bmV bm=true) (n:PySem.W.nsOkIn K N=true) (i:PySem.W.nsIn K N "__init__"=some none):XCls K C:=fun h X =>
  ⟨bm,h.nsMap N,⟨nm,q,N,bs,hdct,sn,sub,ab,col,dd,k0,k1,k2,k3,k5,X _ _ l,.of_isNs (PySem.W.isNs_of_in X n),PySem.W.tail_of_in X t⟩,PySem.W.nsMap_none_of_in X n i⟩
noncomputable def Xtd (H:Hp) (e:Addr) (C:Value) (dd:Option Addr) (H':Hp):Prop:=H e=none∧Same H H'∧∃ T,FlyT H' e C dd T
theorem none_of_same {G H:Hp} {e:Addr} (s:Same G H) (x:H e=none):G e=none:=by
  cases q:G e with
  | none=>rfl
  | some o =>
    have:=s _ _ q
    rw[x] at this
    cases this
theorem Xtd.mono {G H H':Hp} {e:Addr} {C:Value} {dd:Option Addr} (s:Same G H) (x:Xtd H e C dd H'):Xtd G e C dd H':=⟨none_of_same s x.1,fun b o q=>x.2.1 b o (s b o q),x.2.2⟩
theorem Xtd.step {G H H':Hp} {e:Addr} {C:Value} {dd T T':Option Addr} (n:G e=none) (nt:∀ t,T=some t→G t=none) (s:Same G H) (S:XStep e T H T' H') (F:FlyT H' e C dd T'):Xtd G e C dd H' :=
  ⟨n,fun b o q=>S.1 b o (s b o q) (Zb1 q n) (fun z=>by rw[nt b z] at q;cases q),T',F⟩
noncomputable def tRaise (E:XK) (C:Addr) (t:TA):TS:=fun _ σ H=>t σ H fun vs H1=>vs.length≤sizeLine∧∀ e H',Xtd H1 e (.ref C) none H'→E (.ref e) none H'
section
variable {X:Cx} {E:XK} {x:Str} {C:Addr} {np cpos pos:Pos} {e:Expr} {es:List Expr} {t:TA}
theorem ps_raise (hx:XOk X E) (hc:X.calm=true) (hg:Gl X x) (hm:X.mg x=some (.ref C)) (hC:XCls X.K C) (ha:PA X (e :: es) t) (hdb:(x == ("__debug__":Str))=false:=by decide)
    (hs:starEach (e :: es) X.env=(false,eval e X.env) :: starEach es X.env:=by rfl) (hpl:(backTo cpos (starEach es X.env)).any (·.1)=false:=by rfl) :
    PS X (.Raise (some (.Call (.Name x np) (e :: es) [] cpos)) none pos) (tRaise E C t):=by
  intro pins s σ H D I h
  obtain⟨bm,mN,hI,hni⟩:=hC X.base I.ok.mod.kin
  obtain⟨nm,q,N,bs,hdct,sn,sub,ab,col,dd,k0,k1,k2,k3,k5,c1,c2,c3⟩:=id hI
  refine wpAny_Raise_call_subT F.excBase_ValueError (C:=C) (nm:=nm) (q:=q) (N:=N) (bs:=bs) (bm:=bm) (hdct:=hdct) (sn:=sn) (sub:=sub) (ab:=ab) (col:=col) (dd:=dd) (k0:=k0) (k1:=k1) (k2:=k2) (k3:=k3) (k5:=k5) (mN:=mN)
    hI.base (I.ok.hd hc) (by rw[hs];exact hpl) hni (ld_glob I hg hm ⟨rfl,?_⟩ hdb)
  rw[hs]
  refine PySem.Calls.evalArgs_plain ?_
  have ha':=ha cpos pins s σ H _ I h
  rw[hs] at ha'
  refine thn ha' fun us s1 ⟨vs,H1,I1,r,hl,q1⟩=>⟨rfl,by rw[← r.length];exact hl,I1.bk _ _ c1,c2.keeps I1.bk,c3.keeps I1.bk,fun h' ea m=>?_⟩
  obtain⟨t0,he,_,ht⟩:=m.there
  have J:=I1.laidN (o:=ExcO ea (.ref C) none none) (t':=s1.toks) m.keeps m.new (exc_mk ⟨_,_,he,rfl,rfl⟩)
  have hn:=I1.hok.newAt m.new
  refine hx pins σ _ _ ea (.ref C) none none J ⟨Za2,fun t q=>nomatch q⟩ fun T'' H'' S F=>q1 ea H'' ?_
  exact Xtd.step (T:=none) hn (fun t z=>nomatch z) (fun b o q=>by rw[Zc8 (Zb1 q hn)];exact q) S F
end
end L2
namespace L2
open PySem PySem.Spec PyProof.Rows
noncomputable abbrev Cx.hand (X:Cx) (ea:Addr):Cx:={ X with A:=X.A.mark (some (.ref ea)),calm:=false,xe:=fun _ _=>False }
section
variable {X:Cx} {pins:List (Addr×Obj)} {σ:St} {H:Hp} {s:Shared} {ea:Addr}
theorem Inv.hand (I:Inv X pins σ H s) (ea:Addr):Inv (X.hand ea) pins σ H s :=
  ⟨⟨I.ok.mod,I.ok.kind,I.ok.glob,I.ok.blt,I.ok.above,I.ok.inj,I.ok.has,I.ok.cab,(fun z=>nomatch z),I.ok.frames,I.ok.stk,I.ok.exf,I.ok.bs,I.ok.bsz,I.ok.noex,I.ok.exfs,I.ok.funs,I.ok.frf⟩,I.os,I.bare,I.base,I.loc,I.cell,I.free,I.freeC,I.pin,I.hok,I.len⟩
theorem Inv.unhand (hd:X.calm=true→X.A.handled=none) (I:Inv (X.hand ea) pins σ H s):Inv X pins σ H s :=
  ⟨⟨I.ok.mod,I.ok.kind,I.ok.glob,I.ok.blt,I.ok.above,I.ok.inj,I.ok.has,I.ok.cab,hd,I.ok.frames,I.ok.stk,I.ok.exf,I.ok.bs,I.ok.bsz,I.ok.noex,I.ok.exfs,I.ok.funs,I.ok.frf⟩,I.os,I.bare,I.base,I.loc,I.cell,I.free,I.freeC,I.pin,I.hok,I.len⟩
end
noncomputable def Fell (X:Cx) (pins:List (Addr×Obj)) (σ:St) (E:XK) (x:Value) (s':Shared):Prop:=∃ ea C dd T H',x=.ref ea∧Inv X pins σ H' s'∧FlyT H' ea C dd T∧∀ T'' H'',XStep ea T H' T'' H''→FlyT H'' ea C dd T''→E (.ref ea) dd H''
noncomputable def PX (X:Cx) (e:Expr) (t:XK→TE):Prop:=∀ (pins:List (Addr×Obj)) (s:Shared) (σ:St) (H:Hp) (Q:VK) (E:XK),Inv X pins σ H s→t E σ H Q→wpAny (model X.prog X.w) X.A (eval e X.env) (EP X pins σ Q) (Fell X pins σ E) s
section
variable {X:Cx} {k:Nat} {f:Addr} {fd:FuncData} {ps:List Str} {sp:Sp} {dvs:List V} {ds:List Value} {x:Str} {p pos:Pos} {e:Expr} {es:List Expr} {t:TA}
theorem px_call (F:FnOk X.prog X.w X.K X.mg X.base (CXe X.prog X.w) k f fd ps sp) (hr:Room k X.A) (hg:Gl X x) (hm:X.mg x=some (.ref f)) (hk:PySem.W.keepIn X.K (.ref f)=true) (hb:Binds X.K fd ps ds) (hd:Vals dvs ds)
    (ha:PA X.nox (e :: es) t) (hdb:(x == ("__debug__":Str))=false:=by decide) (he:starEach (e :: es) X.env=(false,eval e X.env) :: starEach es X.env:=by rfl) (hpl:(backTo pos (starEach es X.env)).any (·.1)=false:=by rfl) :
    PX X (.Call (.Name x p) (e :: es) [] pos) (fun E=>tCall sp dvs E t):=by
  intro pins s σ H Q E I h
  refine wpAny_Call_Name_kw (ld_glob I hg hm ?_ hdb)
  refine PySem.W.callWith_K (h₀:=X.base) I.ok.mod.kin hk (wpAny_mono (ha pos pins s σ H _ (I.wish _) h) (fun us s1 ⟨vs,H1,I1',r,q⟩=>⟨I1'.unwish.kIn,?_⟩) fun _ _ z=>False.elim z) he hpl
  have I1:=I1'.unwish
  have r2:Vals (vs++dvs) (us++ds):=r.append hd
  have hl:(us++ds).length=ps.length:=by rw[← r2.length];exact F.len _ _ _ _ q
  refine wpAny_call (codeAny_mono (F.run X.A X.stack s1 H1 ⟨us,[]⟩ (us++ds) (vs++dvs) Q E hr I1.env0 (hb s1 us I1.kIn hl) r2 q) fun r s' hq=>?_)
  cases r with
  | error e =>
    obtain⟨ea,C,dd,T,H',rfl,ho,hg,hu,hk,F,q⟩:=hq
    exact⟨ea,C,dd,T,H',rfl,I1.call' (ch:=[]) ho hu hk hg (fun b z=>nomatch z),F,q⟩
  | ok fl =>
    cases fl with
    | ret u=>exact I1.after hq
    | next=>exact False.elim hq
    | brk=>exact False.elim hq
    | cont=>exact False.elim hq
end
noncomputable def tHand (C:Addr) (ts:TS) (D:Ends) (σ:St):XK:=fun e dd H'=>∃ ea T,e=.ref ea∧FlyT H' ea (.ref C) dd T∧ts D σ H'
theorem fly_cls {P:Program} {w:World} {H:Hp} {h:Heap} {e:Addr} {C C':Value} {dd dd' T T':Option Addr} (hok:HOk P w H h) (a:FlyT H e C dd T) (b:FlyT H e C' dd' T'):C=C':=by
  obtain⟨_,_,z,_⟩:=exc_get hok a.1
  obtain⟨_,_,y,_⟩:=exc_get hok b.1
  rw[z] at y
  injection y with y
  injection y
section
variable {X:Cx} {pins:List (Addr×Obj)} {σ:St} {H:Hp} {s:Shared} {ea L C:Addr} {dd T:Option Addr} {D:Ends} {c n:Str} {cp hpos:Pos} {b₀:Stmt} {suite:List Stmt} {i:Nat} {ts:TS} {bm:List Value} {mN:Str→Option Value} {x:Value}
theorem caught_0 (hc:X.calm=true) (hst:X.stack=X.env :: X.outer) (hf:X.env.frame=some L) (hg:Gl X c) (hm:X.mg c=some (.ref C)) (hC:IsXC X.base C bm mN)
    (hs:∀ ea,PSs (X.hand ea) (b₀ :: suite) ts) (Fl:Fell X pins σ (tHand C ts D σ) x s) (hdb:(c == ("__debug__":Str))=false:=by decide) :
    wpAny (model X.prog X.w) X.A (noteFrame x X.env) (fun _ s₂=>wpAny (model X.prog X.w) X.A (setFlight x none) (fun _ s₃=>wpAny (model X.prog X.w) X.A (handleBy x X.env [.ExceptHandler (some (.Name c cp)) none (b₀ :: suite) hpos]) (SP X pins D) X.xe s₃) X.xe s₂) X.xe s:=by
  obtain⟨ea,C',dd,T,H',rfl,I,Fy,q⟩:=Fl
  have hd:=I.ok.hd
  refine note_ok I Fy I.ok.frames hst hf fun s1 H1 t1 I1 F1 S1=>land_ok I1 F1 fun s2 H2 I2 F2 S2=>?_
  refine wpAny_handleBy_cons (codeAny_handlers_test (ld_glob (X:=X.hand ea) (I2.hand ea) hg hm ?_ hdb)) (fun z=>nomatch z)
  obtain⟨ea',T',e1,F3,q3⟩:=q _ H2 (S1.trans S2) F2
  cases e1
  obtain rfl:C'=Value.ref C:=fly_cls I2.hok F2 F3
  obtain⟨nm,qn,N,bs,hdct,sn,sub,ab,col,dd',k0,k1,k2,k3,k5,c1,c2,c3⟩:=(hC.keeps I2.bk)
  obtain⟨vs,sl,he,_⟩:=exc_get I2.hok F2.1
  obtain⟨hh,g,d,tk,os⟩:=s2
  refine wpAny_excMatches_sub_self c1 he rfl hC.base (codeAny_handlers_suite ?_)
  refine land_ok (I2.hand ea) F2 fun s3 H3 I3 F3' S3=>?_
  obtain⟨ea',T',e1,F3,q3⟩:=q _ H3 ((S1.trans S2).trans S3) F3'
  cases e1
  refine wpAny_mono (hs ea pins s3 _ H3 _ I3 q3) (fun f s5 h5=>?_) fun _ _ z=>False.elim z
  cases f with
  | next=>obtain⟨σ',H5,J,q5⟩:=h5;exact⟨_,_,J.unhand hd,q5⟩
  | brk=>obtain⟨σ',H5,J,q5⟩:=h5;exact⟨_,_,J.unhand hd,q5⟩
  | cont=>obtain⟨σ',H5,J,q5⟩:=h5;exact⟨_,_,J.unhand hd,q5⟩
  | ret u=>obtain⟨v,σ',H5,J,r,q5⟩:=h5;exact⟨v,_,_,J.unhand hd,r,q5⟩
end
end L2
namespace L2
open PySem PySem.Spec PyProof.Rows
noncomputable def tTryR (te:XK→TE) (C:Addr) (ts:TS):TS:=fun D σ H=>te (tHand C ts D σ) σ H D.rt
noncomputable def XC (K:PySem.W.Frag) (C:Addr):Prop:=∀ h,K.In h→∃ bm mN,IsXC h C bm mN
theorem XCls.xc {K:PySem.W.Frag} {C:Addr} (x:XCls K C):XC K C:=fun h X=>let ⟨bm,mN,a,_⟩:=x h X;⟨bm,mN,a⟩
section
variable {X:Cx} {C:Addr} {c n x:Str} {cp hpos pos apos xp:Pos} {b₀:Stmt} {suite:List Stmt} {i j:Nat} {ts:TS} {e:Expr} {te:XK→TE} {L:Addr}
theorem ps_tryR (hc:X.calm=true) (hst:X.stack=X.env :: X.outer) (hf:X.env.frame=some X.env.locals) (hg:Gl X c) (hm:X.mg c=some (.ref C)) (hC:XC X.K C)
    (he:PX X e te) (hs:∀ ea,PSs (X.hand ea) (b₀ :: suite) ts) (hdb:(c == ("__debug__":Str))=false:=by decide) :
    PS X (.Try [.Return (some e) apos] [.ExceptHandler (some (.Name c cp)) none (b₀ :: suite) hpos] [] [] pos) (tTryR te C ts):=by
  intro pins s σ H D I h
  obtain⟨bm,mN,hI⟩:=hC X.base I.ok.mod.kin
  exact wpAny_Try_except (wpAny_execs_cons (wpAny_Return_some (wpAny_mono (he pins s σ H _ _ I h) (fun v s1 ⟨y,H1,I1,r1,q1⟩=>⟨y,σ,H1,I1,r1,q1⟩) fun y s1 Fl=>caught_0 hc hst hf hg hm hI hs Fl hdb)))
end
end L2
namespace L2
open PySem PySem.Spec PyProof.Rows PySem.W
section
variable {prog:Program} {w:World} {A:Around} {E:Value→Shared→Prop} {s:Shared} {K:PySem.W.Frag} {x C:Addr} {ox:Obj} {od:Option Obj} {nm:Str} {tk:Tok}
structure XGet (K:PySem.W.Frag) (C:Addr):Prop where
  ga:findIn K (.ref C) "__getattribute__"=some (some (.builtin "BaseException.__getattribute__"))
  gt:findIn K (.ref C) "__getattr__"=some none
  mb:mroIn K C (.type "BaseException")=some true
end
end L2
namespace L2
open PySem PySem.Spec PyProof.Rows PySem.W
section
variable {P:Program} {w:World} {K:PySem.W.Frag} {mg:Str→Option Value} {base:Heap}
theorem Fun.okX {x qual:Str} {st:Stmt} {f:Addr} {fd:FuncData} {N ps:List Str} {k:Nat} {sp:Sp} (F:Fun K x qual st f fd) (S:FnScope N ps (defScope st)) (len:∀ vs H Q E,sp vs H Q E→vs.length=ps.length)
    (hbody:∀ (cdv:Value) (A:Around) (outer:List Env) (s:Shared) (H:Hp) (vs:List V) (Q:VK) (E:XK),Room k (A.deeper (envOfC qual (defScope st) s.heap.objs.size f cdv))→sp vs H Q E →
      ∃ t,PSs (cxOf (CXe P w) P w K mg base N qual (defScope st) f cdv A outer s H E) (defBody st) t∧t { nx:=fun _ H'=>Q .non H',rt:=Q } (start N vs) H):FnOk P w K mg base (CXe P w) (k+1) f fd ps sp:=by
  obtain⟨oc,od,kV,doc,pm,an,cdv,ct,osl,rfl,lk,hcd⟩:=F.ex
  exact fn_of lk hcd S len fun A outer s H vs Q E hr hsp=>hbody cdv A outer s H vs Q E hr hsp
end
structure XIsi (K:PySem.W.Frag) (C:Addr):Prop extends XGet K C where
  cls:(clsIn K C).isSome=true
  ca:findIn K (.ref C) "__class__"=some (some (.builtin "object.__class__"))
  mo:mroIn K C (.type "object")=some true
end L2
namespace L2
open PySem PySem.Spec PyProof.Rows
section
variable {X:Cx}
noncomputable def tFr (te:TE) (t:TF):TF:=fun out σ H Q=>te σ H fun v H1=>∃ y,v=.str y∧(reprText y).length≤sizeLine∧(out++reprText y).length≤sizeLine∧t (out++reprText y) σ H1 Q
theorem pf_valR {e:Expr} {te:TE} {pos:Pos} {es:List Expr} {t:TF} (he:PE X e te) (h:PF X es t) (hs:evalEach (.FormattedValue e 114 none pos :: es) X.env=eval (.FormattedValue e 114 none pos) X.env :: evalEach es X.env:=by rfl):PF X (.FormattedValue e 114 none pos :: es) (tFr te t):=by
  intro out pins s σ H Q I hw
  rw[hs]
  refine joinParts_cons (wpAny_FormattedValue_repr (thn (he pins s σ H _ I hw) fun v s1 ⟨x,H1,I1,r1,q1⟩=>?_))
  obtain⟨y,rfl,hy,hz,q⟩:=q1
  obtain⟨tk,rfl⟩:=r1
  refine wpAny_pyReprObj_str ?_ hy
  exact formatField_str (fun t' k=>⟨hz,h _ pins _ σ H1 Q (I1.tok k) q⟩) hy
noncomputable def rIsB:R2:=fun x y H Q=>∃ c,y=.bl c∧(x=.non∨∃ b,x=.bl b)∧Q (.bl (decide (x=.bl c))) H
theorem op_isB:OpR X (compareOp .Is) rIsB:=by
  intro pins s σ H x y v u Q I rx ry h
  obtain⟨c,rfl,hx,q⟩:=h
  cases (show u=Value.bool c from ry)
  rcases hx with rfl | ⟨b,rfl⟩
  · cases (show v=Value.none from rx)
    exact wpAny_pure ⟨.bl (decide (V.non=V.bl c)),H,I,(by cases c<;>rfl),q⟩
  · cases (show v=Value.bool b from rx)
    refine wpAny_pure ⟨.bl (decide (V.bl b=V.bl c)),H,I,?_,q⟩
    show Value.bool (Value.bool b == Value.bool c)=Value.bool (decide (V.bl b=V.bl c))
    cases b<;>cases c<;>rfl
theorem hand_K (X:Cx) (ea:Addr):(X.hand ea).K=X.K:=rfl
theorem nox_K (X:Cx):X.nox.K=X.K:=rfl
theorem cxOf_K1 (CX:CXT) (P:Program) (w:World) (K:PySem.W.Frag) (mg:Str→Option Value) (base:Heap) (N:List Str) (qual:Str) (scope:Scope) (f:Addr) (cd:Value) (A:Around) (outer:List Env) (s:Shared) (H:Hp) (E:XK):(cxOf CX P w K mg base N qual scope f cd A outer s H E).K=K:=rfl
end
end L2
namespace Ken
open PySem
end Ken
namespace Ken
open PySem L2
structure WkOrd (n:Nat) (lt:Nat→Nat→Bool):Prop where
  ntrans:∀ a b c,a < n→b < n→c < n→lt b a=false→lt c b=false→lt c a=false
  asym:∀ a b,a < n→b < n→lt a b=true→lt b a=false
section
variable {n:Nat} {lt:Nat→Nat→Bool} {cmp:Nat→Nat→(Bool→Shared→Prop)→Shared→Prop} {S:Shared→Prop}
noncomputable def WA (lt:Nat→Nat→Bool) (p:Array Nat) (m:Nat):Prop:=∀ i j,i < j→j < m→lt (gd p j) (gd p i)=false
noncomputable def WD (lt:Nat→Nat→Bool) (p:Array Nat) (m:Nat):Prop:=∀ i j,i < j→j < m→lt (gd p i) (gd p j)=false
noncomputable def EqS (lt:Nat→Nat→Bool) (p:Array Nat) (a b:Nat):Prop:=∀ i j,a≤i→i < b→a≤j→j < b→lt (gd p i) (gd p j)=false
theorem irr (O:WkOrd n lt) {a:Nat} (h:a < n):lt a a=false:=by
  cases e:lt a a with
  | false=>rfl
  | true=>have:=O.asym a a h h e;rw[e] at this;exact this
theorem wa_succ (O:WkOrd n lt) {p:Array Nat} (P:PermOk n p) {m:Nat} (h:WA lt p m) (h1:1≤m) (hm:m < n) (hl:lt (gd p m) (gd p (m - 1))=false):WA lt p (m+1):=by
  intro i j hij hj
  by_cases e:j=m
  · subst e
    by_cases e2:i=j - 1
    · subst e2;exact hl
    · exact O.ntrans _ _ _ (P.low _ (by omega)) (P.low _ (by omega)) (P.low _ hm) (h i (j - 1) (by omega) (by omega)) hl
  · exact h i j hij (by omega)
theorem wd_succ (O:WkOrd n lt) {p:Array Nat} (P:PermOk n p) {m:Nat} (h:WD lt p m) (h1:1≤m) (hm:m < n) (hl:lt (gd p (m - 1)) (gd p m)=false):WD lt p (m+1):=by
  intro i j hij hj
  by_cases e:j=m
  · subst e
    by_cases e2:i=j - 1
    · subst e2;exact hl
    · exact O.ntrans _ _ _ (P.low _ hm) (P.low _ (by omega)) (P.low _ (by omega)) hl (h i (j - 1) (by omega) (by omega))
  · exact h i j hij (by omega)
theorem wp_wasc (O:WkOrd n lt) (A:Asks n lt S cmp) {p:Array Nat} (P:PermOk n p) {Q:Nat→Shared→Prop}:∀ (f x:Nat) (s:Shared),1≤x→x+f≤n→WA lt p x→S s →
    (∀ m s',x≤m→m≤x+f→WA lt p m→(m=x+f∨(m < n∧lt (gd p m) (gd p (m - 1))=true))→S s'→Q m s')→W.KasT.kasWp cmp (W.kas_asc p f x) Q s
  | 0,x,s,h1,h2,ha,hs,q=>by
    rw[W.kas_asc.eq_1,W.KasT.kasWp.eq_1]
    exact q x s (Nat.le_refl _) (Nat.le_refl _) ha (.inl rfl) hs
  | f+1,x,s,h1,h2,ha,hs,q=>by
    rw[W.kas_asc.eq_2,W.KasT.kasWp.eq_2]
    have hne:gd p x≠gd p (x - 1):=fun z=>by have:=P.inj _ _ (by omega) (by omega) z;omega
    refine A _ _ _ _ (P.low _ (by omega)) (P.low _ (by omega)) hne hs fun s' hs'=>?_
    cases e:lt (gd p x) (gd p (x - 1)) with
    | true =>
      rw[if_pos rfl,W.KasT.kasWp.eq_1]
      exact q x s' (Nat.le_refl _) (by omega) ha (.inr ⟨by omega,e⟩) hs'
    | false =>
      rw[if_neg Bool.false_ne_true]
      refine wp_wasc O A P f (x+1) s' (by omega) (by omega) (wa_succ O P ha h1 (by omega) e) hs' fun m s2 g1 g2 g3 g4 g5=>q m s2 (by omega) (by omega) g3 ?_ g5
      rcases g4 with g4 | g4
      · exact .inl (by omega)
      · exact .inr g4
theorem revG_get {p:Array Nat} {a b k:Nat} (hb:b≤p.size):gd (W.kas_rev p a b) k=if a≤k∧k < b then gd p (a+b - 1 - k) else gd p k:=by
  have h:=PyProof.Rows.getElem?_mirror_all (xs:=p) (i:=a) (j:=b) hb k
  unfold W.kas_rev
  by_cases hk:a≤k∧k < b
  · rw[if_pos hk] at h
    rw[if_pos hk]
    simp only[gd,Array.getD_eq_getD_getElem?,h]
  · rw[if_neg hk] at h
    rw[if_neg hk]
    simp only[gd,Array.getD_eq_getD_getElem?,h]
theorem seg_rev {p:Array Nat} {a b m:Nat} (hb:b≤p.size) (hbm:b≤m) (h:WD lt p m) (hE:EqS lt p a b):WD lt (W.kas_rev p a b) m:=by
  intro i j hij hj
  rw[revG_get hb,revG_get hb]
  by_cases ci:a≤i∧i < b
  · rw[if_pos ci]
    by_cases cj:a≤j∧j < b
    · rw[if_pos cj]
      exact hE _ _ (by omega) (by omega) (by omega) (by omega)
    · rw[if_neg cj]
      exact h _ _ (by omega) hj
  · rw[if_neg ci]
    by_cases cj:a≤j∧j < b
    · rw[if_pos cj]
      exact h _ _ (by omega) (by omega)
    · rw[if_neg cj]
      exact h _ _ hij hj
theorem rev_wa {p:Array Nat} {m:Nat} (hm:m≤p.size) (h:WD lt p m):WA lt (W.kas_rev p 0 m) m:=by
  intro i j hij hj
  rw[rev_get hm,rev_get hm,if_pos hj,if_pos (by omega)]
  exact h _ _ (by omega) (by omega)
theorem eq_succ (O:WkOrd n lt) {p:Array Nat} (P:PermOk n p) {a x:Nat} (ha:a < x) (hx:x < n) (hE:EqS lt p a x) (h1:lt (gd p x) (gd p (x - 1))=false) (h2:lt (gd p (x - 1)) (gd p x)=false):EqS lt p a (x+1):=by
  intro i j i1 i2 j1 j2
  by_cases ei:i=x
  · by_cases ej:j=x
    · rw[ei,ej];exact irr O (P.low _ hx)
    · rw[ei]
      by_cases e3:j=x - 1
      · rw[e3];exact h1
      · exact O.ntrans _ _ _ (P.low _ (by omega)) (P.low _ (by omega)) (P.low _ hx) (hE (x - 1) j (by omega) (by omega) j1 (by omega)) h1
  · by_cases ej:j=x
    · rw[ej]
      by_cases e3:i=x - 1
      · rw[e3];exact h2
      · exact O.ntrans _ _ _ (P.low _ hx) (P.low _ (by omega)) (P.low _ (by omega)) h2 (hE i (x - 1) i1 (by omega) (by omega) (by omega))
    · exact hE i j i1 (by omega) j1 (by omega)
theorem wp_wdesc (O:WkOrd n lt) (A:Asks n lt S cmp) {Q:Array Nat×Nat×Nat→Shared→Prop}:∀ (f:Nat) (p:Array Nat) (x e:Nat) (s:Shared),p.Perm (List.range n).toArray→e+1≤x→x+f≤n→WD lt p x→EqS lt p (x - (e+1)) x→S s →
    (∀ p' m e' s',p'.Perm (List.range n).toArray→x≤m→m≤x+f→e'+1≤m→WD lt p' m→EqS lt p' (m - (e'+1)) m→S s'→Q (p',m,e') s')→W.KasT.kasWp cmp (W.kas_desc f p x e) Q s
  | 0,p,x,e,s,hp,h1,h2,hd,hE,hs,q=>by
    rw[W.kas_desc.eq_1,W.KasT.kasWp.eq_1]
    exact q p x e s hp (Nat.le_refl _) (Nat.le_refl _) h1 hd hE hs
  | f+1,p,x,e,s,hp,h1,h2,hd,hE,hs,q=>by
    have P:=Zf5 hp
    rw[W.kas_desc.eq_2,W.KasT.kasWp.eq_2]
    have hne:gd p x≠gd p (x - 1):=fun z=>by have:=P.inj _ _ (by omega) (by omega) z;omega
    refine A _ _ _ _ (P.low _ (by omega)) (P.low _ (by omega)) hne hs fun s' hs'=>?_
    have one:∀ p':Array Nat,PermOk n p'→EqS lt p' (x+1 - (0+1)) (x+1):=fun p' P' i j i1 i2 j1 j2=>by
      have:i=j:=by omega
      rw[this];exact irr O (P'.low _ (by omega))
    cases ec:lt (gd p x) (gd p (x - 1)) with
    | true =>
      rw[if_pos rfl]
      have hd1:=wd_succ O P hd (by omega) (by omega) (O.asym _ _ (P.low _ (by omega)) (P.low _ (by omega)) ec)
      by_cases he:e > 0
      · rw[if_pos he]
        have hp2:(W.kas_rev p (x - (e+1)) x).Perm (List.range n).toArray:=(PyProof.Rows.mirror_perm _ _ _ _).trans hp
        refine wp_wdesc O A f _ (x+1) 0 s' hp2 (by omega) (by omega) (seg_rev (by rw[P.size];omega) (by omega) hd1 hE) (one _ (Zf5 hp2)) hs' fun p' m e' s2 g0 g1 g2 g3 g4 g5 g6=>q p' m e' s2 g0 (by omega) (by omega) g3 g4 g5 g6
      · rw[if_neg he]
        refine wp_wdesc O A f p (x+1) 0 s' hp (by omega) (by omega) hd1 (one _ P) hs' fun p' m e' s2 g0 g1 g2 g3 g4 g5 g6=>q p' m e' s2 g0 (by omega) (by omega) g3 g4 g5 g6
    | false =>
      rw[if_neg Bool.false_ne_true,W.KasT.kasWp.eq_2]
      refine A _ _ _ _ (P.low _ (by omega)) (P.low _ (by omega)) (Ne.symm hne) hs' fun s2 hs2=>?_
      cases ed:lt (gd p (x - 1)) (gd p x) with
      | true =>
        rw[if_pos rfl,W.KasT.kasWp.eq_1]
        exact q p x e s2 hp (Nat.le_refl _) (by omega) h1 hd hE hs2
      | false =>
        rw[if_neg Bool.false_ne_true]
        have hE1:=eq_succ O P (show x - (e+1) < x by omega) (by omega) hE ec ed
        refine wp_wdesc O A f p (x+1) (e+1) s2 hp (by omega) (by omega) (wd_succ O P hd (by omega) (by omega) ed) (by rw[show x+1 - (e+1+1)=x - (e+1) by omega];exact hE1) hs2 fun p' m e' s3 g0 g1 g2 g3 g4 g5 g6=>q p' m e' s3 g0 (by omega) (by omega) g3 g4 g5 g6
theorem wp_wdescPart (O:WkOrd n lt) (A:Asks n lt S cmp) {p:Array Nat} (hp:p.Perm (List.range n).toArray) {x:Nat} (h1:1≤x) (hx:x < n) (hd:WD lt p (x+1)) {Q:Nat×Array Nat→Shared→Prop} (s:Shared) (hs:S s)
    (q:∀ m p' s',1≤m→m≤n→p'.Perm (List.range n).toArray→WA lt p' m→S s'→Q (m,p') s'):W.KasT.kasWp cmp (W.kas_descPart x n p) Q s:=by
  have P:=Zf5 hp
  have tail:∀ (p2:Array Nat) (m:Nat) (s2:Shared),p2.Perm (List.range n).toArray→x+1≤m→m≤n→WD lt p2 m→S s2→W.KasT.kasWp cmp (W.kas_tail3 m n p2) Q s2:=fun p2 m s2 hp2 m1 m2 hd2 hs2=>by
    rw[W.kas_tail3.eq_1,W.KasT.kasWp_bind]
    have hp3:(W.kas_rev p2 0 m).Perm (List.range n).toArray:=(PyProof.Rows.mirror_perm _ _ _ _).trans hp2
    have P3:=Zf5 hp3
    refine wp_wasc O A P3 (n - m) m s2 (by omega) (by omega) (rev_wa (by rw[(Zf5 hp2).size];omega) hd2) hs2 fun m3 s3 j1 j2 j3 j4 j5=>?_
    rw[W.KasT.kasWp.eq_1]
    exact q m3 _ s3 (by omega) (by omega) hp3 j3 j5
  unfold W.kas_descPart
  rw[W.KasT.kasWp_bind]
  refine wp_wdesc O A (n - (x+1)) p (x+1) 0 s hp (by omega) (by omega) hd (fun i j i1 i2 j1 j2=>?_) hs fun p2 m e s2 g0 g1 g2 g3 g4 g5 g6=>?_
  · have:i=j:=by omega
    rw[this];exact irr O (P.low _ (by omega))
  · by_cases he:e > 0
    · rw[if_pos (show ((p2,m,e):Array Nat×Nat×Nat).2.2 > 0 from he)]
      exact tail _ m s2 ((PyProof.Rows.mirror_perm _ _ _ _).trans g0) g1 (by omega) (seg_rev (show m≤p2.size by rw[(Zf5 g0).size];omega) (Nat.le_refl m) g4 g5) g6
    · rw[if_neg (show ¬ ((p2,m,e):Array Nat×Nat×Nat).2.2 > 0 from he)]
      exact tail p2 m s2 g0 g1 (by omega) g4 g6
theorem wp_wcount (O:WkOrd n lt) (A:Asks n lt S cmp) {p:Array Nat} (hp:p.Perm (List.range n).toArray) (h2:2≤n) {Q:Nat×Array Nat→Shared→Prop} (s:Shared) (hs:S s)
    (q:∀ m p' s',1≤m→m≤n→p'.Perm (List.range n).toArray→WA lt p' m→S s'→Q (m,p') s'):W.KasT.kasWp cmp (W.kas_count n p) Q s:=by
  have P:=Zf5 hp
  unfold W.kas_count
  rw[W.KasT.kasWp_bind]
  refine wp_wasc O A P (n - 1) 1 s (Nat.le_refl _) (by omega) (fun i j h1 h2=>by omega) hs fun m s' g1 g2 g3 g4 g5=>?_
  by_cases e1:(m == n)=true
  · rw[if_pos e1,W.KasT.kasWp.eq_1]
    exact q m p s' g1 (by omega) hp g3 g5
  · rw[if_neg e1]
    have hmn:m < n:=by
      have:m≠n:=fun z=>e1 (by simp[z])
      omega
    have hlt:lt (gd p m) (gd p (m - 1))=true:=by
      rcases g4 with g4 | g4
      · omega
      · exact g4.2
    by_cases e2:m > 1
    · rw[if_pos e2,W.KasT.kasWp.eq_2]
      have hne:gd p 0≠gd p (m - 1):=fun z=>by have:=P.inj _ _ (by omega) (by omega) z;omega
      refine A _ _ _ _ (P.low _ (by omega)) (P.low _ (by omega)) hne g5 fun s2 hs2=>?_
      cases ec:lt (gd p 0) (gd p (m - 1)) with
      | true =>
        rw[if_pos rfl,W.KasT.kasWp.eq_1]
        exact q m p s2 g1 (by omega) hp g3 hs2
      | false =>
        rw[if_neg Bool.false_ne_true]
        have hE:EqS lt p 0 m:=fun i j i1 i2 j1 j2=>by
          rcases Nat.lt_trichotomy i j with z | z | z
          ·
            have a1:lt (gd p 0) (gd p j)=false:=by
              by_cases ej:j=m - 1
              · rw[ej];exact ec
              · exact O.ntrans _ _ _ (P.low _ (by omega)) (P.low _ (by omega)) (P.low _ (by omega)) (g3 j (m - 1) (by omega) (by omega)) ec
            by_cases ei:i=0
            · rw[ei];exact a1
            · exact O.ntrans _ _ _ (P.low _ (by omega)) (P.low _ (by omega)) (P.low _ (by omega)) a1 (by
                have b1:lt (gd p i) (gd p 0)=false:=g3 0 i (by omega) (by omega)
                exact b1)
          · rw[z];exact irr O (P.low _ (by omega))
          · exact g3 j i z i2
        have hp2:(W.kas_rev p 0 m).Perm (List.range n).toArray:=(PyProof.Rows.mirror_perm _ _ _ _).trans hp
        have P2:=Zf5 hp2
        refine wp_wdescPart O A hp2 (by omega) hmn ?_ s2 hs2 q
        intro i j hij hj
        rw[rev_get (by rw[P.size];omega),rev_get (by rw[P.size];omega),if_pos (by omega)]
        by_cases ej:j < m
        · rw[if_pos ej];exact hE _ _ (by omega) (by omega) (by omega) (by omega)
        · rw[if_neg ej]
          have:j=m:=by omega
          rw[this]
          have c1:lt (gd p (m - 1)) (gd p m)=false:=O.asym _ _ (P.low _ (by omega)) (P.low _ (by omega)) hlt
          by_cases e9:m - 1 - i=m - 1
          · rw[e9];exact c1
          · exact O.ntrans _ _ _ (P.low _ (by omega)) (P.low _ (by omega)) (P.low _ (by omega)) c1 (hE _ _ (by omega) (by omega) (by omega) (by omega))
    · rw[if_neg e2]
      have em:m=1:=by omega
      subst em
      refine wp_wdescPart O A hp (by omega) hmn ?_ s' g5 q
      intro i j hij hj
      have e3:i=0:=by omega
      have e4:j=1:=by omega
      subst e3 e4
      exact O.asym _ _ (P.low _ (by omega)) (P.low _ (by omega)) hlt
theorem wp_wplace (O:WkOrd n lt) (A:Asks n lt S cmp) {p:Array Nat} (P:PermOk n p) {k:Nat} (hk:k < n) (ha:WA lt p k) {Q:Nat→Shared→Prop}:∀ (f l r:Nat) (s:Shared),l≤r→r≤k→r - l≤f→S s →
    (∀ i,i < l→lt (gd p k) (gd p i)=false)→(∀ i,r≤i→i < k→lt (gd p i) (gd p k)=false) →
    (∀ m s',m≤k→(∀ i,i < m→lt (gd p k) (gd p i)=false)→(∀ i,m≤i→i < k→lt (gd p i) (gd p k)=false)→S s'→Q m s')→W.KasT.kasWp cmp (W.kas_place p k f l r) Q s
  | 0,l,r,s,h1,h2,h3,hs,g1,g2,q=>by
    rw[W.kas_place.eq_1,W.KasT.kasWp.eq_1]
    have:l=r:=by omega
    subst this
    exact q l s h2 g1 g2 hs
  | f+1,l,r,s,h1,h2,h3,hs,g1,g2,q=>by
    rw[W.kas_place.eq_2]
    by_cases e:l ≥ r
    · rw[if_pos e,W.KasT.kasWp.eq_1]
      have:l=r:=by omega
      subst this
      exact q l s h2 g1 g2 hs
    · rw[if_neg e,W.KasT.kasWp.eq_2]
      have hne:gd p k≠gd p ((l+r) / 2):=fun z=>by have:=P.inj _ _ (by omega) (by omega) z;omega
      refine A _ _ _ _ (P.low _ hk) (P.low _ (by omega)) hne hs fun s' hs'=>?_
      cases ec:lt (gd p k) (gd p ((l+r) / 2)) with
      | true =>
        rw[if_pos rfl]
        refine wp_wplace O A P hk ha f l ((l+r) / 2) s' (by omega) (by omega) (by omega) hs' g1 (fun i i1 i2=>?_) q
        have c1:=O.asym _ _ (P.low _ hk) (P.low _ (by omega)) ec
        by_cases ei:i=(l+r) / 2
        · rw[ei];exact c1
        · exact O.ntrans _ _ _ (P.low _ hk) (P.low _ (by omega)) (P.low _ (by omega)) c1 (ha _ _ (by omega) i2)
      | false =>
        rw[if_neg Bool.false_ne_true]
        refine wp_wplace O A P hk ha f ((l+r) / 2+1) r s' (by omega) h2 (by omega) hs' (fun i i1=>?_) g2 q
        by_cases ei:i=(l+r) / 2
        · rw[ei];exact ec
        · exact O.ntrans _ _ _ (P.low _ (by omega)) (P.low _ (by omega)) (P.low _ hk) (ha i _ (by omega) (by omega)) ec
theorem bub_wa {p:Array Nat} {k m:Nat} (hk:k < p.size) (hm:m≤k) (ha:WA lt p k) (g1:∀ i,i < m→lt (gd p k) (gd p i)=false) (g2:∀ i,m≤i→i < k→lt (gd p i) (gd p k)=false):WA lt (PyProof.Rows.bubble p k (k - m)) (k+1):=by
  intro i j hij hj
  rw[bub_get hk hm,bub_get hk hm]
  by_cases ei:i=m
  · subst ei
    rw[if_pos rfl,if_neg (by omega),if_pos ⟨hij,by omega⟩]
    exact g2 _ (by omega) (by omega)
  · rw[if_neg ei]
    by_cases ej:j=m
    · subst ej
      rw[if_pos rfl,if_neg (by omega)]
      exact g1 _ hij
    · rw[if_neg ej]
      by_cases c1:m < i∧i≤k
      · rw[if_pos c1,if_pos ⟨by omega,by omega⟩]
        exact ha _ _ (by omega) (by omega)
      · rw[if_neg c1]
        by_cases c2:m < j∧j≤k
        · rw[if_pos c2]
          exact ha _ _ (by omega) (by omega)
        · rw[if_neg c2]
          exact ha _ _ hij (by omega)
theorem wp_wbin (O:WkOrd n lt) (A:Asks n lt S cmp) {Q:Array Nat→Shared→Prop}:∀ (f k:Nat) (p:Array Nat) (s:Shared),k+f=n→1≤k→p.Perm (List.range n).toArray→WA lt p k→S s →
    (∀ p' s',p'.Perm (List.range n).toArray→WA lt p' n→S s'→Q p' s')→W.KasT.kasWp cmp (W.kas_bin f p k) Q s
  | 0,k,p,s,h1,h2,hp,ha,hs,q=>by
    rw[W.kas_bin.eq_1,W.KasT.kasWp.eq_1]
    have:k=n:=by omega
    subst this
    exact q p s hp ha hs
  | f+1,k,p,s,h1,h2,hp,ha,hs,q=>by
    rw[W.kas_bin.eq_2,W.KasT.kasWp_bind]
    have P:=Zf5 hp
    refine wp_wplace O A P (by omega) ha k 0 k s (Nat.zero_le _) (Nat.le_refl _) (by omega) hs (fun i hi=>by omega) (fun i i1 i2=>by omega) fun m s' hm g1 g2 hs'=>?_
    exact wp_wbin O A f (k+1) _ s' (by omega) (by omega) ((PyProof.Rows.bubble_perm _ _ _).trans hp) (bub_wa (by rw[P.size];omega) hm ha g1 g2) hs' q
theorem wp_wsort (O:WkOrd n lt) (A:Asks n lt S cmp) (h2:2≤n) {Q:Array Nat→Shared→Prop} (s:Shared) (hs:S s)
    (q:∀ p s',p.Perm (List.range n).toArray→WA lt p n→S s'→Q p s'):W.KasT.kasWp cmp (W.kas_sort n) Q s:=by
  unfold W.kas_sort
  rw[W.KasT.kasWp_bind]
  refine wp_wcount O A (Array.Perm.refl _) h2 s hs fun m p s' g1 g2 g3 g4 g5=>?_
  by_cases e:m < n
  · rw[if_pos (show ((m,p):Nat×Array Nat).1 < n from e)]
    show W.KasT.kasWp cmp (W.kas_bin (n - max m 1) p (max m 1)) Q s'
    have em:max m 1=m:=by omega
    rw[em]
    exact wp_wbin O A (n - m) m p s' (by omega) g1 g3 g4 g5 q
  · rw[if_neg (show ¬ ((m,p):Nat×Array Nat).1 < n from e),W.KasT.kasWp.eq_1]
    have:m=n:=by omega
    subst this
    exact q p s' g3 g4 g5
end
end Ken
namespace Ken
open PySem L2
noncomputable def sortedT (os:List Tm):Prop:=os.Pairwise fun a b=>lexT a.spell b.spell=true
end Ken
namespace L2
open PySem PySem.Spec PyProof.Rows
noncomputable def tCallL (i:Nat) (f:Addr) (t:TE):TE:=fun σ H Q=>σ[i]?=some (some (.ref f))∧t σ H Q
section
variable {X:Cx}
theorem pe_callL {k:Nat} {CX:CXT} {E:XK} {f:Addr} {fd:FuncData} {ps:List Str} {sp:Sp} {ds:List Value} {dvs:List V} {x:Str} {p pos:Pos} {e:Expr} {es:List Expr} {t:TA} {i:Nat} (F:FnOk X.prog X.w X.K X.mg X.base CX k f fd ps sp) (hr:Room k X.A) (hN:X.N[i]?=some x) (hv:Vis X.env.scope x) (hk:PySem.W.keepIn X.K (.ref f)=true) (hb:Binds X.K fd ps ds) (hd:Vals dvs ds) (hx:Passes CX X E)
    (ha:PA X (e :: es) t) (hdb:(x == ("__debug__":Str))=false:=by decide) (hcd:(x == ("__classdict__":Str))=false:=by decide) (he:starEach (e :: es) X.env=(false,eval e X.env) :: starEach es X.env:=by rfl) (hpl:(backTo pos (starEach es X.env)).any (·.1)=false:=by rfl) :
    PE X (.Call (.Name x p) (e :: es) [] pos) (tCallL i f (tCall sp dvs E t)):=by
  intro pins s σ H Q I h
  obtain⟨h1,h2⟩:=h
  refine wpAny_Call_Name_kw ?_
  refine thn (pe_var (X:=X) (i:=i) hN hv hdb hcd pins s σ H (fun v H1=>v=.ref f∧H1=H) I ⟨_,h1,rfl,rfl⟩) fun v s0 ⟨y,H0,I0,r0,e1,e2⟩=>?_
  subst e1
  subst e2
  cases (show v=Value.ref f from r0)
  refine PySem.W.callWith_K (h₀:=X.base) I0.ok.mod.kin hk (thn (ha pos pins s0 σ H0 _ I0 h2) fun us s1 ⟨vs,H1,I1,r,q⟩=>⟨I1.kIn,?_⟩) he hpl
  exact run_fn F hr hb hd hx I1 r q
end
end L2
namespace Ken
open PySem L2
theorem Zh0:∀ {os ts:List Tm},os.Nodup→(∀ t∈os,t∈ts)→os.length≤ts.length
  | [],_,_,_=>Nat.zero_le _
  | o :: os,ts,hn,h=>by
    obtain⟨l,r,rfl⟩:=List.append_of_mem (h o List.mem_cons_self)
    have h1:=List.nodup_cons.mp hn
    have:=Zh0 (ts:=l++r) h1.2 fun t ht=>by
      have:=h t (List.mem_cons_of_mem _ ht)
      rcases List.mem_append.mp this with z | z
      · exact List.mem_append_left _ z
      · rcases List.mem_cons.mp z with z | z
        · exact absurd (z▸ht) h1.1
        · exact List.mem_append_right _ z
    rw[List.length_append] at this
    rw[List.length_cons,List.length_append,List.length_cons];omega
end Ken
namespace Ken
open PySem L2
section
variable {X:Cx} {pins:List (Addr×Obj)} {σ:St} {H:Hp} {s:Shared}
theorem isT_inj (I:Inv X pins σ H s):∀ {a b:Tm} {v:V},IsT X.K H v a→IsT X.K H v b→a=b
  | .low,b,v,h,g=>by
    obtain⟨p,rfl,hs⟩:=isT_low.mp h
    cases b with
    | low=>rfl
    | ltr w =>
      obtain⟨q,e,gs⟩:=isT_ltr.mp g
      cases e
      exact absurd (I.tuple_inj hs gs) (by simp)
    | nd k x y =>
      obtain⟨q,_,_,e,gs,_⟩:=isT_nd.mp g
      cases e
      exact absurd (I.tuple_inj hs gs) (by simp)
  | .ltr w,b,v,h,g=>by
    obtain⟨p,rfl,hs⟩:=isT_ltr.mp h
    cases b with
    | low =>
      obtain⟨q,e,gs⟩:=isT_low.mp g
      cases e
      exact absurd (I.tuple_inj hs gs) (by simp)
    | ltr w' =>
      obtain⟨q,e,gs⟩:=isT_ltr.mp g
      cases e
      have:=I.tuple_inj hs gs
      simp only[List.cons.injEq,V.str.injEq,and_true,true_and] at this
      rw[this]
    | nd k x y =>
      obtain⟨q,_,_,e,gs,_⟩:=isT_nd.mp g
      cases e
      exact absurd (I.tuple_inj hs gs) (by simp)
  | .nd k x y,b,v,h,g=>by
    obtain⟨p,vx,vy,rfl,hs,hx,hy⟩:=isT_nd.mp h
    cases b with
    | low =>
      obtain⟨q,e,gs⟩:=isT_low.mp g
      cases e
      exact absurd (I.tuple_inj hs gs) (by simp)
    | ltr w' =>
      obtain⟨q,e,gs⟩:=isT_ltr.mp g
      cases e
      exact absurd (I.tuple_inj hs gs) (by simp)
    | nd k' x' y' =>
      obtain⟨q,_,_,e,gs,gx,gy⟩:=isT_nd.mp g
      cases e
      have:=I.tuple_inj hs gs
      simp only[List.cons.injEq,V.str.injEq,and_true] at this
      obtain⟨e1,rfl,rfl⟩:=this
      rw[Kd.str_inj e1,isT_inj I hx gx,isT_inj I hy gy]
end
theorem tms_dn {K:PySem.W.Frag} {H:Hp}:∀ {us:List V} {ts:List Tm},Paired (IsT K H) us ts→DnAll K H us (ts.map Tm.data)
  | _,_,.nil=>by rw[List.map_nil,DnAll]
  | _,_,.cons h t=>by
    rw[List.map_cons,DnAll]
    exact⟨_,_,rfl,h,tms_dn t⟩
theorem tms_lay:∀ {ts:List Tm},(∀ t∈ts,t.ok)→(PyData.list (ts.map Tm.data)).canLay0=true
  | [],_=>rfl
  | t :: ts,h=>by
    have:=tms_lay (ts:=ts) fun s hs=>h s (List.mem_cons_of_mem _ hs)
    show (t.data.canLay0&&(PyData.list (ts.map Tm.data)).canLay0)=true
    rw[t.lay (h t List.mem_cons_self),this];rfl
end Ken
namespace L2
open PySem PySem.Spec PyProof.Rows
section
variable {X:Cx}
noncomputable def rInT (K:PySem.W.Frag) (neg:Bool):R2:=fun x y H Q=>∃ (t:Ken.Tm) (p:Addr) (xs:List V) (ts:List Ken.Tm),Ken.IsT K H x t∧y=.ref p∧SqL K H p xs∧Paired (Ken.IsT K H) xs ts∧t.ok∧(∀ s∈ts,s.ok)∧t.deep≤140∧Q (.bl (if neg then !decide (t∈ts) else decide (t∈ts))) H
theorem mem_at {pins:List (Addr×Obj)} {σ:St} {H:Hp} {s:Shared} {x:V} {v:Value} {t:Ken.Tm} {xs:List V} {ts:List Ken.Tm} {its:List Value} (hu:X.A.units+150 < cLine) (I:Inv X pins σ H s) (rx:RelV x v) (hT:Ken.IsT X.K H x t) (hP:Paired (Ken.IsT X.K H) xs ts) (r:Vals xs its) (ho:t.ok) (hs:∀ s∈ts,s.ok) (hd:t.deep≤140) :
    ∃ e:Value→Bool,(∀ w∈its,SeqAt.EqAt X.A.in1 s w v (e w))∧its.any e=decide (t∈ts)∧∀ (j:Nat) (w:Value),its[j]?=some w→e w=true→ts[j]?=some t:=by
  classical
  have l1:=Paired.length hP
  have l2:=r.length
  have same:∀ (i j:Nat) (w:Value) (a b:Ken.Tm),its[i]?=some w→its[j]?=some w→ts[i]?=some a→ts[j]?=some b→a=b:=by
    intro i j w a b h1 h2 h3 h4
    have hi:i < xs.length:=by have:=(List.getElem?_eq_some_iff.mp h3).1;omega
    have hj:j < xs.length:=by have:=(List.getElem?_eq_some_iff.mp h4).1;omega
    obtain⟨a',ea,ha⟩:=Ken.paired_get hP (List.getElem?_eq_getElem hi)
    obtain⟨b',eb,hb⟩:=Ken.paired_get hP (List.getElem?_eq_getElem hj)
    obtain⟨u1,g1,r1⟩:=r.get (List.getElem?_eq_getElem hi)
    obtain⟨u2,g2,r2⟩:=r.get (List.getElem?_eq_getElem hj)
    rw[h3] at ea;cases ea
    rw[h4] at eb;cases eb
    rw[h1] at g1;cases g1
    rw[h2] at g2;cases g2
    obtain⟨p1,_,z1,_⟩:=Ken.isT_tup ha
    obtain⟨p2,_,z2,_⟩:=Ken.isT_tup hb
    rw[z1] at r1 ha
    rw[z2] at r2 hb
    have y1:w=.ref p1:=r1
    have y2:w=.ref p2:=r2
    rw[y1] at y2;cases y2
    exact Ken.isT_inj I ha hb
  refine⟨fun w=>decide (∃ j:Nat,its[j]?=some w∧ts[j]?=some t),fun w hw=>?_,?_,fun j w hj he=>?_⟩
  · obtain⟨j,hj,ej⟩:=List.mem_iff_getElem.mp hw
    have hjx:j < xs.length:=by omega
    have hjt:j < ts.length:=by omega
    obtain⟨a,ea,ha⟩:=Ken.paired_get hP (List.getElem?_eq_getElem hjx)
    obtain⟨u1,g1,r1⟩:=r.get (List.getElem?_eq_getElem hjx)
    have gj:its[j]?=some w:=by rw[List.getElem?_eq_getElem hj,ej]
    rw[gj] at g1;cases g1
    have key:decide (∃ j:Nat,its[j]?=some w∧ts[j]?=some t)=decide (a=t):=by
      by_cases h:a=t
      · rw[decide_eq_true h,decide_eq_true ⟨j,gj,by rw[ea,h]⟩]
      · rw[decide_eq_false h,decide_eq_false]
        rintro⟨i,h1,h2⟩
        exact h (same j i w a t gj h1 ea h2)
    show SeqAt.EqAt X.A.in1 s w v (decide (∃ j:Nat,its[j]?=some w∧ts[j]?=some t))
    rw[key]
    obtain⟨p1,_,z1,_⟩:=Ken.isT_tup ha
    obtain⟨p2,_,z2,_⟩:=Ken.isT_tup hT
    rw[z1] at r1 ha
    rw[z2] at rx hT
    have y1:w=.ref p1:=r1
    have y2:v=.ref p2:=rx
    subst y1
    subst y2
    by_cases h:p1=p2
    · subst h
      rw[decide_eq_true (Ken.isT_inj I ha hT)]
      exact SeqAt.EqAt.same _
    · obtain⟨as,q1⟩:=Dn.reads I ha (show RelV (.ref p1) (.ref p1) from rfl)
      obtain⟨bs,q2⟩:=Dn.reads I hT (show RelV (.ref p2) (.ref p2) from rfl)
      rw[← Ken.Tm.eqv]
      have hu1:X.A.in1.units=X.A.units+1:=rfl
      have dm:min a.data.depth t.data.depth≤140:=by rw[Ken.Tm.depth,Ken.Tm.depth];omega
      exact SeqAt.EqAt.of_refs h (SeqAt.rcAt_reads q1 q2 (a.lay (hs a (List.mem_of_getElem? ea))) (t.lay ho) (by omega))
  · rw[Bool.eq_iff_iff,List.any_eq_true,decide_eq_true_iff]
    constructor
    · rintro⟨w,hw,h⟩
      obtain⟨j,_,h2⟩:=of_decide_eq_true h
      exact List.mem_of_getElem? h2
    · intro h
      obtain⟨j,hj,ej⟩:=List.mem_iff_getElem.mp h
      have hji:j < its.length:=by omega
      exact⟨its[j],List.getElem_mem hji,decide_eq_true ⟨j,List.getElem?_eq_getElem hji,by rw[List.getElem?_eq_getElem hj,ej]⟩⟩
  · obtain⟨i,h1,h2⟩:=of_decide_eq_true he
    have hji:j < its.length:=(List.getElem?_eq_some_iff.mp hj).1
    have hjt:j < ts.length:=by omega
    rw[List.getElem?_eq_getElem hjt,same j i w ts[j] t hj h1 (List.getElem?_eq_getElem hjt) h2]
theorem op_notInT (hu:X.A.units+150 < cLine):OpR X (compareOp .NotIn) (rInT X.K true):=by
  intro pins s σ H x y v u Q I rx ry h
  obtain⟨t,p,xs,ts,hT,rfl,hq,hP,ho,hs,hd,q⟩:=h
  cases ry
  obtain⟨its,r,pl,hz⟩:=I.list hq
  obtain⟨e,he,ea,_⟩:=mem_at hu I rx hT hP r ho hs hd
  refine SeqAt.notIn_listAt e pl.isList (fun w hw=>he w (by simpa using hw)) ⟨.bl _,H,I,rfl,?_⟩
  rw[show its.toArray.any e=its.any e by simp,ea]
  exact q
end
end L2
namespace PySem.SeqAt
open PySem PySem.MeetsSeq L2 PyProof.Rows
theorem strs_len:∀ {us:List Value} {xs:List Str},StrsAre us xs→us.length=xs.length
  | _,_,.nil=>rfl
  | _,_,.cons _ _ h=>by rw[List.length_cons,List.length_cons,strs_len h]
theorem tuple_ltAt (l b:Addr) (items items2:Array Value) (n n2:Nat) (dd dd2:Option Addr) (sl sl2:Array (Option Value)) (xs ys:List Str) :
    Meets (Builtin.«tuple.__lt__» ⟨[.ref l,.ref b],[]⟩)
      (fun A R s=>s.heap.get? l=some { cls:=.type "tuple",dict:=dd,data:=.seq items n,slots:=sl }∧s.heap.get? b=some { cls:=.type "tuple",dict:=dd2,data:=.seq items2 n2,slots:=sl2 } ∧
        StrsAre items.toList xs∧StrsAre items2.toList ys∧R (.ok (.ret (.bool (lexF (decide (items.size < items2.size)) xs ys)))) s) :=
  .of_wp fun prog w A R s h=>by
    obtain⟨hp,g,d,tk,os⟩:=s;obtain⟨hl,hb,he1,he2,h⟩:=h
    have f2:=AutoSeq1.sub_tuple_tuple
    wp_walk using wpAny_loadPart' hl,wpAny_loadPart' hb,wpAny_forIn_list _ (fun rest b s'=>b.1=none∧s'=⟨hp,g,d,tk,os⟩∧∃ us vs xs ys,rest=List.zip us vs∧StrsAre us xs∧StrsAre vs ys ∧
      R (.ok (.ret (.bool (lexF (decide (items.size < items2.size)) xs ys)))) ⟨hp,g,d,tk,os⟩) _
    case turn =>
      rintro⟨y,x⟩ rest b s' ⟨hb',rfl,us,vs,xs,ys,hz,h1,h2,hR⟩
      cases h1 with
      | nil=>cases hz
      | cons x1 t1 h1 =>
        cases h2 with
        | nil=>cases hz
        | cons y1 u1 h2 =>
          rw[List.zip_cons_cons] at hz
          injection hz with hyx hrest
          injection hyx with e1 e2
          subst e1 e2
          refine wpAny_bind (wpAny_eqBool_str ?_)
          unfold lexF at hR
          by_cases c:x1=y1
          · rw[if_pos c] at hR
            rw[decide_eq_true c]
            wp_walk
            exact⟨rfl,rfl,_,_,_,_,hrest,h1,h2,hR⟩
          · rw[if_neg c] at hR
            rw[decide_eq_false c]
            simp only[Bool.not_false,if_true]
            refine wpAny_bind (wpAny_rule (wpAny_bind (PySem.W.cmp_ofLt (P.lt_str ?_))))
            refine wpAny_bind (wpAny_pure (wpAny_pure (wpAny_pure ⟨_,rfl,?_⟩)))
            exact hR
    case fin =>
      rintro⟨b1,b2⟩ s' ⟨hb',rfl,us,vs,xs,ys,hz,h1,h2,hR⟩
      simp only at hb'
      subst hb'
      have hf:lexF (decide (items.size < items2.size)) xs ys=decide (items.size < items2.size):=by
        cases h1 with
        | nil=>cases h2<;>rfl
        | cons x1 t1 h1 =>
          cases h2 with
          | nil=>rfl
          | cons y1 u1 h2=>cases hz
      rw[hf] at hR
      wp_walk
      exact⟨_,rfl,by simpa [Builtin.Tuple.tupleCompareSizes] using hR⟩
    case h =>
      exact⟨rfl,rfl,_,_,_,_,rfl,he1,he2,h⟩
theorem lt_tupleS {prog:Program} {w:World} {A:Around} {E:Value→Shared→Prop} {s:Shared} {l b:Addr} {items items2:Array Value} {xs ys:List Str} {Q:Value→Shared→Prop} (hl:s.heap.IsTuple l items) (hb:s.heap.IsTuple b items2) (hu:A.units < cLine)
    (h1:StrsAre items.toList xs) (h2:StrsAre items2.toList ys) (h:Q (.bool (lexT xs ys)) s):wpAny (model prog w) A (compareOp .Lt (.ref l) (.ref b)) Q E s:=by
  obtain⟨⟨cls,dd,data,sl⟩,ho,hc,n,hd⟩:=id hl
  obtain⟨⟨cls2,dd2,data2,sl2⟩,ho2,hc2,n2,hd2⟩:=id hb
  simp only at hc hd hc2 hd2
  subst hc hd hc2 hd2
  have e:lexF (decide (items.size < items2.size)) xs ys=lexT xs ys:=by
    rw[← lexF_lexT]
    have l1:items.size=xs.length:=by rw[← Array.length_toList];exact strs_len h1
    have l2:items2.size=ys.length:=by rw[← Array.length_toList];exact strs_len h2
    rw[l1,l2]
  exact richCompare_meets_room (op:=.Lt) ⟨_,ho,rfl⟩ ⟨_,ho2,rfl⟩ F.slot_tuple_lt F.entry_tuple_lt (F.args_tuple_lt_2 _ _) (tuple_ltAt l b items items2 n n2 dd dd2 sl sl2 xs ys)
    ⟨ho,ho2,h1,h2,show Value.bool (lexF (decide (items.size < items2.size)) xs ys)≠Value.notImplemented∧Q (.bool (lexF (decide (items.size < items2.size)) xs ys)) s from ⟨(fun x=>nomatch x),by rw[e];exact h⟩⟩ hu
end PySem.SeqAt
namespace L2
open PySem PySem.Spec PyProof.Rows
section
variable {X:Cx}
noncomputable def rLtS (K:PySem.W.Frag):R2:=fun x y H Q=>∃ (p q:Addr) (xs ys:List Str),x=.ref p∧y=.ref q∧SqT K H p (xs.map V.str)∧SqT K H q (ys.map V.str)∧Q (.bl (lexT xs ys)) H
theorem op_ltS (hu:X.A.units < cLine):OpR X (compareOp .Lt) (rLtS X.K):=by
  intro pins s σ H x y v u Q I rx ry h
  obtain⟨p,q,xs,ys,rfl,rfl,h1,h2,k⟩:=h
  cases rx
  cases ry
  obtain⟨its,r,pl,_⟩:=I.tuple h1
  obtain⟨its',r',pl',_⟩:=I.tuple h2
  exact SeqAt.lt_tupleS pl pl' hu (strsAre_of r) (strsAre_of r') ⟨.bl _,H,I,rfl,k⟩
end
end L2
namespace Ken
open PySem L2
noncomputable def cmpT (a b:Tm):Int:=if a=b then 0 else if lexT a.spell b.spell=true then -1 else 1
noncomputable def lefts (ps:List (Tm×Tm)):List Str:=ps.flatMap fun p=>p.1.spell
noncomputable def rights (ps:List (Tm×Tm)):List Str:=ps.flatMap fun p=>p.2.spell
theorem Zg9 (p:Tm×Tm) (ps:List (Tm×Tm)):lefts (p :: ps)=p.1.spell++lefts ps:=List.flatMap_cons
theorem Zf9 (p:Tm×Tm) (ps:List (Tm×Tm)):rights (p :: ps)=p.2.spell++rights ps:=List.flatMap_cons
theorem Ze6 (x:Str) (A B:List Str):lexT (x :: A) (x :: B)=lexT A B:=by
  show (if x=x then lexT A B else sLt x x)=_
  rw[if_pos rfl]
theorem Zc6 {x y:Str} (h:¬ x=y) (A B:List Str):lexT (x :: A) (y :: B)=sLt x y:=by
  show (if x=y then lexT A B else sLt x y)=_
  rw[if_neg h]
noncomputable def CmpI (a b:Tm) (ps:List (Tm×Tm)):Prop:=lexT a.spell b.spell=lexT (lefts ps) (rights ps)∧(a=b↔lefts ps=rights ps)
theorem CmpI.start (a b:Tm):CmpI a b [(a,b)]:=by
  unfold CmpI
  rw[Zg9,Zf9]
  show lexT a.spell b.spell=lexT (a.spell++[]) (b.spell++[])∧(a=b↔a.spell++[]=b.spell++[])
  rw[List.append_nil,List.append_nil]
  exact⟨rfl,⟨fun e=>by rw[e],spell_inj⟩⟩
theorem CmpI.pair {a b:Tm} {k:Kd} {x y x' y':Tm} {ps:List (Tm×Tm)} (h:CmpI a b ((.nd k x y,.nd k x' y') :: ps)):CmpI a b ((x,x') :: (y,y') :: ps):=by
  unfold CmpI at h ⊢
  rw[Zg9,Zf9,Zc7,Zc7,List.cons_append,List.cons_append,Ze6] at h
  rw[Zg9,Zf9,Zg9,Zf9,← List.append_assoc,← List.append_assoc]
  refine⟨h.1,h.2.trans ⟨fun e=>(List.cons.inj e).2,fun e=>by rw[e]⟩⟩
theorem CmpI.leaf {a b t:Tm} {ps:List (Tm×Tm)} (h:CmpI a b ((t,t) :: ps)):CmpI a b ps:=by
  unfold CmpI at h ⊢
  rw[Zg9,Zf9] at h
  have gen:∀ l:List Str,lexT (l++lefts ps) (l++rights ps)=lexT (lefts ps) (rights ps):=by
    intro l
    induction l with
    | nil=>rfl
    | cons z l ih=>rw[List.cons_append,List.cons_append,Ze6,ih]
  rw[gen] at h
  exact⟨h.1,h.2.trans ⟨fun e=>List.append_cancel_left e,fun e=>by rw[e]⟩⟩
theorem CmpI.done {a b:Tm} (h:CmpI a b []):cmpT a b=0:=by
  unfold cmpT
  rw[if_pos (h.2.mpr rfl)]
theorem CmpI.diff {a b t u:Tm} {x y:Str} {A B:List Str} {ps:List (Tm×Tm)} (h:CmpI a b ((t,u) :: ps)) (ht:t.spell=x :: A) (hu:u.spell=y :: B) (hxy:¬ x=y):cmpT a b=if sLt x y=true then -1 else 1:=by
  unfold CmpI at h
  rw[Zg9,Zf9,ht,hu,List.cons_append,List.cons_append,Zc6 hxy] at h
  unfold cmpT
  rw[if_neg (fun e=>hxy (List.cons.inj (h.2.mp e)).1),h.1]
theorem CmpI.diffW {a b:Tm} {x y:Str} {ps:List (Tm×Tm)} (h:CmpI a b ((.ltr x,.ltr y) :: ps)) (hxy:¬ x=y):cmpT a b=if lexT ["letter",x] ["letter",y]=true then -1 else 1:=by
  unfold CmpI at h
  rw[Zg9,Zf9] at h
  have e1:(Tm.ltr x).spell++lefts ps=("letter":Str) :: x :: lefts ps:=rfl
  have e2:(Tm.ltr y).spell++rights ps=("letter":Str) :: y :: rights ps:=rfl
  rw[e1,e2,Ze6,Zc6 hxy] at h
  unfold cmpT
  rw[if_neg (fun e=>hxy (List.cons.inj (List.cons.inj (h.2.mp e)).2).1),h.1,Ze6,Zc6 hxy]
noncomputable def IsP (K:PySem.W.Frag) (H:Hp) (v:V) (p:Tm×Tm):Prop:=∃ q x y,v=.ref q∧SqT K H q [x,y]∧IsT K H x p.1∧IsT K H y p.2
theorem IsP.keep {K:PySem.W.Frag} {H H':Hp} {v:V} {p:Tm×Tm} (h:IsP K H v p) (k:KeepT K H H'):IsP K H' v p:=by
  obtain⟨q,x,y,e,hs,hx,hy⟩:=h
  exact⟨q,x,y,e,k _ _ hs,hx.keep k,hy.keep k⟩
noncomputable def sp_compared (K:PySem.W.Frag):Sp:=fun vs H Q _=>∃ (v u:V) (a b:Tm),vs=[v,u]∧IsT K H v a∧IsT K H u b∧a.ok∧b.ok∧a.parts≤400∧∀ H',Same H H'→Q (.int (cmpT a b)) H'
end Ken
namespace PySem.SeqAt
open PySem PySem.MeetsSeq L2 PyProof.Rows
noncomputable def LtAt (A:Around) (s:Shared) (y x:Value) (k:Bool):Prop :=
  ∀ (P:Program) (w:World) (E:Value→Shared→Prop) (Q:Value→Shared→Prop),Q (.bool k) s→wpAny (model P w) A (compareOp .Lt y x) Q E s
inductive LexAt (A:Around) (s:Shared) (d:Bool):List Value→List Value→Bool→Prop
  | one (us:List Value):LexAt A s d us [] d
  | two (us:List Value):LexAt A s d [] us d
  | same {u v:Value} {us vs:List Value} {r:Bool} (h:EqAt A.in1 s u v true) (t:LexAt A s d us vs r):LexAt A s d (u :: us) (v :: vs) r
  | diff {u v:Value} {us vs:List Value} {r:Bool} (h:EqAt A.in1 s u v false) (t:LtAt A.in1 s u v r):LexAt A s d (u :: us) (v :: vs) r
theorem tuple_ltG (l b:Addr) (items items2:Array Value) (n n2:Nat) (dd dd2:Option Addr) (sl sl2:Array (Option Value)) (k:Bool) :
    Meets (Builtin.«tuple.__lt__» ⟨[.ref l,.ref b],[]⟩)
      (fun A R s=>s.heap.get? l=some { cls:=.type "tuple",dict:=dd,data:=.seq items n,slots:=sl }∧s.heap.get? b=some { cls:=.type "tuple",dict:=dd2,data:=.seq items2 n2,slots:=sl2 } ∧
        LexAt A s (decide (items.size < items2.size)) items.toList items2.toList k∧R (.ok (.ret (.bool k))) s) :=
  .of_wp fun prog w A R s h=>by
    obtain⟨hp,g,d,tk,os⟩:=s;obtain⟨hl,hb,he,h⟩:=h
    have f2:=AutoSeq1.sub_tuple_tuple
    wp_walk using wpAny_loadPart' hl,wpAny_loadPart' hb,wpAny_forIn_list _ (fun rest b s'=>b.1=none∧s'=⟨hp,g,d,tk,os⟩∧∃ us vs,rest=List.zip us vs∧LexAt A ⟨hp,g,d,tk,os⟩ (decide (items.size < items2.size)) us vs k) _
    case turn =>
      rintro⟨y,x⟩ rest b s' ⟨hb',rfl,us,vs,hz,hx⟩
      cases hx with
      | one us=>rw[List.zip_nil_right] at hz;cases hz
      | two us=>rw[List.zip_nil_left] at hz;cases hz
      | same h1 t =>
        rw[List.zip_cons_cons] at hz
        injection hz with hyx hrest
        injection hyx with e1 e2
        subst e1 e2
        refine wpAny_bind (h1 _ _ _ _ ?_)
        wp_walk
        exact⟨rfl,rfl,_,_,hrest,t⟩
      | diff h1 t =>
        rw[List.zip_cons_cons] at hz
        injection hz with hyx hrest
        injection hyx with e1 e2
        subst e1 e2
        refine wpAny_bind (h1 _ _ _ _ ?_)
        simp only[Bool.not_false,if_true]
        refine wpAny_bind (wpAny_rule (wpAny_bind (t _ _ _ _ ?_)))
        refine wpAny_bind (wpAny_pure (wpAny_pure (wpAny_pure ⟨_,rfl,?_⟩)))
        exact h
    case fin =>
      rintro⟨b1,b2⟩ s' ⟨hb',rfl,us,vs,hz,hx⟩
      simp only at hb'
      subst hb'
      have hf:k=decide (items.size < items2.size):=by
        cases hx with
        | one us=>rfl
        | two us=>rfl
        | same h1 t=>cases hz
        | diff h1 t=>cases hz
      rw[hf] at h
      wp_walk
      exact⟨_,rfl,by simpa [Builtin.Tuple.tupleCompareSizes] using h⟩
    case h=>exact⟨rfl,rfl,_,_,rfl,he⟩
theorem lt_tupleG {A:Around} {s:Shared} {l b:Addr} {items items2:Array Value} {k:Bool} (hl:s.heap.IsTuple l items) (hb:s.heap.IsTuple b items2) (hu:A.units < cLine)
    (he:LexAt A s (decide (items.size < items2.size)) items.toList items2.toList k):LtAt A s (.ref l) (.ref b) k:=fun P w E Q h=>by
  obtain⟨⟨cls,dd,data,sl⟩,ho,hc,n,hd⟩:=id hl
  obtain⟨⟨cls2,dd2,data2,sl2⟩,ho2,hc2,n2,hd2⟩:=id hb
  simp only at hc hd hc2 hd2
  subst hc hd hc2 hd2
  exact richCompare_meets_room (op:=.Lt) ⟨_,ho,rfl⟩ ⟨_,ho2,rfl⟩ F.slot_tuple_lt F.entry_tuple_lt (F.args_tuple_lt_2 _ _) (tuple_ltG l b items items2 n n2 dd dd2 sl sl2 k)
    ⟨ho,ho2,he,show Value.bool k≠Value.notImplemented∧Q (.bool k) s from ⟨(fun x=>nomatch x),h⟩⟩ hu
theorem lt_texts {A:Around} {s:Shared} {x y:Str} {t u:Tok}:LtAt A s (.str x t) (.str y u) (sLt x y):=fun _ _ _ _ h=>PySem.W.cmp_ofLt (P.lt_str h)
theorem eq_texts {A:Around} {s:Shared} {x y:Str} {t u:Tok}:EqAt A s (.str x t) (.str y u) (decide (x=y)):=fun P w E Q h=>wpAny_eqBool_str h
end PySem.SeqAt
namespace Ken
open PySem L2 PySem.SeqAt
theorem lexT_app (l:List Str) (A B:List Str):lexT (l++A) (l++B)=lexT A B:=by
  induction l with
  | nil=>rfl
  | cons z l ih=>rw[List.cons_append,List.cons_append,Ze6,ih]
theorem kd_low (k:Kd):¬ k.str=("low":Str):=by cases k<;>decide
theorem kd_ltr (k:Kd):¬ k.str=("letter":Str):=by cases k<;>decide
theorem lexT_pre:∀ {a b:Tm} (A B:List Str),a≠b→lexT (a.spell++A) (b.spell++B)=lexT a.spell b.spell
  | .low,.low,A,B,h=>absurd rfl h
  | .low,.ltr y,A,B,h=>by show lexT ("low" :: _) ("letter" :: _)=lexT ("low" :: _) ("letter" :: _);rw[Zc6 (by decide),Zc6 (by decide)]
  | .low,.nd k c d,A,B,h=>by
    rw[Zc7]
    show lexT ("low" :: _) (k.str :: _)=lexT ("low" :: _) (k.str :: _)
    rw[Zc6 (Ne.symm (kd_low k)),Zc6 (Ne.symm (kd_low k))]
  | .ltr x,.low,A,B,h=>by show lexT ("letter" :: _) ("low" :: _)=lexT ("letter" :: _) ("low" :: _);rw[Zc6 (by decide),Zc6 (by decide)]
  | .ltr x,.ltr y,A,B,h=>by
    have hxy:¬ x=y:=fun z=>h (by rw[z])
    show lexT ("letter" :: x :: _) ("letter" :: y :: _)=lexT ("letter" :: x :: _) ("letter" :: y :: _)
    rw[Ze6,Ze6,Zc6 hxy,Zc6 hxy]
  | .ltr x,.nd k c d,A,B,h=>by
    rw[Zc7]
    show lexT ("letter" :: _) (k.str :: _)=lexT ("letter" :: _) (k.str :: _)
    rw[Zc6 (Ne.symm (kd_ltr k)),Zc6 (Ne.symm (kd_ltr k))]
  | .nd k a b,.low,A,B,h=>by
    rw[Zc7]
    show lexT (k.str :: _) ("low" :: _)=lexT (k.str :: _) ("low" :: _)
    rw[Zc6 (kd_low k),Zc6 (kd_low k)]
  | .nd k a b,.ltr y,A,B,h=>by
    rw[Zc7]
    show lexT (k.str :: _) ("letter" :: _)=lexT (k.str :: _) ("letter" :: _)
    rw[Zc6 (kd_ltr k),Zc6 (kd_ltr k)]
  | .nd k a b,.nd k' c d,A,B,h=>by
    rw[Zc7,Zc7,List.cons_append,List.cons_append]
    by_cases hk:k.str=k'.str
    · rw[hk,Ze6,Ze6,List.append_assoc,List.append_assoc]
      by_cases hac:a=c
      · subst hac
        have hbd:b≠d:=fun z=>h (by rw[z,Kd.str_inj hk])
        rw[lexT_app,lexT_app,lexT_pre A B hbd]
      · rw[lexT_pre _ _ hac,lexT_pre _ _ hac]
    · rw[Zc6 hk,Zc6 hk]
section
variable {X:Cx} {pins:List (Addr×Obj)} {σ:St} {H:Hp} {s:Shared}
theorem eq_tm (I:Inv X pins σ H s) {a b:Tm} {va vb:V} {ua ub:Value} {A:Around} (ha:IsT X.K H va a) (hb:IsT X.K H vb b) (ra:RelV va ua) (rb:RelV vb ub) (oa:a.ok) (ob:b.ok) (hu:A.units+a.deep < cLine):EqAt A s ua ub (decide (a=b)):=by
  obtain⟨p1,_,z1,_⟩:=isT_tup ha
  obtain⟨p2,_,z2,_⟩:=isT_tup hb
  rw[z1] at ra ha
  rw[z2] at rb hb
  have y1:ua=.ref p1:=ra
  have y2:ub=.ref p2:=rb
  subst y1 y2
  by_cases h:p1=p2
  · subst h
    rw[decide_eq_true (isT_inj I ha hb)]
    exact EqAt.same _
  · obtain⟨as,q1⟩:=Dn.reads I ha (show RelV (.ref p1) (.ref p1) from rfl)
    obtain⟨bs,q2⟩:=Dn.reads I hb (show RelV (.ref p2) (.ref p2) from rfl)
    rw[← Tm.eqv]
    have dm:min a.data.depth b.data.depth≤a.deep:=by rw[Tm.depth,Tm.depth];omega
    exact EqAt.of_refs h (rcAt_reads q1 q2 (a.lay oa) (b.lay ob) (by omega))
theorem lt_tm (I:Inv X pins σ H s):∀ {a b:Tm} {va vb:V} {ua ub:Value} {A:Around},IsT X.K H va a→IsT X.K H vb b→RelV va ua→RelV vb ub→a.ok→b.ok→a≠b→A.units+a.deep+2 < cLine→LtAt A s ua ub (lexT a.spell b.spell)
  | a,b,va,vb,ua,ub,A,ha,hb,ra,rb,oa,ob,hne,hu=>by
    have fst:∀ {p q:Addr} {x y:Str} {xs ys:List V},SqT X.K H p (.str x :: xs)→SqT X.K H q (.str y :: ys)→¬ x=y→LtAt A s (.ref p) (.ref q) (sLt x y):=fun {p q x y xs ys} h1 h2 hxy=>by
      obtain⟨its,r,pl,_⟩:=I.tuple h1
      obtain⟨its',r',pl',_⟩:=I.tuple h2
      refine lt_tupleG pl pl' (by omega) ?_
      cases r with
      | cons r0 rr =>
        cases r' with
        | cons r0' rr' =>
          obtain⟨t,rfl⟩:=r0
          obtain⟨t',rfl⟩:=r0'
          have e:=eq_texts (A:=A.in1) (s:=s) (x:=x) (y:=y) (t:=t) (u:=t')
          rw[decide_eq_false hxy] at e
          exact .diff e lt_texts
    match a,b,ha,hb,oa,ob,hne,hu with
    | .low,.low,_,_,_,_,hne,_=>exact absurd rfl hne
    | .low,.ltr y,ha,hb,oa,ob,hne,hu =>
      obtain⟨p,rfl,hs⟩:=isT_low.mp ha
      obtain⟨q,rfl,hs'⟩:=isT_ltr.mp hb
      cases ra;cases rb
      have:=fst hs hs' (by decide)
      rw[show lexT (Tm.low).spell (Tm.ltr y).spell=sLt "low" "letter" from Zc6 (by decide) _ _]
      exact this
    | .low,.nd k c d,ha,hb,oa,ob,hne,hu =>
      obtain⟨p,rfl,hs⟩:=isT_low.mp ha
      obtain⟨q,_,_,rfl,hs',_,_⟩:=isT_nd.mp hb
      cases ra;cases rb
      have:=fst hs hs' (Ne.symm (kd_low k))
      rw[Zc7,show lexT (Tm.low).spell (k.str :: (c.spell++d.spell))=sLt "low" k.str from Zc6 (Ne.symm (kd_low k)) _ _]
      exact this
    | .ltr x,.low,ha,hb,oa,ob,hne,hu =>
      obtain⟨p,rfl,hs⟩:=isT_ltr.mp ha
      obtain⟨q,rfl,hs'⟩:=isT_low.mp hb
      cases ra;cases rb
      have:=fst hs hs' (by decide)
      rw[show lexT (Tm.ltr x).spell (Tm.low).spell=sLt "letter" "low" from Zc6 (by decide) _ _]
      exact this
    | .ltr x,.nd k c d,ha,hb,oa,ob,hne,hu =>
      obtain⟨p,rfl,hs⟩:=isT_ltr.mp ha
      obtain⟨q,_,_,rfl,hs',_,_⟩:=isT_nd.mp hb
      cases ra;cases rb
      have:=fst hs hs' (Ne.symm (kd_ltr k))
      rw[Zc7,show lexT (Tm.ltr x).spell (k.str :: (c.spell++d.spell))=sLt "letter" k.str from Zc6 (Ne.symm (kd_ltr k)) _ _]
      exact this
    | .nd k c d,.low,ha,hb,oa,ob,hne,hu =>
      obtain⟨p,_,_,rfl,hs,_,_⟩:=isT_nd.mp ha
      obtain⟨q,rfl,hs'⟩:=isT_low.mp hb
      cases ra;cases rb
      have:=fst hs hs' (kd_low k)
      rw[Zc7,show lexT (k.str :: (c.spell++d.spell)) (Tm.low).spell=sLt k.str "low" from Zc6 (kd_low k) _ _]
      exact this
    | .nd k c d,.ltr y,ha,hb,oa,ob,hne,hu =>
      obtain⟨p,_,_,rfl,hs,_,_⟩:=isT_nd.mp ha
      obtain⟨q,rfl,hs'⟩:=isT_ltr.mp hb
      cases ra;cases rb
      have:=fst hs hs' (kd_ltr k)
      rw[Zc7,show lexT (k.str :: (c.spell++d.spell)) (Tm.ltr y).spell=sLt k.str "letter" from Zc6 (kd_ltr k) _ _]
      exact this
    | .ltr x,.ltr y,ha,hb,oa,ob,hne,hu =>
      obtain⟨p,rfl,hs⟩:=isT_ltr.mp ha
      obtain⟨q,rfl,hs'⟩:=isT_ltr.mp hb
      cases ra;cases rb
      have hxy:¬ x=y:=fun z=>hne (by rw[z])
      obtain⟨its,r,pl,_⟩:=I.tuple hs
      obtain⟨its',r',pl',_⟩:=I.tuple hs'
      refine lt_tupleG pl pl' (by omega) ?_
      rw[show lexT (Tm.ltr x).spell (Tm.ltr y).spell=sLt x y from (Ze6 _ _ _).trans (Zc6 hxy _ _)]
      cases r with
      | cons r0 rr =>
        cases r' with
        | cons r0' rr' =>
          cases rr with
          | cons r1 rr =>
            cases rr' with
            | cons r1' rr' =>
              obtain⟨t,rfl⟩:=r0
              obtain⟨t',rfl⟩:=r0'
              obtain⟨t1,rfl⟩:=r1
              obtain⟨t1',rfl⟩:=r1'
              have e0:=eq_texts (A:=A.in1) (s:=s) (x:="letter") (y:="letter") (t:=t) (u:=t')
              have e:=eq_texts (A:=A.in1) (s:=s) (x:=x) (y:=y) (t:=t1) (u:=t1')
              rw[decide_eq_true rfl] at e0
              rw[decide_eq_false hxy] at e
              exact .same e0 (.diff e lt_texts)
    | .nd k a1 b1,.nd k' a2 b2,ha,hb,oa,ob,hne,hu =>
      obtain⟨p,vx,vy,rfl,hs,hx,hy⟩:=isT_nd.mp ha
      obtain⟨q,vx',vy',rfl,hs',hx',hy'⟩:=isT_nd.mp hb
      cases ra;cases rb
      have du:(Tm.nd k a1 b1).deep=1+max a1.deep b1.deep:=rfl
      have iu:A.in1.units=A.units+1:=rfl
      by_cases hk:k.str=k'.str
      · obtain⟨its,r,pl,_⟩:=I.tuple hs
        obtain⟨its',r',pl',_⟩:=I.tuple hs'
        refine lt_tupleG pl pl' (by omega) ?_
        rw[Zc7,Zc7,hk,Ze6]
        cases r with
        | cons r0 rr =>
          cases r' with
          | cons r0' rr' =>
            cases rr with
            | cons r1 rr =>
              cases rr' with
              | cons r1' rr' =>
                cases rr with
                | cons r2 rr =>
                  cases rr' with
                  | cons r2' rr' =>
                    obtain⟨t,rfl⟩:=r0
                    obtain⟨t',rfl⟩:=r0'
                    have e0:=eq_texts (A:=A.in1) (s:=s) (x:=k.str) (y:=k'.str) (t:=t) (u:=t')
                    rw[decide_eq_true hk] at e0
                    refine .same e0 ?_
                    have e1:=eq_tm (A:=A.in1) I hx hx' r1 r1' oa.1 ob.1 (by omega)
                    by_cases hac:a1=a2
                    · rw[decide_eq_true hac] at e1
                      refine .same e1 ?_
                      have hbd:b1≠b2:=fun z=>hne (by rw[z,hac,Kd.str_inj hk])
                      have e2:=eq_tm (A:=A.in1) I hy hy' r2 r2' oa.2 ob.2 (by omega)
                      rw[decide_eq_false hbd] at e2
                      rw[hac,lexT_app]
                      exact .diff e2 (lt_tm I hy hy' r2 r2' oa.2 ob.2 hbd (by omega))
                    · rw[decide_eq_false hac] at e1
                      rw[lexT_pre _ _ hac]
                      exact .diff e1 (lt_tm I hx hx' r1 r1' oa.1 ob.1 hac (by omega))
      · have:=fst hs hs' hk
        rw[Zc7,Zc7,Zc6 hk]
        exact this
termination_by a=>a
end
end Ken
namespace L2
open PySem PySem.Spec PyProof.Rows
end L2
namespace Ken
open PySem L2 PyProof.Rows PySem.SeqAt
section
variable {X:Cx}
theorem katLex_tm {pins:List (Addr×Obj)} {σ:L2.St} {H:Hp} {s:Shared} {A:Around} (I:Inv X pins σ H s) {a b:Tm} {p q:Addr} (ha:IsT X.K H (.ref p) a) (hb:IsT X.K H (.ref q) b) (oa:a.ok) (ob:b.ok) (hu:A.units+a.deep+4 < cLine) {Q:Bool→Shared→Prop} (hq:Q (lexT a.spell b.spell) s) :
    ∃ ox oy xs ys n k,s.heap.get? p=some ox∧ox.data=.seq xs n∧s.heap.get? q=some oy∧oy.data=.seq ys k∧W.KatLex X.prog X.w A true (decide (xs.size < ys.size)) Q (xs.toList.zip ys.toList) 0 s:=by
  have irrT:∀ l:List Str,lexT l l=false:=fun l=>by
    cases e:lexT l l with
    | false=>rfl
    | true=>have:=lexT_asym e;rw[e] at this;exact this
  have opn:∀ {p:Addr} {xs:List V},SqT X.K H p xs→∃ its o n,Vals xs its∧s.heap.get? p=some o∧o.data=.seq its.toArray n:=fun {p xs} h=>by
    obtain⟨its,r,⟨o,h1,h2,n,h3⟩,_⟩:=I.tuple h
    exact⟨its,o,n,r,h1,h3⟩
  have heads:∀ {x y:Str} {xs ys:List V} {us vs:List Value} {fin:Bool},Vals (.str x :: xs) us→Vals (.str y :: ys) vs→(¬ x=y→Q (sLt x y) s)→(x=y→∀ (us' vs':List Value),Vals xs us'→Vals ys vs'→W.KatLex X.prog X.w A true fin Q (us'.zip vs') 1 s)→W.KatLex X.prog X.w A true fin Q (us.zip vs) 0 s:=fun {x y xs ys us vs fin} r1 r2 h1 h2=>by
    cases r1 with
    | cons a1 t1 =>
      cases r2 with
      | cons a2 t2 =>
        obtain⟨tx,rfl⟩:=a1
        obtain⟨ty,rfl⟩:=a2
        refine W.kat_cons (wpAny_eqBool_str ?_)
        refine W.kat_go (fun e=>W.kat_yes (h2 (of_decide_eq_true e) _ _ t1 t2)) (fun e=>W.kat_no ?_)
        exact oneLt_str (h1 (of_decide_eq_false e))
  have done:∀ {x y:Str} {xs ys:List V} {us vs:List Value} {fin:Bool} {A1 B1:List Str},a.spell=x :: A1→b.spell=y :: B1→¬ x=y→Vals (.str x :: xs) us→Vals (.str y :: ys) vs→W.KatLex X.prog X.w A true fin Q (us.zip vs) 0 s:=fun {x y xs ys us vs fin A1 B1} e1 e2 hxy r1 r2=>by
    refine heads r1 r2 (fun _=>?_) (fun z=>absurd z hxy)
    rw[e1,e2,Zc6 hxy] at hq
    exact hq
  cases a with
  | low =>
    obtain⟨p',e1,hs1⟩:=isT_low.mp ha
    cases e1
    obtain⟨its1,o1,n1,r1,g1,g2⟩:=opn hs1
    cases b with
    | low =>
      obtain⟨q',e2,hs2⟩:=isT_low.mp hb
      cases e2
      obtain⟨its2,o2,n2,r2,k1,k2⟩:=opn hs2
      refine⟨o1,o2,_,_,n1,n2,g1,g2,k1,k2,?_⟩
      refine heads r1 r2 (fun z=>absurd rfl z) (fun _ us' vs' t1 t2=>?_)
      cases t1;cases t2
      refine W.kat_nil ?_
      have l1:=r1.length
      have l2:=r2.length
      have:decide (its1.toArray.size < its2.toArray.size)=false:=decide_eq_false (by simp at l1 l2 ⊢;omega)
      rw[this]
      rw[irrT] at hq
      exact hq
    | ltr y =>
      obtain⟨q',e2,hs2⟩:=isT_ltr.mp hb
      cases e2
      obtain⟨its2,o2,n2,r2,k1,k2⟩:=opn hs2
      exact⟨o1,o2,_,_,n1,n2,g1,g2,k1,k2,by simpa using done (fin:=_) (A1:=[]) (B1:=[y]) rfl rfl (by decide) r1 r2⟩
    | nd k c d =>
      obtain⟨q',vx,vy,e2,hs2,_⟩:=isT_nd.mp hb
      cases e2
      obtain⟨its2,o2,n2,r2,k1,k2⟩:=opn hs2
      exact⟨o1,o2,_,_,n1,n2,g1,g2,k1,k2,by simpa using done (fin:=_) (A1:=[]) rfl (Zc7 k c d) (fun z=>kd_low k z.symm) r1 r2⟩
  | ltr x =>
    obtain⟨p',e1,hs1⟩:=isT_ltr.mp ha
    cases e1
    obtain⟨its1,o1,n1,r1,g1,g2⟩:=opn hs1
    cases b with
    | low =>
      obtain⟨q',e2,hs2⟩:=isT_low.mp hb
      cases e2
      obtain⟨its2,o2,n2,r2,k1,k2⟩:=opn hs2
      exact⟨o1,o2,_,_,n1,n2,g1,g2,k1,k2,by simpa using done (fin:=_) (A1:=[x]) (B1:=[]) rfl rfl (by decide) r1 r2⟩
    | ltr y =>
      obtain⟨q',e2,hs2⟩:=isT_ltr.mp hb
      cases e2
      obtain⟨its2,o2,n2,r2,k1,k2⟩:=opn hs2
      refine⟨o1,o2,_,_,n1,n2,g1,g2,k1,k2,?_⟩
      have l1:=r1.length
      have l2:=r2.length
      have hf:decide (its1.toArray.size < its2.toArray.size)=false:=decide_eq_false (by simp at l1 l2 ⊢;omega)
      rw[hf]
      refine heads r1 r2 (fun z=>absurd rfl z) (fun _ us' vs' t1 t2=>?_)
      cases t1 with
      | cons a1 u1 =>
        cases t2 with
        | cons a2 u2 =>
          obtain⟨tx,rfl⟩:=a1
          obtain⟨ty,rfl⟩:=a2
          cases u1;cases u2
          have e0:lexT (Tm.ltr x).spell (Tm.ltr y).spell=lexT [x] [y]:=Ze6 "letter" [x] [y]
          rw[e0] at hq
          refine W.kat_cons (wpAny_eqBool_str ?_)
          refine W.kat_go (fun e=>W.kat_yes (W.kat_nil ?_)) (fun e=>W.kat_no ?_)
          · have:=of_decide_eq_true e
            rw[this,irrT] at hq;exact hq
          · rw[Zc6 (of_decide_eq_false e)] at hq
            exact W.kat_one _ _ (P.lt_str hq)
    | nd k c d =>
      obtain⟨q',vx,vy,e2,hs2,_⟩:=isT_nd.mp hb
      cases e2
      obtain⟨its2,o2,n2,r2,k1,k2⟩:=opn hs2
      exact⟨o1,o2,_,_,n1,n2,g1,g2,k1,k2,by simpa using done (fin:=_) (A1:=[x]) rfl (Zc7 k c d) (fun z=>kd_ltr k z.symm) r1 r2⟩
  | nd k c d =>
    obtain⟨p',vx,vy,e1,hs1,hx1,hy1⟩:=isT_nd.mp ha
    cases e1
    obtain⟨its1,o1,n1,r1,g1,g2⟩:=opn hs1
    cases b with
    | low =>
      obtain⟨q',e2,hs2⟩:=isT_low.mp hb
      cases e2
      obtain⟨its2,o2,n2,r2,k1,k2⟩:=opn hs2
      exact⟨o1,o2,_,_,n1,n2,g1,g2,k1,k2,by simpa using done (fin:=_) (B1:=[]) (Zc7 k c d) rfl (kd_low k) r1 r2⟩
    | ltr y =>
      obtain⟨q',e2,hs2⟩:=isT_ltr.mp hb
      cases e2
      obtain⟨its2,o2,n2,r2,k1,k2⟩:=opn hs2
      exact⟨o1,o2,_,_,n1,n2,g1,g2,k1,k2,by simpa using done (fin:=_) (B1:=[y]) (Zc7 k c d) rfl (kd_ltr k) r1 r2⟩
    | nd k' c' d' =>
      obtain⟨q',wx,wy,e2,hs2,hx2,hy2⟩:=isT_nd.mp hb
      cases e2
      obtain⟨its2,o2,n2,r2,k1,k2⟩:=opn hs2
      refine⟨o1,o2,_,_,n1,n2,g1,g2,k1,k2,?_⟩
      have l1:=r1.length
      have l2:=r2.length
      have hf:decide (its1.toArray.size < its2.toArray.size)=false:=decide_eq_false (by simp at l1 l2 ⊢;omega)
      rw[hf]
      have dp:(Tm.nd k c d).deep=1+max c.deep d.deep:=rfl
      refine heads r1 r2 (fun z=>?_) (fun ek us' vs' t1 t2=>?_)
      · rw[Zc7,Zc7,Zc6 z] at hq
        exact hq
      · have ek':k=k':=by cases k<;>cases k'<;>first | rfl | (exact absurd ek (by decide))
        subst ek'
        rw[Zc7,Zc7,Ze6] at hq
        cases t1 with
        | cons a1 u1 =>
          cases t2 with
          | cons a2 u2 =>
            refine W.kat_cons (eq_tm I hx1 hx2 a1 a2 oa.1 ob.1 (by omega) X.prog X.w _ _ ?_)
            refine W.kat_go (fun e=>W.kat_yes ?_) (fun e=>W.kat_no (W.kat_one _ _ ?_))
            · have ec:c=c':=of_decide_eq_true e
              subst ec
              rw[lexT_app] at hq
              cases u1 with
              | cons a3 u3 =>
                cases u2 with
                | cons a4 u4 =>
                  cases u3;cases u4
                  refine W.kat_cons (eq_tm I hy1 hy2 a3 a4 oa.2 ob.2 (by omega) X.prog X.w _ _ ?_)
                  refine W.kat_go (fun e=>W.kat_yes (W.kat_nil ?_)) (fun e=>W.kat_no (W.kat_one _ _ ?_))
                  · have ed:d=d':=of_decide_eq_true e
                    subst ed
                    rw[irrT] at hq;exact hq
                  · exact lt_tm I hy1 hy2 a3 a4 oa.2 ob.2 (of_decide_eq_false e) (by omega) X.prog X.w _ _ hq
            · have hne:c≠c':=of_decide_eq_false e
              rw[lexT_pre _ _ hne] at hq
              exact lt_tm I hx1 hx2 a1 a2 oa.1 ob.1 hne (by omega) X.prog X.w _ _ hq
theorem isT_first {K:PySem.W.Frag} {H:Hp} {v:V} {t:Tm} (h:IsT K H v t):∃ p x xs,v=.ref p∧SqT K H p (.str x :: xs):=by
  cases t with
  | low=>obtain⟨p,e,hs⟩:=isT_low.mp h;exact⟨p,_,_,e,hs⟩
  | ltr y=>obtain⟨p,e,hs⟩:=isT_ltr.mp h;exact⟨p,_,_,e,hs⟩
  | nd k a b=>obtain⟨p,x,y,e,hs,_⟩:=isT_nd.mp h;exact⟨p,_,_,e,hs⟩
theorem katTups_tm {pins:List (Addr×Obj)} {σ:L2.St} {H:Hp} {s:Shared} (I:Inv X pins σ H s):∀ {us:List V} {ts:List Tm} {vs:List Value},Paired (IsT X.K H) us ts→Vals us vs→∃ fs,W.KatTups s.heap vs fs∧fs.length=vs.length∧∀ v∈fs,∃ x t,v=.str x t
  | _,_,_,.nil,.nil=>⟨[],W.KatTups.nil,rfl,by simp⟩
  | _,_,_,.cons hv t,.cons r rr=>by
    obtain⟨p,x,xs,rfl,hs⟩:=isT_first hv
    cases r
    obtain⟨its,rv,⟨o,h1,h2,n,h3⟩,_⟩:=I.tuple hs
    obtain⟨fs,g1,g2,g3⟩:=katTups_tm I t rr
    cases rv with
    | cons a1 t1 =>
      obtain⟨tk,rfl⟩:=a1
      refine⟨.str x tk :: fs,W.KatTups.cons h1 h2 h3 (by simp) g1,by rw[List.length_cons,List.length_cons,g2],fun v hv=>?_⟩
      rcases List.mem_cons.mp hv with rfl | hv
      · exact⟨_,_,rfl⟩
      · exact g3 v hv
theorem getD_val {us:List V} {vs:List Value} (h:Vals us vs) {i:Nat} (hi:i < us.length):RelV (us.getD i .non) (vs.getD i .none):=by
  obtain⟨u,hu,r⟩:=h.get (List.getElem?_eq_getElem hi)
  have e1:us.getD i .non=us[i]:=by simp[hi]
  have e2:vs.getD i .none=u:=by simp[hu]
  rw[e1,e2];exact r
theorem call_sortedM (hc:X.calm=true) (hu:X.A.units+150 < cLine):CallR X (.builtin "sorted") (fun xs H Q=>∃ (a:Addr) (us:List V) (ts:List Tm),xs=[.ref a]∧H a=some (.lst us)∧Paired (IsT X.K H) us ts∧(∀ t∈ts,t.ok∧t.deep≤100)∧ts.length < 64 ∧
    ∀ (l:Addr) (ws:List V) (os:List Tm),H l=none→Paired (IsT X.K H) ws os→List.Perm os ts→os.Pairwise (fun a b=>lexT b.spell a.spell=false)→Q (.ref l) (upd H l (.lst ws))):=by
  intro pins s σ H xs us0 Q I r h
  obtain⟨a,us,ts,rfl,ha,hT,hok,h64,q⟩:=h
  obtain⟨u,rfl,ru⟩:=vals1 r
  cases ru
  have lu:=Paired.length hT
  obtain⟨hz,vs,n0,rv,ho⟩:ObjOk X.prog X.w H s.heap a (.lst us):=I.hok a _ ha
  have lv:=rv.length
  obtain⟨m,hm,hloc⟩:=I.loc
  have haL:a≠X.env.locals:=Zb1 ha I.free
  have hl:s.heap.IsList a vs.toArray:=⟨_,ho,rfl,_,rfl⟩
  have small:∀ (h2:Heap) (D c:Nat) (tk:Nat) (ws:List V) (os:List Tm) (vs2:List Value),(∀ b ob,b≠X.env.locals→s.heap.get? b=some ob→h2.get? b=some ob)→h2.Ns X.env.locals m→s.heap.get? D=none→h2.get? D=some (W.listOf vs2.toArray c)→Vals ws vs2→ws.length=us.length→Paired (IsT X.K H) ws os→List.Perm os ts→os.Pairwise (fun a b=>lexT b.spell a.spell=false)→EP X pins σ Q (.ref D) { s with heap:=h2,toks:=tk }:=by
    intro h2 D c tk ws os vs2 hk2 hn2 hsD hg2 hv hwl hp hpm hpw
    have lw:ws.length≤sizeLine:=Nat.le_trans (show ws.length≤64 by omega) (by decide)
    obtain⟨I2,hHD⟩:=inv_new (o0:=.lst ws) (tk:=tk) I hm hk2 hn2 hsD ⟨lw,_,c,hv,hg2⟩
    exact⟨.ref D,_,I2,rfl,q D ws os hHD hp hpm hpw⟩
  by_cases h2:vs.length < 2
  ·
    refine Calls.call_function_entry kind_sorted plain_sorted entry_sorted (args_sorted1 (.ref a)) ?_
    show wpAny _ _ (pure () >>= _) _ _ _
    have hs64:vs.length≤sizeLine:=by rw[← lv,lu];exact Nat.le_trans (Nat.le_of_lt h64) (by decide)
    refine wpAny_bind (wpAny_pure (wpAny_bind (collect_list hl ?_ hs64)))
    generalize hA:((s.heap.push (seqObj "list" #[] 0)).update s.heap.objs.size (Obj.mapSeq fun x=>x++vs.toArray))=hB
    have kB:∀ b ob,s.heap.get? b=some ob→hB.get? b=some ob:=fun b ob e=>by
      rw[← hA,Heap.get?_update_other _ _ (Ne.symm (Nat.ne_of_lt (Heap.lt_size e)))]
      exact Heap.get?_push_of_some _ e
    have sB:s.heap.objs.size < hB.objs.size:=by
      rw[← hA,Heap.size_update,Heap.size_push]
      exact Nat.lt_succ_self _
    refine wpAny_bind (wpAny_newList ?_ hs64)
    have hoL:(hB.push (seqObj "list" vs.toArray 0)).get? hB.objs.size=some (seqObj "list" vs.toArray 0):=Heap.get?_push_size _ rfl
    refine wpAny_bind (wpAny_holding (sort_small h2 hoL ?_))
    obtain⟨e1,he1⟩:=sortedHeap_at (out:=vs.toArray) hoL
    have old:∀ b ob,s.heap.get? b=some ob→(sortedHeap (hB.push (seqObj "list" vs.toArray 0)) hB.objs.size vs vs.toArray).get? b=some ob:=fun b ob e=>by
      have hb:=kB b ob e
      rw[sortedHeap_old (Nat.ne_of_lt (Heap.lt_size hb)) (by rw[Heap.size_push];exact Nat.lt_succ_of_lt (Heap.lt_size hb))]
      exact Heap.get?_push_of_some _ hb
    refine wpAny_pure ⟨_,rfl,?_⟩
    have hsD:s.heap.get? hB.objs.size=none:=by
      cases e:s.heap.get? hB.objs.size with
      | none=>rfl
      | some ob=>exact absurd (Heap.lt_size e) (Nat.not_lt.mpr (Nat.le_of_lt sB))
    refine small _ hB.objs.size e1 s.toks us ts vs (fun b ob _ e=>old b ob e) ?_ hsD he1 rv rfl hT (List.Perm.refl _) ?_
    · obtain⟨o',es',ep',q1,q2⟩:=hm
      exact⟨o',es',ep',old _ _ q1,q2⟩
    · have l2:ts.length < 2:=by omega
      cases ts with
      | nil=>exact .nil
      | cons x l =>
        cases l with
        | nil=>exact List.pairwise_singleton _ _
        | cons y l=>exact absurd l2 (by rw[List.length_cons,List.length_cons];omega)
  · have N0:=Att.news_ledger (L:=X.env.locals) haL ho
    have inN:∀ b ob,b≠X.env.locals→s.heap.get? b=some ob→(b,ob)∈([]++(a,({ cls:=.type "list",data:=.seq vs.toArray n0 }:Obj)) :: Att.ledger s.heap X.env.locals a):=fun b ob hb e=>by
      by_cases hba:b=a
      · subst hba;rw[ho] at e;cases e;exact List.mem_cons_self
      · exact List.mem_cons_of_mem _ (Att.mem_ledger.mpr ⟨hb,hba,e⟩)
    refine W.kat_sorted (Att.fr_all hm) N0 hl (by omega) (by omega) fun D e1 h' F' N' hlow=>?_
    have hDL:D≠X.env.locals:=(N' _ List.mem_cons_self).2.1
    have hgD:h'.get? D=some (seqObj "list" #[] e1):=(N' _ List.mem_cons_self).1
    have hsD:s.heap.get? D=none:=by
      cases e:s.heap.get? D with
      | none=>rfl
      | some ob=>exact absurd (hlow _ (inN D ob hDL e)) (Nat.lt_irrefl _)
    have kpN:∀ {h2:Heap} {ob:Obj},News (Att.noObjs s.heap) X.env.locals h2 ((D,ob) :: ([]++(a,({ cls:=.type "list",data:=.seq vs.toArray n0 }:Obj)) :: Att.ledger s.heap X.env.locals a))→∀ b ob',b≠X.env.locals→s.heap.get? b=some ob'→h2.get? b=some ob':=fun N2 b ob' hb e=>(N2 (b,ob') (List.mem_cons_of_mem _ (inN b ob' hb e))).1
    obtain⟨I2,hHD⟩:=inv_new (o0:=.lst []) (tk:=s.toks) I hm (kpN N') F'.ns hsD ⟨Nat.zero_le _,[],e1,.nil,hgD⟩
    have hT2:Paired (IsT X.K (upd H D (.lst []))) us ts:=Paired.mapP hT fun _ _ z=>z.keep (keepT_new hHD)
    obtain⟨fs,g1,g2,g3⟩:=katTups_tm I2 hT2 rv
    refine W.kat_kind (T:=.type "str") g1 (by omega) (fun v hv=>?_) (by decide) ?_
    · obtain⟨x,t,rfl⟩:=g3 v hv
      exact fun A Q E s _ q=>wpAny_pure q
    have getT:∀ i,i < vs.length→IsT X.K (upd H D (.lst [])) (us.getD i .non) (ts.getD i .low)∧RelV (us.getD i .non) (vs.getD i .none)∧ts.getD i .low∈ts:=fun i hi=>by
      obtain⟨t,e,z⟩:=paired_get hT2 (List.getElem?_eq_getElem (show i < us.length by omega))
      have e1:us.getD i .non=us[i]:=by simp[show i < us.length by omega]
      have e2:ts.getD i .low=t:=by simp[e]
      refine⟨by rw[e1,e2];exact z,getD_val rv (by omega),by rw[e2];exact List.mem_of_getElem? e⟩
    have O:WkOrd vs.length (fun i j=>lexT (ts.getD i .low).spell (ts.getD j .low).spell):=by
      refine⟨fun x y z _ _ _ h1 h2=>?_,fun x y _ _ h=>lexT_asym h⟩
      show lexT (ts.getD z .low).spell (ts.getD x .low).spell=false
      replace h1:lexT (ts.getD y .low).spell (ts.getD x .low).spell=false:=h1
      replace h2:lexT (ts.getD z .low).spell (ts.getD y .low).spell=false:=h2
      cases e:lexT (ts.getD z .low).spell (ts.getD x .low).spell with
      | false=>rfl
      | true =>
        exfalso
        by_cases exy:(ts.getD x .low).spell=(ts.getD y .low).spell
        · rw[exy] at e;rw[e] at h2;cases h2
        · rcases lexT_tot exy with w | w
          · have:=Zg8 e w
            rw[this] at h2;cases h2
          · rw[w] at h1;cases h1
    refine wp_wsort O (S:=fun s'=>s'={ s with heap:=h' }) (fun i j C s' hi hj hij hs hC=>?_) (by omega) _ rfl fun p s' hp hwa hs=>?_
    · subst hs
      obtain⟨i1,i2,i3⟩:=getT i hi
      obtain⟨j1,j2,j3⟩:=getT j hj
      unfold W.kas_ask
      obtain⟨pi,_,_,ei,_⟩:=isT_first i1
      obtain⟨pj,_,_,ej,_⟩:=isT_first j1
      rw[ei] at i1 i2
      rw[ej] at j1 j2
      have ri:vs.getD i .none=.ref pi:=i2
      have rj:vs.getD j .none=.ref pj:=j2
      rw[ri,rj]
      obtain⟨ox,oy,xs,ys,n,k,z1,z2,z3,z4,z5⟩:=katLex_tm (A:=X.A.in1.in1) I2 i1 j1 (hok _ i3).1 (hok _ j3).1 (by
        have:=(hok _ i3).2
        show X.A.units+1+1+_+4 < cLine
        omega) (Q:=C) (hC _ rfl)
      exact W.kat_lt z1 z2 z3 z4 z5
    · subst hs
      have P:=Zf5 hp
      have pl:∀ i∈p.toList,i < vs.length:=fun i hi=>by
        have h1:p.toList.Perm (List.range vs.length):=by simpa using (Array.perm_iff_toList_perm.mp hp)
        simpa using h1.mem_iff.mp hi
      refine W.KasFin.intro F' N' (W.UpdF.head (fun x hx=>Nat.ne_of_lt (hlow x hx))) fun h'' c F'' N''=>?_
      have hvp:Vals (p.toList.map fun i=>us.getD i .non) (p.toList.map fun i=>vs.getD i .none):=by
        have gen:∀ is:List Nat,(∀ i∈is,i < us.length)→Vals (is.map fun i=>us.getD i .non) (is.map fun i=>vs.getD i .none):=by
          intro is
          induction is with
          | nil=>intro _;exact .nil
          | cons i is ih=>intro h;exact .cons (getD_val rv (h i List.mem_cons_self)) (ih fun j hj=>h j (List.mem_cons_of_mem _ hj))
        exact gen _ fun i hi=>by have:=pl i hi;omega
      refine small h'' D c s.toks _ (p.toList.map fun i=>ts.getD i .low) _ (kpN N'') F''.ns hsD (N'' _ List.mem_cons_self).1 hvp ?_ (paired_pick hT fun i hi=>by have:=pl i hi;omega) ?_ ?_
      · rw[List.length_map,Array.length_toList,P.size];omega
      · refine perm_map ?_
        rw[show ts.length=vs.length by omega];exact hp
      · rw[List.pairwise_iff_getElem]
        intro i j hi hj hij
        rw[List.length_map,Array.length_toList,P.size] at hi hj
        have:=hwa i j hij (by omega)
        have hi':i < p.size:=by rw[P.size];exact hi
        have hj':j < p.size:=by rw[P.size];exact hj
        have gi:gd p i=p.toList[i]'(by rw[Array.length_toList];exact hi'):=gd_eq (by simp[hi'])
        have gj:gd p j=p.toList[j]'(by rw[Array.length_toList];exact hj'):=gd_eq (by simp[hj'])
        rw[gi,gj] at this
        simpa using this
end
end Ken
namespace Ken
open PySem L2
noncomputable def natsV (L:List Nat):List V:=L.map fun n=>V.int (n:Nat)
theorem natsV_len (L:List Nat):(natsV L).length=L.length:=List.length_map _
theorem cut_tail {xs:List V} (h:1≤xs.length):cutV xs (some 1) none=xs.tail:=by
  show List.take (xs.length - (if (1:Int) < 0 then ((1:Int)+(xs.length:Int)).toNat else min (1:Int).toNat xs.length)) (List.drop (if (1:Int) < 0 then ((1:Int)+(xs.length:Int)).toNat else min (1:Int).toNat xs.length) xs)=_
  rw[if_neg (by decide)]
  have:min (1:Int).toNat xs.length=1:=by
    show min 1 xs.length=1
    omega
  rw[this,List.drop_one,List.take_of_length_le (by rw[List.length_tail];omega)]
end Ken
namespace Ken
open PySem L2
theorem Zh6:∀ {ds:List PyData},(∀ d∈ds,PyData.eqv d d=true)→PyData.eqvAll ds ds=true
  | [],_=>rfl
  | d :: ds,h=>by
    show (PyData.eqv d d&&PyData.eqvAll ds ds)=true
    rw[h d List.mem_cons_self,Zh6 fun e he=>h e (List.mem_cons_of_mem _ he)];rfl
theorem str_self (x:Str):PyData.eqv (.str x) (.str x)=true:=by show (x == x)=true;simp
theorem depth_list {ds:List PyData} {n:Nat} (h:∀ d∈ds,d.depth≤n):(PyData.list ds).depth≤n+1:=by
  show PyData.depthAll ds+1≤n+1
  have:PyData.depthAll ds≤n:=by
    induction ds with
    | nil=>exact Nat.zero_le _
    | cons d ds ih =>
      show max d.depth (PyData.depthAll ds)≤n
      exact Nat.max_le.mpr ⟨h d List.mem_cons_self,ih fun e he=>h e (List.mem_cons_of_mem _ he)⟩
  omega
end Ken
namespace L2
open PySem PySem.Spec PyProof.Rows Ken
end L2
namespace L2
open PySem PySem.Spec PyProof.Rows Ken
end L2
namespace L2
open PySem PySem.Spec PyProof.Rows
theorem bls_get:∀ {bs:List Bool} {us:List Value},Vals (bs.map V.bl) us→us=bs.map Value.bool
  | [],us,h=>by cases h;rfl
  | b :: bs,us,h=>by
    cases h with
    | cons r t =>
      have r:_=Value.bool b:=r
      rw[r,bls_get t];rfl
theorem all_range:∀ (bs:List Bool) (f:Nat→Bool),(∀ i b,bs[i]?=some b→f i=b)→(List.range bs.length).all f=bs.all id:=fun bs f h=>by
  rw[Bool.eq_iff_iff,List.all_eq_true,List.all_eq_true]
  constructor
  · intro g b hb
    obtain⟨i,hi,e⟩:=List.getElem_of_mem hb
    have:=g i (List.mem_range.mpr hi)
    rw[h i b (by rw[List.getElem?_eq_getElem hi,e])] at this
    exact this
  · intro g i hi
    have hi':=List.mem_range.mp hi
    rw[h i bs[i] (List.getElem?_eq_getElem hi')]
    exact g _ (List.getElem_mem hi')
section
variable {X:Cx}
theorem call_allB (hc:X.calm=true):CallR X (.builtin "all") (fun vs H Q=>∃ (a:Addr) (bs:List Bool),vs=[.ref a]∧SqL X.K H a (bs.map V.bl)∧Q (.bl (bs.all id)) H):=by
  intro pins s σ H xs us Q I r h
  obtain⟨a,bs,rfl,ha,q⟩:=h
  obtain⟨u,rfl,ru⟩:=vals1 r
  cases ru
  obtain⟨its,rv,p,hz⟩:=I.list ha
  have hi:=bls_get rv
  have hl:s.heap.IsList a its.toArray:=p.isList
  have hne:a≠s.heap.objs.size:=by obtain⟨o,e,_⟩:=hl;exact Nat.ne_of_lt (Heap.lt_size e)
  have W:=Walks.list (prog:=X.prog) (w:=X.w) (A:=X.A.in1) (I.ok.hd hc) s.heap.objs.size a hne its.toArray
  refine call_all_walk (wpAny_pyIter_list hl ?_)
  refine⟨s.heap.objs.size,_,_,_,_,_,fun i=>(bs[i]?).getD true,rfl,W,⟨⟨_,Heap.get?_push_size _ rfl,rfl,rfl⟩,hl.at fun o e=>Heap.get?_push_of_some _ e⟩,fun i v s' Q' E' hP hQ=>?_,fun h' tk hk=>?_⟩
  · have hQ:Q' ((bs[i]?).getD true) s':=hQ
    have hP:its.toArray[i]?=some v:=hP
    rw[hi] at hP
    simp only[List.getElem?_toArray,List.getElem?_map] at hP
    cases e:bs[i]? with
    | none=>rw[e] at hP;cases hP
    | some b =>
      rw[e] at hP hQ
      cases hP
      exact wpAny_truthy_bool hQ
  · have kk:∀ b o,s.heap.get? b=some o→h'.get? b=some o:=fun b o e=>hk b o (fun hb=>absurd (Heap.lt_size e) ((List.mem_singleton.mp hb)▸Nat.lt_irrefl _)) (Heap.get?_push_of_some _ e)
    have hsz:its.toArray.size=bs.length:=by rw[hi];simp
    rw[hsz,all_range bs _ fun i b e=>by rw[e];rfl]
    exact⟨.bl (bs.all id),H,I.kept (t':=tk) kk,rfl,q⟩
end
end L2
namespace L2
open PySem PySem.Spec PyProof.Rows
end L2
namespace L2
open PySem PySem.Spec PyProof.Rows Ken
end L2
namespace L2
open PySem PySem.Spec PyProof.Rows Ken
end L2
namespace L2
open PySem PySem.Spec PyProof.Rows Ken
theorem cxOf_prog (CX:CXT) (P:Program) (w:World) (K:PySem.W.Frag) (mg:Str→Option Value) (base:Heap) (N:List Str) (qual:Str) (scope:Scope) (f:Addr) (cd:Value) (A:Around) (outer:List Env) (s:Shared) (H:Hp) (E:XK):(cxOf CX P w K mg base N qual scope f cd A outer s H E).prog=P:=rfl
theorem cxOf_w (CX:CXT) (P:Program) (w:World) (K:PySem.W.Frag) (mg:Str→Option Value) (base:Heap) (N:List Str) (qual:Str) (scope:Scope) (f:Addr) (cd:Value) (A:Around) (outer:List Env) (s:Shared) (H:Hp) (E:XK):(cxOf CX P w K mg base N qual scope f cd A outer s H E).w=w:=rfl
theorem blk_prog (X:Cx) (N':List Str) (scope:Scope) (cl:List (Str×Addr)) (s:Shared) (H:Hp) (C:Addr) (ex:List Addr):(blk X N' scope cl s H C ex).prog=X.prog:=rfl
theorem blk_w (X:Cx) (N':List Str) (scope:Scope) (cl:List (Str×Addr)) (s:Shared) (H:Hp) (C:Addr) (ex:List Addr):(blk X N' scope cl s H C ex).w=X.w:=rfl
end L2
namespace Ken
open PySem L2 PyProof.Rows
end Ken
namespace L2
open PySem PySem.Spec PyProof.Rows
end L2
namespace L2
open PySem PySem.Spec PyProof.Rows
end L2
namespace L2
open PySem PySem.Spec PyProof.Rows
end L2
namespace L2
open PySem PySem.Spec PyProof.Rows
end L2
namespace L2
open PySem PySem.Spec PyProof.Rows
end L2
namespace Ken
open PySem L2
end Ken
namespace L2
open PySem PySem.Spec PyProof.Rows
end L2
namespace L2
open PySem PySem.Spec PyProof.Rows
end L2
namespace Ken
open PySem L2
end Ken
namespace L2
open PySem PySem.Spec PyProof.Rows
end L2
namespace Ken
open PySem L2
theorem take_snoc {α:Type} {l:List α} {i:Nat} {x:α} (h:l[i]?=some x):l.take (i+1)=l.take i++[x]:=by
  rw[List.take_add_one,h];rfl
end Ken
namespace Ken
open PySem L2
end Ken
namespace Ken
open PySem L2
end Ken
namespace L2
open PySem PySem.Spec PyProof.Rows Ken
end L2
namespace L2
open PySem
end L2
namespace Ken
open PySem L2
theorem cut_take {xs:List V} {i:Nat} (h:i≤xs.length):cutV xs none (some (i:Int))=xs.take i:=by
  show List.take ((if (i:Int) < 0 then ((i:Int)+(xs.length:Int)).toNat else min (i:Int).toNat xs.length) - 0) (List.drop 0 xs)=_
  rw[if_neg (by omega),List.drop_zero]
  congr 1
  omega
theorem paired_take {α β:Type} {F:α→β→Prop}:∀ {l:List α} {m:List β},Paired F l m→∀ n,Paired F (l.take n) (m.take n)
  | _,_,.nil,n=>by rw[List.take_nil,List.take_nil];exact .nil
  | _,_,.cons h t,0=>by rw[List.take_zero,List.take_zero];exact .nil
  | _,_,.cons h t,n+1=>by rw[List.take_succ_cons,List.take_succ_cons];exact .cons h (paired_take t n)
theorem tms_self (ts:List Tm):PyData.eqv (.list (ts.map Tm.data)) (.list (ts.map Tm.data))=true:=Zh6 fun d hd=>by
  obtain⟨x,_,rfl⟩:=List.mem_map.mp hd
  rw[Tm.eqv];exact decide_eq_true rfl
theorem tms_depth {ts:List Tm} {n:Nat} (h:∀ t∈ts,t.deep≤n):(PyData.list (ts.map Tm.data)).depth≤n+1:=depth_list fun d hd=>by
  obtain⟨x,hx,rfl⟩:=List.mem_map.mp hd
  rw[Tm.depth];exact h x hx
end Ken
namespace L2
open PySem PySem.Spec PyProof.Rows
section
variable {X:Cx}
noncomputable def rInsert:V→List V→Hp→VK→Prop:=fun x vs H Q=>∃ (l:Addr) (xs:List V) (k:Nat) (y:V),x=.ref l∧vs=[.int (k:Nat),y]∧H l=some (.lst xs)∧k≤xs.length∧xs.length < 1000000∧Q .non (upd H l (.lst (xs.take k++y :: xs.drop k)))
theorem mt_insert:MtM X "list.insert" rInsert:=by
  intro pins s σ H x vs v us Q I rx rv h
  obtain⟨l,xs,k,y,rfl,rfl,hH,hk,hz,q⟩:=h
  cases rx
  cases rv with
  | cons r1 rr =>
    cases rr with
    | cons r2 rr =>
      cases rr
      obtain⟨t,rfl⟩:=r1
      rename_i u2
      obtain⟨z,its,n,r,hl,e⟩:=I.lstM hH
      obtain⟨kk,hkk⟩:∃ kk:Int,((k:Nat):Int)=kk:=⟨_,rfl⟩
      rw[hkk]
      have hfit:¬ (!Builtin.List.listFitsIndex kk)=true:=by
        have h1:(-(2 ^ 63:Int)≤kk):=by omega
        have h2:kk < 2 ^ 63:=by omega
        have h3:Builtin.List.listFitsIndex kk=true:=by
          show (decide _&&decide _)=true
          rw[decide_eq_true h1,decide_eq_true h2];rfl
        rw[h3];decide
      have mt:=AutoSeq1.list_insert_list_int_val_1 l its.toArray n kk t u2 hfit (Nat.le_trans (Nat.le_of_eq (by rw[List.size_toArray,hl])) z)
      refine call_meets F.slot_list_insert ⟨_,e,rfl⟩ F.entry_list_insert (F.args_list_insert_3 _ _ _) mt ⟨e,?_⟩
      refine⟨.non,_,I.lset (its':=its.take k++u2 :: its.drop k) hH e ?_ ((r.take k).append (.cons r2 (r.drop k))) ?_,rfl,q⟩
      · show ((its.toArray.extract 0 (if kk < 0 then (kk+(its.toArray.size:Int)).toNat else min kk.toNat its.toArray.size)).push u2++its.toArray.extract (if kk < 0 then (kk+(its.toArray.size:Int)).toNat else min kk.toNat its.toArray.size))=_
        rw[if_neg (by omega),show min kk.toNat its.toArray.size=k by rw[List.size_toArray];omega]
        apply Array.ext'
        rw[Array.toList_append,Array.toList_push,Array.toList_extract,Array.toList_extract,List.append_assoc]
        simp[List.extract]
        try rw[List.take_of_length_le (by rw[List.length_drop];exact Nat.le_refl _)]
      · rw[List.length_append,List.length_cons,List.length_take,List.length_drop]
        exact Nat.le_of_lt (Ken.small1M (by omega))
end
end L2
namespace Ken
open PySem L2
end Ken
namespace Ken
open PySem L2
end Ken
namespace Ken
open PySem L2
end Ken
namespace Ken
open PySem L2 PyProof.Rows
theorem paired_snocK {α β:Type} {F:α→β→Prop}:∀ {l:List α} {m:List β} {y:β},Paired F l (m++[y])→∃ l' x,l=l'++[x]∧Paired F l' m∧F x y
  | _,[],_,h=>by
    cases h with
    | cons hx t=>cases t;exact⟨[],_,rfl,.nil,hx⟩
  | _,z :: m,_,h=>by
    cases h with
    | cons hx t =>
      obtain⟨l',x,rfl,h1,h2⟩:=paired_snocK t
      exact⟨_ :: l',x,rfl,.cons hx h1,h2⟩
end Ken
namespace Ken
open PySem L2
theorem uniqR {α:Type} [DecidableEq α] {lt:α→α→Bool} (asym:∀ a b,lt a b=true→lt b a=false):∀ {l m:List α},l.Pairwise (fun a b=>lt a b=true)→m.Pairwise (fun a b=>lt a b=true)→(∀ x,x∈l↔x∈m)→l=m
  | [],m,_,_,h=>by
    cases m with
    | nil=>rfl
    | cons y m=>exact absurd ((h y).mpr List.mem_cons_self) (by simp)
  | x :: l,[],_,_,h=>absurd ((h x).mp List.mem_cons_self) (by simp)
  | x :: l,y :: m,hl,hm,h=>by
    rw[List.pairwise_cons] at hl hm
    have e:x=y:=by
      by_cases e:x=y
      · exact e
      have h1:x∈m:=((List.mem_cons.mp ((h x).mp List.mem_cons_self)).resolve_left e)
      have h2:y∈l:=((List.mem_cons.mp ((h y).mpr List.mem_cons_self)).resolve_left fun z=>e z.symm)
      have a1:=hm.1 x h1
      have a2:=asym _ _ (hl.1 y h2)
      rw[a1] at a2;cases a2
    subst e
    have nx:∀ {k:List α},(∀ a∈k,lt x a=true)→x ∉ k:=fun hk z=>by
      have a1:=hk x z
      have a2:=asym _ _ a1
      rw[a1] at a2;cases a2
    rw[uniqR asym hl.2 hm.2 fun z=>⟨fun hz=>((List.mem_cons.mp ((h z).mp (List.mem_cons_of_mem _ hz))).resolve_left fun e=>nx hl.1 (e▸hz)),fun hz=>((List.mem_cons.mp ((h z).mpr (List.mem_cons_of_mem _ hz))).resolve_left fun e=>nx hm.1 (e▸hz))⟩]
theorem uniqT {l m:List Tm} (hl:sortedT l) (hm:sortedT m) (h:∀ x,x∈l↔x∈m):l=m:=by
  unfold sortedT at hl hm
  exact uniqR (lt:=fun a b=>lexT a.spell b.spell) (fun a b z=>lexT_asym z) hl hm h
end Ken
namespace L2
open PySem PySem.Spec PyProof.Rows Ken
theorem rng_vals {a n:Nat} {acc:Array Value} (h:ItemsOf (fun i v=>∃ t,v=Value.int (((a:Nat):Int)+i*1) t) acc n):Vals (natsV (List.range' a n)) acc.toList:=by
  obtain⟨h1,h2⟩:=h
  have gen:∀ (us:List Value) (b m:Nat),us.length=m→(∀ i v,us[i]?=some v→∃ t,v=Value.int (((b+i:Nat):Nat):Int) t)→Vals (natsV (List.range' b m)) us:=by
    intro us
    induction us with
    | nil=>intro b m hm _;subst hm;exact .nil
    | cons u us ih =>
      intro b m hm hv
      cases m with
      | zero=>cases hm
      | succ m =>
        obtain⟨t,e⟩:=hv 0 u rfl
        show Vals (V.int ((b:Nat):Int) :: natsV (List.range' (b+1) m)) (u :: us)
        refine .cons ⟨t,e⟩ (ih (b+1) m (by rw[List.length_cons] at hm;omega) fun i v hi=>?_)
        obtain⟨t',e'⟩:=hv (i+1) v hi
        exact⟨t',by rw[e',show b+1+i=b+(i+1) by omega]⟩
  refine gen acc.toList a n (by rw[Array.length_toList];exact h1) fun i v hi=>?_
  obtain⟨t,e⟩:=h2 i v (by simpa using hi)
  exact⟨t,by rw[e];congr 1;omega⟩
section
variable {X:Cx}
noncomputable def rListR1:List V→Hp→VK→Prop:=fun vs H Q=>∃ n:Nat,vs=[.int (n:Nat)]∧n≤100000∧∀ l,H l=none→Q (.ref l) (upd H l (.lst (natsV (List.range' 0 n))))
theorem list_rng {pins:List (Addr×Obj)} {σ:St} {H:Hp} {s:Shared} {Q:VK} {a b:Nat} {t u v:Tok} {tk:Nat} (hc:X.calm=true) (I:Inv X pins σ H s) (hab:a≤b) (hb:b≤100000)
    (q:∀ l,H l=none→Q (.ref l) (upd H l (.lst (natsV (List.range' a (b - a)))))) :
    wpAny (model X.prog X.w) X.A (call (.type "list") [.ref s.heap.objs.size]) (EP X pins σ Q) X.xe { s with heap:=s.heap.push { cls:=.type "range",data:=.fields #[.int ((a:Nat):Int) t,.int ((b:Nat):Int) u,.int 1 v] },toks:=tk }:=by
  have sz:(s.heap.push { cls:=.type "range",data:=.fields #[.int ((a:Nat):Int) t,.int ((b:Nat):Int) u,.int 1 v] }).objs.size=s.heap.objs.size+1:=Heap.size_push ..
  refine call_list_range (n:=b - a) (I.ok.hd hc) (IsRange.new ..) (small_one (by omega) (by omega) (by omega) (by omega)) (by rw[rangeSize_one];split<;>omega) (by omega) fun h' tk' acc' c' kp e hi=>?_
  have kp':∀ b o,s.heap.get? b=some o→h'.get? b=some o:=fun b o z=>kp b o (Heap.get?_push_of_some _ z)
  have vs:=rng_vals hi
  have hsz:s.heap.objs.size≤(s.heap.push { cls:=.type "range",data:=.fields #[.int ((a:Nat):Int) t,.int ((b:Nat):Int) u,.int 1 v] }).objs.size:=by rw[sz];omega
  refine⟨.ref _,_,I.laid (a:=(s.heap.push { cls:=.type "range",data:=.fields #[.int ((a:Nat):Int) t,.int ((b:Nat):Int) u,.int 1 v] }).objs.size) (o:=.lst (natsV (List.range' a (b - a)))) (t':=tk') kp' hsz ⟨?_,acc'.toList,c',vs,?_⟩,rfl,q _ (I.hok.fresh hsz)⟩
  · rw[natsV_len,List.length_range'];exact Nat.le_of_lt (small1M (by omega))
  · rw[Array.toArray_toList];exact e
theorem pe_listR1 {e:Expr} {t:TA} {p1 p2 pos1 pos2:Pos} (hc:X.calm=true) (hg1:Gl X "list") (hm1:X.mg "list"=none) (hg2:Gl X "range") (hm2:X.mg "range"=none) (ha:PA X [e] t)
    (he:starEach [e] X.env=[(false,eval e X.env)]:=by rfl) (he2:starEach [.Call (.Name "range" p2) [e] [] pos2] X.env=[(false,eval (.Call (.Name "range" p2) [e] [] pos2) X.env)]:=by rfl) :
    PE X (.Call (.Name "list" p1) [.Call (.Name "range" p2) [e] [] pos2] [] pos1) (tCB rListR1 t):=by
  intro pins s σ H Q I h
  refine wpAny_Call_Name_kw (ld_blt I hg1 hm1 (by first | exact PySem.boot_list | rfl) ?_)
  refine PyProof.Rows.callWith_type1 ?_ he2 rfl
  rw[he2]
  show wpAny _ _ (spliced ((false,eval (.Call (.Name "range" p2) [e] [] pos2) X.env) :: backTo pos1 (starEach [] X.env))) _ _ s
  refine Calls.spliced_cons (wpAny_Call_Name_kw (ld_blt I hg2 hm2 PyProof.Rows.boot_range ?_))
  refine PyProof.Rows.callWith_type1 (thn (ha pos2 pins s σ H _ I h) fun us s1 ⟨vs,H1,I1,r1,q1⟩=>?_) he rfl
  obtain⟨n,rfl,hn,q⟩:=q1
  cases r1 with
  | cons r rr =>
    cases rr
    obtain⟨tk,rfl⟩:=r
    refine call_range_1 (Calls.spliced_nil ?_)
    exact list_rng (a:=0) (b:=n) hc I1 (Nat.zero_le _) hn (by rw[Nat.sub_zero];exact q)
end
end L2
namespace Ken
open PySem L2
end Ken
namespace Ken
open PySem L2
end Ken
namespace Ken
open PySem L2
end Ken
namespace Ken
open PySem L2
noncomputable abbrev ltT (a b:Tm):Bool:=lexT a.spell b.spell
theorem ltT_irr (a:Tm):ltT a a=false:=by
  cases e:ltT a a with
  | false=>rfl
  | true=>have:=lexT_asym e;unfold ltT at e;rw[e] at this;exact this
theorem ltT_tot {a b:Tm} (h:a≠b):ltT a b=true∨ltT b a=true:=lexT_tot fun z=>h (spell_inj z)
theorem cmp_lt (a b:Tm):cmpT a b < 0↔ltT a b=true:=by
  unfold cmpT
  by_cases e:a=b
  · rw[if_pos e,e]
    constructor
    · intro h;omega
    · intro h;rw[ltT_irr] at h;cases h
  · rw[if_neg e]
    cases h:lexT a.spell b.spell with
    | true=>rw[if_pos rfl];exact⟨fun _=>h,fun _=>by decide⟩
    | false=>rw[if_neg (by decide)];exact⟨fun z=>absurd z (by decide),fun z=>by unfold ltT at z;rw[h] at z;cases z⟩
theorem cmp_eq (a b:Tm):cmpT a b=0↔a=b:=by
  unfold cmpT
  by_cases e:a=b
  · rw[if_pos e];exact⟨fun _=>e,fun _=>rfl⟩
  · rw[if_neg e]
    refine⟨fun z=>?_,fun z=>absurd z e⟩
    split at z<;>omega
noncomputable def insT (t:Tm):List Tm→List Tm
  | []=>[t]
  | x :: l=>if t=x then x :: l else if ltT t x=true then t :: x :: l else x :: insT t l
theorem mem_insT {t x:Tm}:∀ {l:List Tm},x∈insT t l↔x=t∨x∈l
  | []=>by simp[insT]
  | y :: l=>by
    unfold insT
    by_cases e:t=y
    · rw[if_pos e,e]
      simp
    · rw[if_neg e]
      by_cases h:ltT t y=true
      · rw[if_pos h];simp
      · rw[if_neg h,List.mem_cons,mem_insT,List.mem_cons]
        constructor
        · rintro (z | z | z)
          · exact .inr (.inl z)
          · exact .inl z
          · exact .inr (.inr z)
        · rintro (z | z | z)
          · exact .inr (.inl z)
          · exact .inl z
          · exact .inr (.inr z)
theorem sorted_insT {t:Tm}:∀ {l:List Tm},sortedT l→sortedT (insT t l)
  | [],_=>List.pairwise_singleton _ _
  | y :: l,h=>by
    have h':=List.pairwise_cons.mp h
    unfold insT
    by_cases e:t=y
    · rw[if_pos e];exact h
    · rw[if_neg e]
      by_cases hl:ltT t y=true
      · rw[if_pos hl]
        refine List.pairwise_cons.mpr ⟨fun x hx=>?_,h⟩
        rcases List.mem_cons.mp hx with z | z
        · rw[z];exact hl
        · exact Zg8 hl (h'.1 x z)
      · rw[if_neg hl]
        refine List.pairwise_cons.mpr ⟨fun x hx=>?_,sorted_insT h'.2⟩
        rcases mem_insT.mp hx with z | z
        · rw[z];exact (ltT_tot e).resolve_left hl
        · exact h'.1 x z
noncomputable def norm (l:List Tm):List Tm:=l.foldr insT []
theorem mem_norm {l:List Tm} {x:Tm}:x∈norm l↔x∈l:=by
  unfold norm
  induction l with
  | nil=>simp
  | cons y l ih=>rw[List.foldr_cons,mem_insT,ih,List.mem_cons]
theorem Zd0 (l:List Tm):sortedT (norm l):=by
  unfold norm
  induction l with
  | nil=>exact .nil
  | cons y l ih=>rw[List.foldr_cons];exact sorted_insT ih
theorem norm_uniq {os l:List Tm} (h:sortedT os) (hm:∀ x,x∈os↔x∈l):os=norm l:=uniqT h (Zd0 l) fun x=>by rw[hm x,mem_norm]
theorem norm_congr {l m:List Tm} (h:∀ x,x∈l↔x∈m):norm l=norm m:=norm_uniq (Zd0 l) fun x=>by rw[mem_norm];exact h x
theorem sortedT_nd {l:List Tm} (h:sortedT l):l.Nodup:=by
  have h':l.Pairwise (fun a b=>lexT a.spell b.spell=true):=h
  refine h'.imp fun {a b} h z=>?_
  have:=ltT_irr b
  unfold ltT at this
  rw[z,this] at h;cases h
noncomputable def rem (ws:List Tm) (o:Tm):List Tm:=ws.filter fun x=>decide (x≠o)
theorem mem_rem {ws:List Tm} {o x:Tm}:x∈rem ws o↔x∈ws∧x≠o:=by unfold rem;rw[List.mem_filter,decide_eq_true_iff]
theorem sorted_rem {ws:List Tm} {o:Tm} (h:sortedT ws):sortedT (rem ws o):=List.Pairwise.filter _ h
noncomputable def plc (ws:List Tm) (t:Tm):Nat:=(ws.filter fun x=>ltT x t).length
theorem plc_spec {t:Tm}:∀ {ws:List Tm},sortedT ws→(∀ i x,i < plc ws t→ws[i]?=some x→ltT x t=true)∧(∀ i x,plc ws t≤i→ws[i]?=some x→ltT x t=false)∧plc ws t≤ws.length
  | [],_=>⟨fun i x h=>absurd h (Nat.not_lt_zero _),fun i x _ h=>by simp at h,Nat.le_refl _⟩
  | y :: l,h=>by
    have h':=List.pairwise_cons.mp h
    obtain⟨g1,g2,g3⟩:=plc_spec (t:=t) h'.2
    cases e:ltT y t with
    | true =>
      have ep:plc (y :: l) t=plc l t+1:=by unfold plc;rw[List.filter_cons,if_pos e];rfl
      rw[ep]
      refine⟨fun i x hi hx=>?_,fun i x hi hx=>?_,by rw[List.length_cons];omega⟩
      · cases i with
        | zero=>cases hx;exact e
        | succ i=>exact g1 i x (by omega) hx
      · cases i with
        | zero=>omega
        | succ i=>exact g2 i x (by omega) hx
    | false =>
      have all:∀ x∈y :: l,ltT x t=false:=fun x hx=>by
        rcases List.mem_cons.mp hx with z | z
        · rw[z];exact e
        · cases e2:ltT x t with
          | false=>rfl
          | true=>have:=Zg8 (h'.1 x z) e2;unfold ltT at e;rw[this] at e;cases e
      have ep:plc (y :: l) t=0:=by
        unfold plc
        rw[List.length_eq_zero_iff,List.filter_eq_nil_iff]
        exact fun x hx=>by rw[all x hx];decide
      rw[ep]
      exact⟨fun i x hi=>absurd hi (Nat.not_lt_zero _),fun i x _ hx=>all x (List.mem_of_getElem? hx),Nat.zero_le _⟩
theorem plc_eq {ws:List Tm} {t:Tm} {m:Nat} (h:sortedT ws) (hm:m≤ws.length) (h1:∀ i x,i < m→ws[i]?=some x→ltT x t=true) (h2:∀ i x,m≤i→ws[i]?=some x→ltT x t=false):plc ws t=m:=by
  obtain⟨g1,g2,g3⟩:=plc_spec (t:=t) h
  rcases Nat.lt_trichotomy (plc ws t) m with z | z | z
  · have hx:plc ws t < ws.length:=by omega
    have a1:=h1 _ _ z (List.getElem?_eq_getElem hx)
    rw[g2 _ _ (Nat.le_refl _) (List.getElem?_eq_getElem hx)] at a1;cases a1
  · exact z
  · have hx:m < ws.length:=by omega
    have a1:=g1 _ _ z (List.getElem?_eq_getElem hx)
    rw[h2 _ _ (Nat.le_refl _) (List.getElem?_eq_getElem hx)] at a1;cases a1
theorem plc_mem {ws:List Tm} {t:Tm} (h:sortedT ws):t∈ws↔ws[plc ws t]?=some t:=by
  refine⟨fun hm=>?_,fun z=>List.mem_of_getElem? z⟩
  obtain⟨i,hi,e⟩:=List.getElem_of_mem hm
  have:plc ws t=i:=plc_eq h (by omega) (fun j x hj hx=>?_) (fun j x hj hx=>?_)
  · rw[this,List.getElem?_eq_getElem hi,e]
  · obtain⟨a1,b1⟩:=List.getElem?_eq_some_iff.mp hx
    have:=List.pairwise_iff_getElem.mp h j i a1 hi hj
    rw[b1,e] at this;exact this
  · obtain⟨a1,b1⟩:=List.getElem?_eq_some_iff.mp hx
    rcases Nat.lt_or_ge i j with z | z
    · have:=List.pairwise_iff_getElem.mp h i j hi a1 z
      rw[b1,e] at this
      exact lexT_asym this
    · have:j=i:=by omega
      subst this
      rw[e] at b1;rw[← b1];exact ltT_irr _
theorem cut_rem {ws:List Tm} {t:Tm} (h:sortedT ws) (hm:t∈ws):ws.take (plc ws t)++ws.drop (plc ws t+1)=rem ws t:=by
  have hp:=(plc_mem h).mp hm
  obtain⟨hl,e⟩:=List.getElem?_eq_some_iff.mp hp
  have sub:(ws.take (plc ws t)++ws.drop (plc ws t+1)).Sublist ws:=by
    conv=>rhs;rw[← List.take_append_drop (plc ws t) ws]
    refine List.Sublist.append_left ?_ _
    rw[List.drop_eq_getElem_cons hl]
    exact List.sublist_cons_self _ _
  refine uniqT (List.Pairwise.sublist sub h) (sorted_rem h) fun x=>?_
  have dec:ws=ws.take (plc ws t)++t :: ws.drop (plc ws t+1):=by
    conv=>lhs;rw[← List.take_append_drop (plc ws t) ws,List.drop_eq_getElem_cons hl,e]
  have hnd:=sortedT_nd h
  rw[dec] at hnd
  have hnd':=List.nodup_append.mp hnd
  rw[mem_rem]
  constructor
  · intro hx
    refine⟨sub.subset hx,fun z=>?_⟩
    subst z
    rcases List.mem_append.mp hx with y | y
    · exact hnd'.2.2 x y x List.mem_cons_self rfl
    · exact (List.nodup_cons.mp hnd'.2.1).1 y
  · rintro⟨hx,hne⟩
    rw[dec] at hx
    rcases List.mem_append.mp hx with y | y
    · exact List.mem_append_left _ y
    · rcases List.mem_cons.mp y with z | z
      · exact absurd z hne
      · exact List.mem_append_right _ z
theorem ins_at {ws:List Tm} {t:Tm} (h:sortedT ws) (hm:¬ t∈ws):sortedT (ws.take (plc ws t)++t :: ws.drop (plc ws t)):=by
  obtain⟨g1,g2,g3⟩:=plc_spec (t:=t) h
  have hh:(ws.take (plc ws t)++ws.drop (plc ws t)).Pairwise (fun a b=>lexT a.spell b.spell=true):=by rw[List.take_append_drop];exact h
  have hp:=List.pairwise_append.mp hh
  have left:∀ x∈ws.take (plc ws t),ltT x t=true:=fun x hx=>by
    obtain⟨i,hi,e⟩:=List.getElem_of_mem hx
    rw[List.length_take] at hi
    exact g1 i x (by omega) (by rw[List.getElem_take] at e;rw[List.getElem?_eq_getElem (by omega),e])
  have right:∀ x∈ws.drop (plc ws t),ltT t x=true:=fun x hx=>by
    obtain⟨i,hi,e⟩:=List.getElem_of_mem hx
    rw[List.length_drop] at hi
    rw[List.getElem_drop] at e
    have:=g2 (plc ws t+i) x (by omega) (by rw[List.getElem?_eq_getElem (by omega),e])
    have hne:t≠x:=fun z=>hm (by rw[z,← e];exact List.getElem_mem _)
    rcases ltT_tot hne with y | y
    · exact y
    · rw[this] at y;cases y
  refine List.pairwise_append.mpr ⟨hp.1,List.pairwise_cons.mpr ⟨fun x hx=>right x hx,hp.2.1⟩,fun x hx y hy=>?_⟩
  rcases List.mem_cons.mp hy with z | z
  · rw[z];exact left x hx
  · exact hp.2.2 x hx y z
inductive Rl where
  | wish | low | both | first | second | thn | parts | cases | known | curried | either | idle | chain | use
  deriving DecidableEq
noncomputable def Rl.str:Rl→Str
  | .wish=>"wish" | .low=>"low" | .both=>"both" | .first=>"first" | .second=>"second" | .thn=>"then" | .parts=>"parts" | .cases=>"cases" | .known=>"known" | .curried=>"curried" | .either=>"either" | .idle=>"idle" | .chain=>"chain" | .use=>"use"
noncomputable abbrev Nd:=List Tm×Tm
noncomputable def needG (ws:List Tm) (g:Tm):Rl→Option (List Nd)
  | .wish=>if g∈ws then some [] else none
  | .low=>if Tm.low∈ws then some [] else none
  | .both=>match g with
    | .nd .both a b=>some [(ws,a),(ws,b)]
    | _=>none
  | .first=>match g with
    | .nd .one a _=>some [(ws,a)]
    | _=>none
  | .second=>match g with
    | .nd .one _ b=>some [(ws,b)]
    | _=>none
  | .thn=>match g with
    | .nd .thn a b=>some [(norm (ws++[a]),b)]
    | _=>none
  | _=>none
noncomputable def needO (ws:List Tm) (g o:Tm):Rl→Option (List Nd)
  | .parts=>match o with
    | .nd .both a b=>some [(norm (rem ws o++[a,b]),g)]
    | _=>none
  | .cases=>match o with
    | .nd .one a b=>some [(norm (rem ws o++[a]),g),(norm (rem ws o++[b]),g)]
    | _=>none
  | .known=>match o with
    | .nd .thn a b=>if a∈ws then some [(norm (rem ws o++[b]),g)] else none
    | _=>none
  | .curried=>match o with
    | .nd .thn (.nd .both a b) c=>some [(norm (rem ws o++[.nd .thn a (.nd .thn b c)]),g)]
    | _=>none
  | .either=>match o with
    | .nd .thn (.nd .one a b) c=>some [(norm (rem ws o++[.nd .thn a c,.nd .thn b c]),g)]
    | _=>none
  | .idle=>match o with
    | .nd .thn .low _=>some [(norm (rem ws o),g)]
    | _=>none
  | .chain=>match o with
    | .nd .thn (.nd .thn a b) c=>some [(norm (rem ws o++[.nd .thn b c]),.nd .thn a b),(norm (rem ws o++[c]),g)]
    | _=>none
  | .use=>match o with
    | .nd .thn a b=>some [(ws,a),(norm (ws++[b]),g)]
    | _=>none
  | _=>none
structure IsW (K:PySem.W.Frag) (H:Hp) (a:Addr) (ws:List Tm):Prop where
  at_:∃ us,H a=some (.lst us)∧Paired (IsT K H) us ws
  rise:sortedT ws
theorem IsW.keep {K:PySem.W.Frag} {H H':Hp} (e:Same H H') {a:Addr} {ws:List Tm} (h:IsW K H a ws):IsW K H' a ws:=by
  obtain⟨⟨us,h1,h2⟩,h3⟩:=h
  exact⟨⟨us,e _ _ h1,Paired.mapP h2 fun _ _ z=>z.keep e.keepT⟩,h3⟩
noncomputable def Okw (ws:List Tm):Prop:=∀ t∈ws,t.ok∧t.parts≤100
noncomputable def sp_place (K:PySem.W.Frag):Sp:=fun vs H Q _=>∃ (a:Addr) (v:V) (ws:List Tm) (t:Tm),vs=[.ref a,v]∧IsW K H a ws∧IsT K H v t∧Okw ws∧t.ok∧ws.length≤1000 ∧
  ∀ H',Same H H'→Q (.int (plc ws t:Nat)) H'
noncomputable def sp_among (K:PySem.W.Frag):Sp:=fun vs H Q _=>∃ (a:Addr) (v:V) (ws:List Tm) (t:Tm),vs=[.ref a,v]∧IsW K H a ws∧IsT K H v t∧Okw ws∧t.ok∧ws.length≤1000 ∧
  ∀ H',Same H H'→Q (.bl (decide (t∈ws))) H'
noncomputable def sp_without (K:PySem.W.Frag):Sp:=fun vs H Q _=>∃ (a:Addr) (v:V) (ws:List Tm) (t:Tm),vs=[.ref a,v]∧IsW K H a ws∧IsT K H v t∧Okw ws∧t∈ws∧ws.length≤1000 ∧
  ∀ (r:Addr) (H':Hp),Same H H'→H r=none→IsW K H' r (rem ws t)→Q (.ref r) H'
noncomputable def sp_more (K:PySem.W.Frag):Sp:=fun vs H Q _=>∃ (a b:Addr) (ws:List Tm) (us:List V) (ts:List Tm),vs=[.ref a,.ref b]∧IsW K H a ws∧H b=some (.lst us)∧Paired (IsT K H) us ts∧Okw ws∧Okw ts∧ws.length+ts.length≤1000 ∧
  ∀ (r:Addr) (H':Hp),Same H H'→H r=none→IsW K H' r (norm (ws++ts))→Q (.ref r) H'
end Ken
namespace Ken
open PySem L2
theorem isT_head {K:PySem.W.Frag} {H:Hp} {v:V} {t:Tm} (h:IsT K H v t):∃ p x xs A,v=.ref p∧SqT K H p (.str x :: xs)∧t.spell=x :: A:=by
  cases t with
  | low=>obtain⟨p,e,hs⟩:=isT_low.mp h;exact⟨p,_,_,[],e,hs,rfl⟩
  | ltr y=>obtain⟨p,e,hs⟩:=isT_ltr.mp h;exact⟨p,_,_,[y],e,hs,rfl⟩
  | nd k a b=>obtain⟨p,x,y,e,hs,_⟩:=isT_nd.mp h;exact⟨p,_,_,_,e,hs,Zc7 k a b⟩
noncomputable def sumF (ps:List (Tm×Tm)):Nat:=(ps.map fun p=>p.1.parts).sum
theorem Zg3 (p:Tm×Tm) (ps:List (Tm×Tm)):sumF (p :: ps)=p.1.parts+sumF ps:=by unfold sumF;rw[List.map_cons,List.sum_cons]
theorem len_sumF:∀ ps:List (Tm×Tm),ps.length≤sumF ps
  | []=>Nat.le_refl _
  | p :: ps=>by rw[Zg3,List.length_cons];have:=len_sumF ps;have:=p.1.parts_pos;omega
end Ken
namespace Ken
open PySem L2
theorem at0 (x:V) (xs:List V):atI (x :: xs) 0=some x:=show atI (x :: xs) ((0:Nat):Int)=some x from Zd6 rfl
end Ken
namespace Ken
open PySem L2
noncomputable abbrev ONd:=Addr×Nd
noncomputable def IsNdO (K:PySem.W.Frag) (H:Hp) (v:V) (o:ONd):Prop:=∃ p gv,v=.ref p∧SqT K H p [.ref o.1,gv]∧IsW K H o.1 o.2.1∧IsT K H gv o.2.2
theorem IsNdO.keep {K:PySem.W.Frag} {H H':Hp} (e:Same H H') {v:V} {o:ONd} (h:IsNdO K H v o):IsNdO K H' v o:=by
  obtain⟨p,gv,e1,h1,h2,h3⟩:=h
  exact⟨p,gv,e1,e.sqt h1,h2.keep e,h3.keep e.keepT⟩
noncomputable def IsNds (K:PySem.W.Frag) (H:Hp) (na:Addr) (os:List ONd):Prop:=∃ vs,H na=some (.lst vs)∧Paired (IsNdO K H) vs os
theorem IsNds.keep {K:PySem.W.Frag} {H H':Hp} (e:Same H H') {na:Addr} {os:List ONd} (h:IsNds K H na os):IsNds K H' na os:=by
  obtain⟨vs,h1,h2⟩:=h
  exact⟨vs,e _ _ h1,Paired.mapP h2 fun _ _ z=>z.keep e⟩
noncomputable def NdsQ (K:PySem.W.Frag) (H:Hp) (Q:VK) (nds:List Nd):Prop:=∀ (na:Addr) (H':Hp) (os:List ONd),Same H H'→H na=none→IsNds K H' na os→os.map (·.2)=nds→(∀ o∈os,H o.1=none)→(na :: os.map (·.1)).Nodup→Q (.ref na) H'
theorem ndsQ_nil {K:PySem.W.Frag} {H H1:Hp} {Q:VK} (q:NdsQ K H Q []) (e:Same H H1) {na:Addr} (hna:H1 na=none):Q (.ref na) (upd H1 na (.lst [])) :=
  q na _ [] (e.trans (Za3 hna _)) (e.free hna) ⟨[],Za2,.nil⟩ rfl (fun _ h=>by simp at h) (by simp)
theorem Zh8 {K:PySem.W.Frag} {H H1:Hp} {Q:VK} {ws:List Tm} {g:Tm} (q:NdsQ K H Q [(ws,g)]) (e:Same H H1) {wl p na:Addr} {gv:V} (hw:IsW K H1 wl ws) (fw:H wl=none) (hg:IsT K H1 gv g) (hp:H1 p=none) (hna:upd H1 p (.tup [.ref wl,gv]) na=none) :
    Q (.ref na) (upd (upd H1 p (.tup [.ref wl,gv])) na (.lst [.ref p])):=by
  have s1:=Za3 hp (HO.tup [.ref wl,gv])
  have s2:=Za3 hna (HO.lst [.ref p])
  have S:=s1.trans s2
  refine q na _ [(wl,ws,g)] (e.trans S) ((e.trans s1).free hna) ⟨_,Za2,.cons ⟨p,gv,rfl,s2.sqt (.inl (.inl Za2)),hw.keep S,hg.keep S.keepT⟩ .nil⟩ rfl (fun o h=>by rw[List.mem_singleton.mp h];exact fw) ?_
  have:na≠wl:=fun z=>by
    obtain⟨⟨us,h1,_⟩,_⟩:=hw.keep s1
    rw[z,h1] at hna;cases hna
  simp[this]
theorem ndsQ_two {K:PySem.W.Frag} {H H1 H2:Hp} {Q:VK} {ws ws':List Tm} {g g':Tm} (q:NdsQ K H Q [(ws,g),(ws',g')]) (e:Same H H1) {wl wl' p p' na:Addr} {gv gv':V} (hw:IsW K H1 wl ws) (fw:H wl=none) (hg:IsT K H1 gv g) (hp:H1 p=none)
    (e2:Same (upd H1 p (.tup [.ref wl,gv])) H2) (hw':IsW K H2 wl' ws') (fw':upd H1 p (.tup [.ref wl,gv]) wl'=none) (hg':IsT K H2 gv' g') (hp':H2 p'=none) (hna:upd H2 p' (.tup [.ref wl',gv']) na=none) :
    Q (.ref na) (upd (upd H2 p' (.tup [.ref wl',gv'])) na (.lst [.ref p,.ref p'])):=by
  have s1:=Za3 hp (HO.tup [.ref wl,gv])
  have s3:=Za3 hp' (HO.tup [.ref wl',gv'])
  have s4:=Za3 hna (HO.lst [.ref p,.ref p'])
  have S34:=s3.trans s4
  have S24:=e2.trans S34
  have S:=s1.trans S24
  have f1:=(e.trans s1).free fw'
  refine q na _ [(wl,ws,g),(wl',ws',g')] (e.trans S) ((e.trans (s1.trans (e2.trans s3))).free hna) ⟨_,Za2,.cons ⟨p,gv,rfl,S24.sqt (.inl (.inl Za2)),hw.keep S,hg.keep S.keepT⟩ (.cons ⟨p',gv',rfl,s4.sqt (.inl (.inl Za2)),hw'.keep S34,hg'.keep S34.keepT⟩ .nil)⟩ rfl (fun o h=>?_) ?_
  · rcases List.mem_cons.mp h with z | z
    · rw[z];exact fw
    · rw[List.mem_singleton.mp z];exact f1
  · have n1:na≠wl:=fun z=>by
      obtain⟨⟨us,h1,_⟩,_⟩:=hw.keep (s1.trans (e2.trans s3))
      rw[z,h1] at hna;cases hna
    have n2:na≠wl':=fun z=>by
      obtain⟨⟨us,h1,_⟩,_⟩:=hw'.keep s3
      rw[z,h1] at hna;cases hna
    have n3:wl≠wl':=fun z=>by
      obtain⟨⟨us,h1,_⟩,_⟩:=hw.keep s1
      rw[← z,h1] at fw';cases fw'
    simp[n1,n2,n3]
noncomputable def needR (r:Rl) (ws:List Tm) (g:Tm) (on:Option Tm):Option (List Nd):=match on with
  | none=>needG ws g r
  | some o=>needO ws g o r
noncomputable def OnV (K:PySem.W.Frag) (H:Hp) (ws:List Tm) (v:V):Option Tm→Prop
  | none=>v=.non
  | some o=>IsT K H v o∧o∈ws
noncomputable def Rl.noOn:Rl→Bool
  | .wish | .low | .both | .first | .second | .thn=>true
  | _=>false
noncomputable def sp_by (K:PySem.W.Frag) (r:Rl):Sp:=fun vs H Q _=>∃ (wa:Addr) (gv ov:V) (ws:List Tm) (g:Tm) (on:Option Tm),vs=[.ref wa,gv,ov]∧IsW K H wa ws∧IsT K H gv g∧OnV K H ws ov on∧r.noOn=on.isNone∧Okw ws∧g.ok∧g.parts≤100∧ws.length≤900 ∧
  (needR r ws g on=none→∀ H',Same H H'→Q .non H')∧(∀ nds,needR r ws g on=some nds→NdsQ K H Q nds)
noncomputable def sp_isif (K:PySem.W.Frag):Sp:=fun vs H Q _=>∃ (v:V) (t:Tm) (x:Str),vs=[v,.str x]∧IsT K H v t∧Q (.bl (match t with
  | .nd .thn a _=>decide (a.spell.head?=some x)
  | _=>false)) H
end Ken
namespace L2
open PySem PySem.Spec PyProof.Rows
end L2
namespace L2
open PySem PySem.Spec PyProof.Rows
section
variable {X:Cx} {tg:Expr}
noncomputable def tCallT {ι:Type} (i:Nat) (f:ι→Addr) (sp:ι→Sp) (t:TA):TE:=fun σ H Q=>∃ r,σ[i]?=some (some (.ref (f r)))∧t σ H fun vs H1=>sp r vs H1 Q (fun _ _ _=>False)
theorem pe_callT {ι:Type} {k:Nat} {f:ι→Addr} {fd:ι→FuncData} {ps:List Str} {sp:ι→Sp} {x:Str} {p pos:Pos} {e:Expr} {es:List Expr} {t:TA} {i:Nat} (F:∀ r,FnOk X.prog X.w X.K X.mg X.base (fun _ _ _ _ _ _=>False) k (f r) (fd r) ps (sp r)) (hr:Room k X.A) (hN:X.N[i]?=some x) (hk:∀ r,PySem.W.keepIn X.K (.ref (f r))=true) (hb:∀ r,Binds X.K (fd r) ps [])
    (ha:PA X (e :: es) t) (hv:Vis X.env.scope x:=by first | exact .inl rfl | exact .inr (.inl rfl) | exact .inr (.inr rfl)) (hdb:(x == ("__debug__":Str))=false:=by decide) (hcd:(x == ("__classdict__":Str))=false:=by decide) (he:starEach (e :: es) X.env=(false,eval e X.env) :: starEach es X.env:=by rfl) (hpl:(backTo pos (starEach es X.env)).any (·.1)=false:=by rfl) :
    PE X (.Call (.Name x p) (e :: es) [] pos) (tCallT i f sp t):=by
  intro pins s σ H Q I h
  obtain⟨r,h1,h2⟩:=h
  refine pe_callL (F r) hr hN hv (hk r) (hb r) .nil (E:=fun _ _ _=>False) (fun pins σ H s e s' _ z=>z.elim) ha hdb hcd he hpl pins s σ H Q I ⟨h1,?_⟩
  show t σ H fun vs H1=>sp r (vs++[]) H1 Q _
  simp only[List.append_nil]
  exact h2
end
end L2
namespace Ken
open PySem L2
end Ken
namespace Ken
open PySem L2
end Ken
namespace Ken
open PySem L2
noncomputable def all14:List Rl:=[.wish,.low,.both,.first,.second,.thn,.parts,.cases,.known,.curried,.either,.idle,.chain,.use]
end Ken
namespace Ken
open PySem L2
theorem norm_len {l:List Tm}:(norm l).length≤l.length:=Zh0 (sortedT_nd (Zd0 _)) fun _ h=>mem_norm.mp h
theorem rem_len {ws:List Tm} {o:Tm} (hn:ws.Nodup) (h:o∈ws):(rem ws o).length+1≤ws.length:=by
  have:(o :: rem ws o).length≤ws.length:=Zh0 (List.nodup_cons.mpr ⟨fun z=>(mem_rem.mp z).2 rfl,hn.filter _⟩) fun x hx=>(List.mem_cons.mp hx).elim (fun z=>z▸h) fun z=>(mem_rem.mp z).1
  rw[List.length_cons] at this;exact this
structure NdOk (ws:List Tm) (n:Nd):Prop where
  ok:Okw n.1
  gok:n.2.ok∧n.2.parts≤100
  rise:sortedT n.1
  len:n.1.length≤ws.length+1
theorem need_ok {r:Rl} {ws:List Tm} {g:Tm} {on:Option Tm} {nds:List Nd} (hs:sortedT ws) (hok:Okw ws) (gk:g.ok∧g.parts≤100) (hon:∀ o,on=some o→o∈ws) (h:needR r ws g on=some nds):∀ n∈nds,NdOk ws n:=by
  have hnd:=sortedT_nd hs
  have pl:∀ {t:Tm},t.ok∧t.parts≤100→NdOk ws (ws,t):=fun ht=>⟨hok,ht,hs,Nat.le_succ _⟩
  have kid:∀ {k:Kd} {a b:Tm},(Tm.nd k a b).ok∧(Tm.nd k a b).parts≤100→(a.ok∧a.parts≤100)∧(b.ok∧b.parts≤100):=fun {k a b} ht=>by
    have h1:1+a.parts+b.parts≤100:=ht.2
    exact⟨⟨ht.1.1,by omega⟩,⟨ht.1.2,by omega⟩⟩
  have nm:∀ {l:List Tm} {t:Tm},(∀ x∈l,x.ok∧x.parts≤100)→l.length≤ws.length+1→t.ok∧t.parts≤100→NdOk ws (norm l,t):=fun hl hlen ht=>⟨fun x hx=>hl x (mem_norm.mp hx),ht,Zd0 _,Nat.le_trans norm_len hlen⟩
  cases on with
  | none =>
    have h':needG ws g r=some nds:=h
    cases r with
    | wish=>simp only[needG] at h';split at h'<;>cases h';intro n hn;simp at hn
    | low=>simp only[needG] at h';split at h'<;>cases h';intro n hn;simp at hn
    | both =>
      simp only[needG] at h'
      split at h'
      · cases h'
        intro n hn
        rcases List.mem_cons.mp hn with z | z
        · rw[z];exact pl (kid gk).1
        · rw[List.mem_singleton.mp z];exact pl (kid gk).2
      · cases h'
    | first =>
      simp only[needG] at h'
      split at h'
      · cases h';intro n hn;rw[List.mem_singleton.mp hn];exact pl (kid gk).1
      · cases h'
    | second =>
      simp only[needG] at h'
      split at h'
      · cases h';intro n hn;rw[List.mem_singleton.mp hn];exact pl (kid gk).2
      · cases h'
    | thn =>
      simp only[needG] at h'
      split at h'
      · cases h';intro n hn;rw[List.mem_singleton.mp hn]
        refine nm (fun x hx=>?_) (by rw[List.length_append];exact Nat.le_refl _) (kid gk).2
        rcases List.mem_append.mp hx with z | z
        · exact hok x z
        · rw[List.mem_singleton.mp z];exact (kid gk).1
      · cases h'
    | _=>cases h'
  | some o =>
    have ho:=hon o rfl
    have oo:=hok o ho
    have hl:=rem_len hnd ho
    have h':needO ws g o r=some nds:=h
    have one:∀ {x t:Tm},x.ok∧x.parts≤100→t.ok∧t.parts≤100→NdOk ws (norm (rem ws o++[x]),t):=fun {x t} hx ht=>nm (fun y hy=>by
      rcases List.mem_append.mp hy with z | z
      · exact hok y (mem_rem.mp z).1
      · rw[List.mem_singleton.mp z];exact hx) (by rw[List.length_append];show _+1≤_;omega) ht
    have two:∀ {x y t:Tm},x.ok∧x.parts≤100→y.ok∧y.parts≤100→t.ok∧t.parts≤100→NdOk ws (norm (rem ws o++[x,y]),t):=fun {x y t} hx hy ht=>nm (fun w hw=>by
      rcases List.mem_append.mp hw with z | z
      · exact hok w (mem_rem.mp z).1
      · rcases List.mem_cons.mp z with z | z
        · rw[z];exact hx
        · rw[List.mem_singleton.mp z];exact hy) (by rw[List.length_append];show _+2≤_;omega) ht
    cases r with
    | parts =>
      simp only[needO] at h'
      split at h'
      · cases h';intro n hn;rw[List.mem_singleton.mp hn];exact two (kid oo).1 (kid oo).2 gk
      · cases h'
    | cases =>
      simp only[needO] at h'
      split at h'
      · cases h'
        intro n hn
        rcases List.mem_cons.mp hn with z | z
        · rw[z];exact one (kid oo).1 gk
        · rw[List.mem_singleton.mp z];exact one (kid oo).2 gk
      · cases h'
    | known =>
      simp only[needO] at h'
      split at h'
      · split at h'
        · cases h';intro n hn;rw[List.mem_singleton.mp hn];exact one (kid oo).2 gk
        · cases h'
      · cases h'
    | curried =>
      simp only[needO] at h'
      split at h'
      · rename_i x y c
        cases h';intro n hn;rw[List.mem_singleton.mp hn]
        have h1:1+(1+x.parts+y.parts)+c.parts≤100:=oo.2
        exact one ⟨⟨oo.1.1.1,oo.1.1.2,oo.1.2⟩,by show 1+x.parts+(1+y.parts+c.parts)≤100;omega⟩ gk
      · cases h'
    | either =>
      simp only[needO] at h'
      split at h'
      · rename_i x y c
        cases h';intro n hn;rw[List.mem_singleton.mp hn]
        have h1:1+(1+x.parts+y.parts)+c.parts≤100:=oo.2
        exact two ⟨⟨oo.1.1.1,oo.1.2⟩,by show 1+x.parts+c.parts≤100;omega⟩ ⟨⟨oo.1.1.2,oo.1.2⟩,by show 1+y.parts+c.parts≤100;omega⟩ gk
      · cases h'
    | idle =>
      simp only[needO] at h'
      split at h'
      · cases h';intro n hn;rw[List.mem_singleton.mp hn]
        exact nm (fun x hx=>hok x (mem_rem.mp hx).1) (by omega) gk
      · cases h'
    | chain =>
      simp only[needO] at h'
      split at h'
      · rename_i x y c
        cases h'
        have h1:1+(1+x.parts+y.parts)+c.parts≤100:=oo.2
        intro n hn
        rcases List.mem_cons.mp hn with z | z
        · rw[z];exact one ⟨⟨oo.1.1.2,oo.1.2⟩,by show 1+y.parts+c.parts≤100;omega⟩ ⟨oo.1.1,by show 1+x.parts+y.parts≤100;omega⟩
        · rw[List.mem_singleton.mp z];exact one (kid oo).2 gk
      · cases h'
    | use =>
      simp only[needO] at h'
      split at h'
      · rename_i a b
        cases h'
        intro n hn
        rcases List.mem_cons.mp hn with z | z
        · rw[z];exact pl (kid oo).1
        · rw[List.mem_singleton.mp z]
          refine nm (fun x hx=>?_) (by rw[List.length_append];exact Nat.le_refl _) gk
          rcases List.mem_append.mp hx with z | z
          · exact hok x z
          · rw[List.mem_singleton.mp z];exact (kid oo).2
      · cases h'
    | _=>cases h'
noncomputable def onD:Option Tm→PyData
  | none=>.none
  | some o=>o.data
end Ken
namespace L2
open PySem PySem.Spec PyProof.Rows
end L2
namespace L2
open PySem PySem.Spec PyProof.Rows
end L2
namespace L2
open PySem PySem.Spec PyProof.Rows
end L2
namespace Ken
open PySem L2
theorem Zd2:∀ t:Tm,t.deep≤t.parts
  | .low=>Nat.le_refl _
  | .ltr _=>Nat.le_refl _
  | .nd _ a b=>by
    have:=Zd2 a
    have:=Zd2 b
    show 1+max a.deep b.deep≤1+a.parts+b.parts
    omega
noncomputable def sp_onceL (K:PySem.W.Frag):Sp:=fun vs H Q _=>∃ (a:Addr) (us:List V) (ts:List Tm),vs=[.ref a]∧H a=some (.lst us)∧Paired (IsT K H) us ts∧Okw ts∧ts.length < 64 ∧
  ∀ (r:Addr) (H':Hp),Same H H'→H r=none→IsW K H' r (norm ts)→Q (.ref r) H'
noncomputable def sp_changedL (K:PySem.W.Frag):Sp:=fun vs H Q _=>∃ (a b:Addr) (ov:V) (o:Tm) (ws:List Tm) (us:List V) (ts:List Tm),vs=[.ref a,ov,.ref b]∧IsW K H a ws∧IsT K H ov o∧o.ok∧o.parts≤100∧H b=some (.lst us)∧Paired (IsT K H) us ts∧Okw ws∧Okw ts∧ws.length+ts.length < 64 ∧
  ∀ (r:Addr) (H':Hp),Same H H'→H r=none→IsW K H' r (norm (rem ws o++ts))→Q (.ref r) H'
theorem cut_last (xs:List V):cutV xs (some (-1)) none=xs.drop (xs.length - 1):=by
  show List.take (xs.length - (if (-1:Int) < 0 then ((-1:Int)+(xs.length:Int)).toNat else min (-1:Int).toNat xs.length)) (List.drop (if (-1:Int) < 0 then ((-1:Int)+(xs.length:Int)).toNat else min (-1:Int).toNat xs.length) xs)=_
  rw[if_pos (by decide),show ((-1:Int)+(xs.length:Int)).toNat=xs.length - 1 by omega]
  exact List.take_of_length_le (by rw[List.length_drop];exact Nat.le_refl _)
theorem mem_last {fs:List Tm} {t:Tm}:t∈fs.drop (fs.length - 1)↔fs.getLast?=some t:=by
  rcases List.eq_nil_or_concat fs with h | ⟨l,x,rfl⟩
  · subst h;simp
  · rw[List.concat_eq_append,List.length_append,List.length_singleton,Nat.add_sub_cancel,List.drop_left,List.getLast?_append]
    simp
    exact eq_comm
theorem last_or {fs:List Tm} (h:sortedT fs) {y l:Tm} (hy:y∈fs) (hl:fs.getLast?=some l):y=l∨ltT y l=true:=by
  rcases List.eq_nil_or_concat fs with e | ⟨m,x,rfl⟩
  · subst e;simp at hy
  · rw[List.concat_eq_append] at *
    rw[List.getLast?_append] at hl
    have:x=l:=by simpa using hl
    subst this
    rcases List.mem_append.mp hy with z | z
    · exact .inr ((List.pairwise_append.mp h).2.2 y z x (List.mem_singleton.mpr rfl))
    · exact .inl (List.mem_singleton.mp z)
end Ken
namespace L2
open PySem PySem.Spec PyProof.Rows
section
variable {X:Cx}
theorem Zh5 {K:PySem.W.Frag} (e:X.K=K) (hu:X.A.units+150 < cLine):OpR X (compareOp .NotEq) (rEqD K true):=e▸op_neD hu
end
end L2
namespace Ken
open PySem L2
theorem rl_wish (r:Rl):(r.str=Str.ofString "wish")=(r=.wish):=by cases r<;>first | exact propext ⟨fun _=>rfl,fun _=>rfl⟩ | exact propext ⟨fun h=>absurd h (by decide),fun h=>nomatch h⟩
theorem rl_low (r:Rl):(r.str=Str.ofString "low")=(r=.low):=by cases r<;>first | exact propext ⟨fun _=>rfl,fun _=>rfl⟩ | exact propext ⟨fun h=>absurd h (by decide),fun h=>nomatch h⟩
theorem rl_both (r:Rl):(r.str=Str.ofString "both")=(r=.both):=by cases r<;>first | exact propext ⟨fun _=>rfl,fun _=>rfl⟩ | exact propext ⟨fun h=>absurd h (by decide),fun h=>nomatch h⟩
theorem rl_first (r:Rl):(r.str=Str.ofString "first")=(r=.first):=by cases r<;>first | exact propext ⟨fun _=>rfl,fun _=>rfl⟩ | exact propext ⟨fun h=>absurd h (by decide),fun h=>nomatch h⟩
theorem rl_second (r:Rl):(r.str=Str.ofString "second")=(r=.second):=by cases r<;>first | exact propext ⟨fun _=>rfl,fun _=>rfl⟩ | exact propext ⟨fun h=>absurd h (by decide),fun h=>nomatch h⟩
theorem rl_thn (r:Rl):(r.str=Str.ofString "then")=(r=.thn):=by cases r<;>first | exact propext ⟨fun _=>rfl,fun _=>rfl⟩ | exact propext ⟨fun h=>absurd h (by decide),fun h=>nomatch h⟩
theorem rl_parts (r:Rl):(r.str=Str.ofString "parts")=(r=.parts):=by cases r<;>first | exact propext ⟨fun _=>rfl,fun _=>rfl⟩ | exact propext ⟨fun h=>absurd h (by decide),fun h=>nomatch h⟩
theorem rl_cases (r:Rl):(r.str=Str.ofString "cases")=(r=.cases):=by cases r<;>first | exact propext ⟨fun _=>rfl,fun _=>rfl⟩ | exact propext ⟨fun h=>absurd h (by decide),fun h=>nomatch h⟩
theorem rl_known (r:Rl):(r.str=Str.ofString "known")=(r=.known):=by cases r<;>first | exact propext ⟨fun _=>rfl,fun _=>rfl⟩ | exact propext ⟨fun h=>absurd h (by decide),fun h=>nomatch h⟩
theorem rl_curried (r:Rl):(r.str=Str.ofString "curried")=(r=.curried):=by cases r<;>first | exact propext ⟨fun _=>rfl,fun _=>rfl⟩ | exact propext ⟨fun h=>absurd h (by decide),fun h=>nomatch h⟩
theorem rl_either (r:Rl):(r.str=Str.ofString "either")=(r=.either):=by cases r<;>first | exact propext ⟨fun _=>rfl,fun _=>rfl⟩ | exact propext ⟨fun h=>absurd h (by decide),fun h=>nomatch h⟩
theorem rl_idle (r:Rl):(r.str=Str.ofString "idle")=(r=.idle):=by cases r<;>first | exact propext ⟨fun _=>rfl,fun _=>rfl⟩ | exact propext ⟨fun h=>absurd h (by decide),fun h=>nomatch h⟩
theorem rl_chain (r:Rl):(r.str=Str.ofString "chain")=(r=.chain):=by cases r<;>first | exact propext ⟨fun _=>rfl,fun _=>rfl⟩ | exact propext ⟨fun h=>absurd h (by decide),fun h=>nomatch h⟩
theorem rl_use (r:Rl):(r.str=Str.ofString "use")=(r=.use):=by cases r<;>first | exact propext ⟨fun _=>rfl,fun _=>rfl⟩ | exact propext ⟨fun h=>absurd h (by decide),fun h=>nomatch h⟩
end Ken
namespace Ken
open PySem L2
theorem isT_or (kk:Kd) {K:PySem.W.Frag} {H:Hp} {v:V} {g:Tm} (h:IsT K H v g):(∃ a b p x y,g=.nd kk a b∧v=.ref p∧SqT K H p [.str kk.str,x,y]∧IsT K H x a∧IsT K H y b)∨(∃ p x xs,v=.ref p∧SqT K H p (.str x :: xs)∧x≠kk.str∧∀ a b,g≠.nd kk a b):=by
  cases g with
  | low =>
    obtain⟨p,rfl,hs⟩:=isT_low.mp h
    exact .inr ⟨p,_,_,rfl,hs,by cases kk<;>decide,fun _ _ z=>nomatch z⟩
  | ltr y =>
    obtain⟨p,rfl,hs⟩:=isT_ltr.mp h
    exact .inr ⟨p,_,_,rfl,hs,by cases kk<;>decide,fun _ _ z=>nomatch z⟩
  | nd k a b =>
    obtain⟨p,x,y,rfl,hs,hx,hy⟩:=isT_nd.mp h
    by_cases e:k=kk
    · subst e;exact .inl ⟨a,b,p,x,y,rfl,rfl,hs,hx,hy⟩
    · exact .inr ⟨p,_,_,rfl,hs,by revert e;cases k<;>cases kk<;>decide,fun _ _ z=>by cases z;exact e rfl⟩
end Ken
namespace Ken
open PySem L2
end Ken
namespace L2
open PySem PySem.Spec PyProof.Rows
end L2
namespace Ken
open PySem L2
end Ken
namespace Ken
open PySem L2
end Ken
namespace Ken
open PySem L2
end Ken
namespace Ken
open PySem L2
noncomputable def badN:List Str:=["cut","","Wish","wishes"]
noncomputable def RIs (x:Str):Option Rl→Prop
  | some r=>x=r.str
  | none=>x∈badN
theorem bad_len {x:Str} (h:x∈badN):(reprText x).length≤100:=by
  revert x
  decide +kernel
noncomputable def needGX (ws:List Tm) (g:Tm):Option Rl→Option (List Nd)
  | some r=>needG ws g r
  | none=>none
noncomputable def needOX (ws:List Tm) (g o:Tm):Option Rl→Option (List Nd)
  | some r=>needO ws g o r
  | none=>none
noncomputable def needX (R:Option Rl) (ws:List Tm) (g:Tm):Option Tm→Option (List Nd)
  | none=>needGX ws g R
  | some o=>if o∈ws then needOX ws g o R else none
noncomputable def OnX (K:PySem.W.Frag) (H:Hp) (v:V):Option Tm→Prop
  | none=>v=.non
  | some o=>IsT K H v o∧o.ok∧o.parts≤100
theorem OnX.keep {K:PySem.W.Frag} {H H':Hp} (e:KeepT K H H') {v:V} {on:Option Tm} (h:OnX K H v on):OnX K H' v on:=by
  cases on with
  | none=>exact h
  | some o=>exact⟨h.1.keep e,h.2⟩
noncomputable def onFit (R:Rl) (ws:List Tm):Option Tm→Bool
  | none=>R.noOn
  | some o=>!R.noOn&&decide (o∈ws)
noncomputable def sp_hason (K:PySem.W.Frag):Sp:=fun vs H Q _=>∃ (r:Rl) (wa:Addr) (ov:V) (ws:List Tm) (on:Option Tm),vs=[.str r.str,.ref wa,ov]∧IsW K H wa ws∧OnX K H ov on∧Okw ws∧ws.length≤1000∧∀ H',Same H H'→Q (.bl (onFit r ws on)) H'
noncomputable def sp_needs (K:PySem.W.Frag) (C:Addr):Sp:=fun vs H Q E=>∃ (x:Str) (R:Option Rl) (wa:Addr) (gv ov:V) (ws:List Tm) (g:Tm) (on:Option Tm),vs=[.str x,.ref wa,gv,ov]∧RIs x R∧IsW K H wa ws∧IsT K H gv g∧OnX K H ov on∧Okw ws∧g.ok∧g.parts≤100∧ws.length≤900 ∧
  (needX R ws g on=none→∀ e H',Xtd H e (.ref C) none H'→E (.ref e) none H')∧(∀ nds,needX R ws g on=some nds→NdsQ K H Q nds)
theorem needX_fit {r:Rl} {ws:List Tm} {g:Tm} {on:Option Tm} (h:onFit r ws on=true):needX (some r) ws g on=needR r ws g on∧r.noOn=on.isNone∧∀ o,on=some o→o∈ws:=by
  cases on with
  | none=>exact⟨rfl,h,fun o z=>nomatch z⟩
  | some o =>
    have h2:=Bool.and_eq_true_iff.mp (show (!r.noOn&&decide (o∈ws))=true from h)
    have h3:o∈ws:=of_decide_eq_true h2.2
    refine⟨by show (if o∈ws then _ else _)=_;rw[if_pos h3];rfl,by have:=h2.1;revert this;cases r.noOn<;>simp,fun o' z=>by cases z;exact h3⟩
theorem needX_unfit {r:Rl} {ws:List Tm} {g:Tm} {on:Option Tm} (h:onFit r ws on=false):needX (some r) ws g on=none:=by
  cases on with
  | none =>
    show needG ws g r=none
    revert h
    cases r<;>intro h<;>first | rfl | cases h
  | some o =>
    show (if o∈ws then needO ws g o r else none)=none
    by_cases hin:o∈ws
    · rw[if_pos hin]
      revert h
      show (!r.noOn&&decide (o∈ws))=false→_
      rw[decide_eq_true hin]
      cases r<;>intro h<;>first | rfl | cases h
    · rw[if_neg hin]
end Ken
namespace Ken
open PySem L2
end Ken
namespace Ken
open PySem L2
theorem cut_dropX (xs:List V) (j:Nat):cutV xs (some ((j:Int)+1)) none=xs.drop (j+1):=by
  have e:HT.sIx xs.length 0 (some ((j:Int)+1))=min (j+1) xs.length:=by
    unfold HT.sIx
    simp only
    split
    · omega
    · omega
  unfold cutV
  rw[e,show HT.sIx xs.length xs.length none=xs.length from rfl]
  rcases Nat.le_total (j+1) xs.length with h | h
  · rw[Nat.min_eq_left h]
    exact List.take_of_length_le (by rw[List.length_drop];exact Nat.le_refl _)
  · rw[Nat.min_eq_right h,Nat.sub_self,List.drop_eq_nil_of_le (Nat.le_refl _),List.drop_eq_nil_of_le h]
    rfl
end Ken
namespace L2
open PySem PySem.Spec PyProof.Rows
end L2
namespace Ken
open PySem L2
end Ken
namespace L2
open PySem PySem.Spec PyProof.Rows
end L2
namespace L2
open PySem PySem.Spec PyProof.Rows
end L2
namespace Hd
open PySem PySem.W PySem.Calls PyProof.Rows
noncomputable abbrev pos0:Pos:=⟨0,0,0,0⟩
noncomputable def o11:Obj:={ cls:=.type "tuple",data:=.seq #[] }
noncomputable def o12:Obj:={ cls:=.none,data:=.fields #[] }
noncomputable def o13:Obj:={ cls:=.type "code",data:=.fields #[.str (Str.ofString "<module>") 182,.str (Str.ofString "<module>") 183,.str (Str.ofString "/claim/cut.py") 184,.int 1 0,.int 0 0,.int 0 0,.int 0 0,.int 0 0,.ref 11,.bool false,.int 181 0,.ref 12,.none,.none,.none,.none,.int 185 0,.int 1 0,.str (Str.ofString "/claim/cut.py") 186] }
noncomputable def o14:Obj:={ cls:=.type "frame",slots:=#[some (.ref 13),some (.ref 3),some (.ref 3),none,some (.str (Str.ofString "__main__") 164),none,some (.ref 0)] }
noncomputable def treeB (P:Params):BT :=
  (.node (boot_o_0 P) (.node (boot_o_1 P) (.node (boot_o_3 P) (.node (boot_o_7 P) .nil .nil) (.node o11 .nil .nil)) (.node (boot_o_5 P) (.node (boot_o_9 P) .nil .nil) (.node o13 .nil .nil))) (.node (boot_o_2 P) (.node (boot_o_4 P) (.node (boot_o_8 P) .nil .nil) (.node o12 .nil .nil)) (.node (boot_o_6 P) (.node (boot_o_10 P) .nil .nil) (.node o14 .nil .nil))))
noncomputable abbrev annB:Option Value:=some (.ref 6)
noncomputable def envOf (p:Program):Env:={ scope:=p.main.scope,locals:=mainNs,globals:=mainNs,cells:=[],code:=.ref 13,frame:=some 14 }
noncomputable def codeOf (p:Program):Code:=.body (behindTheImports p) (envOf p)
noncomputable def SB (w:World) (os:OsState):SharedT:=⟨treeB w.params,15,{},#[],{},187,os⟩
noncomputable def S0 (w:World) (os:OsState):Shared:=⟨boot_heap w.params,Array.mk [],boot_drawn,boot_toks,os⟩
noncomputable def pre (p:Program) (w:World) (os:OsState):=topGo treeTable p w 11 annB 12 (S0 w os) (topStub p)
noncomputable def preTo (p:Program) (w:World) (os:OsState):Option (Shared×Thread):=some ((SB w os).abs,⟨denote treeTable (codeOf p),codeOf p,pos0,[topFrame pos0]⟩)
noncomputable def blk (p:Program) (w:World) (os:OsState):=segRun treeTable p w 11 annB 1 1 (SB w os).abs (blockOf (behindTheImports p) (envOf p) (codeOf p) pos0 [topFrame pos0])
noncomputable def blkTo (p:Program) (w:World) (os:OsState):Option (Flow×Shared×Code×Pos):=some (.next,(SB w os).abs,codeOf p,pos0)
noncomputable def run (p:Program) (n:Nat) (w:World) (os:OsState):=segRunT treeTable p w 11 annB 1 n (SB w os) (piecesOf (behindTheImports p) (envOf p) (codeOf p) pos0 [topFrame pos0])
noncomputable def fin (p:Program) (e:Pos) (w:World) (x:SharedT):Option Shared:=topRun treeTable p w 11 annB 2 x.abs ⟨doneF .next,codeOf p,e,[topFrame pos0]⟩
noncomputable def kept (p:Program) (w:World) (s:Shared):Bool:=staticsOk (importedModules p.main.body) (boot_heap w.params) s.heap&&namesBound p s.heap&&gensDone s&&laidKept (boot_heap w.params) s.heap
noncomputable def ev {α:Type} (p q:Program) (loose:List Str) (lv:List (Str×WData)) (Yf:Shared→α) (n:Nat) (e:Pos) (w:World) (os:OsState) :=
  (run p n w os).map fun x=>(x.1,x.2.2,(fin p e w x.2.1).map fun s=>(kept p w s,openSeen q loose (importedModules p.main.body) (fun s=>xlAt q lv s&&recOk [] s) true s,Yf s))
noncomputable def evTo {α:Type} (p q:Program) (loose:List Str) (Ya:World→α) (e:Pos) (w:World) :=
  some (Flow.next,(codeOf p,e),some (true,(expectedOf q,bltViewBooted,true,true,pinGoodD (drecsOf q),
    plainGoodE q (looseW q loose),plainGoodD q loose,wideGood q,clsGoodW q loose),Ya w))
theorem S0_size (w:World) (os:OsState):((S0 w os).heap.isNs mainGlobals&&(S0 w os).gens.size == 0)=true∧(S0 w os).heap.objs.size=11∧(S0 w os).heap.nsMap mainGlobals "__annotations__"=annB:=by
  refine⟨?_,?_,?_⟩<;>kernel_rfl
theorem left {α:Type} {p q:Program} {loose:List Str} {lv:List (Str×WData)} {Yf:Shared→α} {Ya:World→α} {N n:Nat} {e:Pos}
    (ho:opening p=plainProg p.main.scope.names) (hN:Nat.ble 600 N=true) (hf:∀ s,fenceModules? p s=some s)
    (h1:∀ w,(fun os=>pre p w os)=fun os=>preTo p w os) (h2:∀ w,(fun os=>blk p w os)=fun os=>blkTo p w os)
    (h3:∀ w,(fun os=>ev p q loose lv Yf n e w os)=fun _=>evTo p q loose Ya e w) (hl:Nat.ble (12+(1+(n+2))) N=true) :
    LeftO p q loose (fun s=>xlAt q lv s&&recOk [] s) Yf Ya N:=fun w=>by
  obtain⟨s,es,eb⟩:=Option.map_eq_some_iff.mp (boot_open ho hN hf w)
  obtain⟨hp,gs,dr,tk,os⟩:=s
  have sz:=S0_size w os
  obtain⟨rfl,rfl,rfl,rfl⟩:hp=boot_heap w.params∧gs=Array.mk []∧dr=boot_drawn∧tk=boot_toks:=by
    have:=eb
    simp only[Prod.mk.injEq] at this
    exact this
  obtain⟨x,ex,ey⟩:=Option.map_eq_some_iff.mp (congrFun (h3 w) os)
  obtain⟨f,xT,c,pe⟩:=x
  have q1:=(Prod.mk.inj ey).1
  have q2:=(Prod.mk.inj (Prod.mk.inj ey).2).1
  have q3:=(Prod.mk.inj (Prod.mk.inj ey).2).2
  dsimp only at q1 q2 q3
  subst q1
  cases q2
  obtain⟨s1,e1,e2⟩:=Option.map_eq_some_iff.mp q3
  have r3:topRun treeTable p w 11 annB (n+2) (SB w os).abs (restOf (behindTheImports p++[]) (envOf p) (codeOf p) pos0 [topFrame pos0])=some s1:=piece_app (segRun_of ex) (piece_nil e1)
  rw[List.append_nil] at r3
  have r2:=piece_block (congrFun (h2 w) os) r3
  have r1:=go_top (congrFun (h1 w) os) r2
  have r0:=topRun_mono (N - (12+(1+(n+2)))) _ _ _ _ r1
  rw[show 12+(1+(n+2))+(N - (12+(1+(n+2))))=N by have:=Nat.le_of_ble_eq_true hl;omega] at r0
  have k1:=(Prod.mk.inj e2).1
  have k2:=(Prod.mk.inj (Prod.mk.inj e2).2).1
  have k3:=(Prod.mk.inj (Prod.mk.inj e2).2).2
  have t:topFrom treeTable p w N (S0 w os)=some s1:=by
    unfold topFrom
    rw[sz.1,sz.2.1,sz.2.2]
    dsimp only
    rw[r0,Option.bind_some]
    have k1':(staticsOk (importedModules p.main.body) (S0 w os).heap s1.heap&&namesBound p s1.heap&&gensDone s1&&laidKept (S0 w os).heap s1.heap)=true:=k1
    rw[k1']
  unfold openEnds
  rw[es,Option.bind_some]
  have t':=congrArg (Option.map fun s=>(openSeen q loose (importedModules p.main.body) (fun s=>xlAt q lv s&&recOk [] s) true s,Yf s)) t
  exact t'.trans (congrArg some (Prod.ext k2 k3))
theorem pre_self:@pre=@pre:=rfl
theorem preTo_self:@preTo=@preTo:=rfl
theorem blk_self:@blk=@blk:=rfl
theorem blkTo_self:@blkTo=@blkTo:=rfl
theorem ev_self:@ev=@ev:=rfl
theorem evTo_self:@evTo=@evTo:=rfl
end Hd
name_quick hdPre for Hd.pre by Hd.pre_self
name_quick hdPreTo for Hd.preTo by Hd.preTo_self
name_quick hdBlk for Hd.blk by Hd.blk_self
name_quick hdBlkTo for Hd.blkTo by Hd.blkTo_self
name_quick hdEv for Hd.ev by Hd.ev_self
name_quick hdEvTo for Hd.evTo by Hd.evTo_self
namespace Hd
open PySem PySem.W PySem.Calls PyProof.Rows L2
noncomputable def pick (h:Heap) (as:List Addr):Frag:=as.filterMap fun a=>(h.get? a).map fun o=>(a,o)
theorem pick_in (h:Heap):∀ as:List Addr,(pick h as).In h
  | []=>fun _ _ e=>by cases e
  | b :: as=>fun a o e=>by
    have ih:=pick_in h as a o
    have e':List.lookup a (pick h (b :: as))=some o:=e
    unfold pick at e'
    rw[List.filterMap_cons] at e'
    cases z:h.get? b with
    | none=>rw[z] at e';exact ih e'
    | some u =>
      rw[z] at e'
      dsimp only[Option.map] at e'
      rw[List.lookup_cons] at e'
      split at e'
      · rename_i hb
        have:=eq_of_beq hb
        subst this
        cases e'
        exact z
      · exact ih e'
noncomputable def stAt (p:Program) (i:Nat):Stmt:=p.main.body.getD i (.Pass ⟨0,0,0,0⟩)
noncomputable def nm:Stmt→Str
  | .FunctionDef n _ _ _ _ _ _ _ _ _=>n
  | .ClassDef n _ _ _ _ _ _ _ _ _ _=>n
  | .Assign [.Name n _] _ _=>n
  | _=>Str.empty
noncomputable def constS:PySem.Expr→Str
  | .Constant (.str s) _ _=>s
  | .Name n _=>n
  | _=>Str.empty
noncomputable def tupLit:Stmt→List Str
  | .Assign _ (.Tuple es _ _) _=>es.map constS
  | _=>[]
noncomputable def dictLit:Stmt→List (Str×Str)
  | .Assign _ (.Dict ks vs _) _=>List.zip (ks.map fun k=>match k with | some e=>constS e | none=>Str.empty) (vs.map constS)
  | _=>[]
structure Ask where
  fns:List Nat
  tups:List Nat
  kfs:List Nat
  kds:List Nat
  bl:List Str
noncomputable abbrev FnD:=Str×Str×Arguments×FuncBody×Scope×Addr×List (Str×Addr)×Value×Addr×Bool
noncomputable def fnD (K:Frag) (fd:FuncData):FnD:=(fd.name,fd.qualname,fd.params,fd.body,fd.scope,fd.globals,fd.closure,fd.defaults,fd.builtins,codeIn K fd.code fd.qualname)
noncomputable def refSeen (K:Frag) (x:Str):Option (Addr×Obj):=match nsIn K mainGlobals x with
  | some (some (.ref f))=>(K.lookup f).map fun o=>(f,o)
  | _=>none
noncomputable def fnSeen (K:Frag) (x:Str):Option FnD:=match refSeen K x with
  | some (_,⟨_,_,.func fd,_⟩)=>some (fnD K fd)
  | _=>none
noncomputable def fnWant (st:Stmt):Option FnD:=some (nm st,nm st,defArgs st,.stmts (defBody st),defScope st,mainGlobals,[],.none,builtinsNs,true)
theorem ref_of {K:Frag} {x:Str} {r:Addr×Obj} (e:refSeen K x=some r):nsIn K mainGlobals x=some (some (.ref r.1))∧K.lookup r.1=some r.2:=by
  unfold refSeen at e
  split at e
  · rename_i f hf
    obtain⟨o,e1,e2⟩:=Option.map_eq_some_iff.mp e
    subst e2
    exact⟨hf,e1⟩
  · cases e
theorem fn_of {K:Frag} {st:Stmt} (e:fnSeen K (nm st)=fnWant st):∃ (f:Addr) (oc:Value) (od:Option Addr) (sl:Array (Option Value)) (kV dc pm:Value) (an:Option Addr) (cd ct:Value),
    nsIn K mainGlobals (nm st)=some (some (.ref f))∧K.lookup f=some ⟨oc,od,.func (fnOf (nm st) (nm st) (defArgs st) (defBody st) (defScope st) .none kV dc pm an cd ct),sl⟩∧codeIn K cd (nm st)=true∧keepIn K (.ref f)=true:=by
  unfold fnSeen at e
  split at e
  · rename_i f oc od fd sl h
    obtain⟨h1,h2⟩:=ref_of h
    dsimp only at h1 h2
    obtain⟨a1,a2,a3,a4,a5,a6,a7,a8,a9,a10,a11,a12,a13,a14,a15⟩:=fd
    have e:=Option.some.inj e
    simp only[fnD,Prod.mk.injEq] at e
    obtain⟨rfl,rfl,rfl,rfl,rfl,rfl,rfl,rfl,rfl,hc⟩:=e
    refine⟨f,oc,od,sl,_,_,_,_,_,_,h1,h2,hc,?_⟩
    show (match K.lookup f with | some ⟨_,_,.func _,_⟩=>true | some ⟨_,_,.cls _,_⟩=>specialIn K (.ref f) "__call__" == some (some (.builtin "type.__call__")) | _=>false)=true
    rw[h2]
  · cases e
noncomputable def strOf:Value→Option Str
  | .str s _=>some s
  | _=>none
theorem strOf_eq {v:Value} {s:Str} (e:strOf v=some s):∃ t,v=.str s t:=by
  unfold strOf at e
  split at e
  · cases e;exact⟨_,rfl⟩
  · cases e
noncomputable def tupSeen (K:Frag) (x:Str):Option (Value×List (Option Str)):=match refSeen K x with
  | some (_,⟨c,_,.seq vs _,_⟩)=>some (c,vs.toList.map strOf)
  | _=>none
noncomputable def tupWant (st:Stmt):Option (Value×List (Option Str)):=some (.type "tuple",(tupLit st).map some)
theorem vals_strs:∀ {l:List Str} {vs:List Value},vs.map strOf=l.map some→Vals (l.map V.str) vs
  | [],[],_=>.nil
  | [],_ :: _,e=>by cases e
  | _ :: _,[],e=>by cases e
  | s :: l,v :: vs,e=>by
    have e1:=(List.cons.inj e).1
    have e2:=(List.cons.inj e).2
    exact .cons (strOf_eq e1) (vals_strs e2)
theorem tup_of {K:Frag} {st:Stmt} (e:tupSeen K (nm st)=tupWant st) (hl:(tupLit st).length≤sizeLine):∃ a:Addr,nsIn K mainGlobals (nm st)=some (some (.ref a))∧∀ H,SqT K H a ((tupLit st).map V.str):=by
  unfold tupSeen at e
  split at e
  · rename_i a c od vs n sl h
    obtain⟨h1,h2⟩:=ref_of h
    have e:=Option.some.inj e
    obtain⟨rfl,e2⟩:=Prod.mk.inj e
    refine⟨a,h1,fun H=>.inr ⟨_,_,_,h2,rfl,rfl,?_,vals_strs e2⟩⟩
    have:=congrArg List.length e2
    rw[List.length_map,List.length_map,Array.length_toList] at this
    rw[this]
    exact hl
  · cases e
noncomputable abbrev DiD:=Value×Option Addr×Array (Option Value)×Bool×Nat×List (Int×Option Str×Bool)
noncomputable def kfRow (K:Frag) (e:DictEntry) (kf:Str×Str):Int×Option Str×Bool:=(e.hash,strOf e.key,nsIn K mainGlobals kf.2 == some (some e.val))
noncomputable def kfSeen (K:Frag) (x:Str) (kfs:List (Str×Str)):Option DiD:=match refSeen K x with
  | some (a,⟨c,od,.dict es _,sl⟩)=>some (c,od,sl,a == sysModules,es.toList.length,List.zipWith (kfRow K) es.toList kfs)
  | _=>none
noncomputable def kfWant (P:Params) (kfs:List (Str×Str)):Option DiD:=some (.type "dict",none,#[],false,kfs.length,kfs.map fun kf=>(PyData.keyHash P kf.1,some kf.1,true))
theorem kf_pairs {K:Frag} {w:World}:∀ {kfs:List (Str×Str)} {es:List DictEntry} {fs:List Addr},es.length=kfs.length→List.zipWith (kfRow K) es kfs=kfs.map (fun kf=>(PyData.keyHash w.params kf.1,some kf.1,true)) →
    Paired (fun (kf:Str×Str) (f:Addr)=>nsIn K mainGlobals kf.2=some (some (.ref f))) kfs fs →
    Paired (fun (p:Str×V) (e:DictEntry)=>(∃ tk,e.key=.str p.1 tk)∧e.hash=PyData.keyHash w.params p.1∧RelV p.2 e.val) (List.zipWith (fun kf f=>(kf.1,V.ref f)) kfs fs) es
  | [],[],_,_,_,r=>by cases r;exact .nil
  | [],_ :: _,_,h,_,_=>by cases h
  | _ :: _,[],_,h,_,_=>by cases h
  | kf :: kfs,e :: es,_,h,q,r=>by
    cases r with
    | @cons _ f _ fs h1 t =>
      have q1:=(List.cons.inj q).1
      have q2:=(List.cons.inj q).2
      simp only[kfRow,Prod.mk.injEq] at q1
      obtain⟨q3,q4,q5⟩:=q1
      have q6:=eq_of_beq q5
      rw[h1] at q6
      refine .cons ⟨strOf_eq q4,q3,?_⟩ (kf_pairs (Nat.succ.inj h) q2 t)
      have:e.val=.ref f:=(Option.some.inj (Option.some.inj q6)).symm
      rw[this]
      exact rfl
theorem kf_of {K:Frag} {w:World} {st:Stmt} (e:kfSeen K (nm st) (dictLit st)=kfWant w.params (dictLit st)) (fs:List Addr) (hf:Paired (fun (kf:Str×Str) (f:Addr)=>nsIn K mainGlobals kf.2=some (some (.ref f))) (dictLit st) fs)
    (nd:((List.zipWith (fun kf f=>(kf.1,V.ref f)) (dictLit st) fs).map (·.1)).Nodup):∃ a:Addr,nsIn K mainGlobals (nm st)=some (some (.ref a))∧KDict K w a (List.zipWith (fun kf f=>(kf.1,V.ref f)) (dictLit st) fs):=by
  unfold kfSeen at e
  split at e
  · rename_i a c od es n sl h
    obtain⟨h1,h2⟩:=ref_of h
    have e:=Option.some.inj e
    simp only[Prod.mk.injEq] at e
    obtain⟨rfl,rfl,rfl,e4,e5,e6⟩:=e
    exact⟨a,h1,⟨_,es,n,h2,⟨rfl,rfl,rfl⟩,rfl,kf_pairs e5 e6 hf⟩,nd,e4⟩
  · cases e
noncomputable abbrev DsD:=Value×Option Addr×Array (Option Value)×Bool×List (Int×Option Str×Option Str)
noncomputable def kdSeen (K:Frag) (x:Str):Option DsD:=match refSeen K x with
  | some (a,⟨c,od,.dict es _,sl⟩)=>some (c,od,sl,a == sysModules,es.toList.map fun e=>(e.hash,strOf e.key,strOf e.val))
  | _=>none
noncomputable def kdWant (P:Params) (kvs:List (Str×Str)):Option DsD:=some (.type "dict",none,#[],false,kvs.map fun kv=>(PyData.keyHash P kv.1,some kv.1,some kv.2))
noncomputable abbrev Obs:=List (Option FnD)×List (Option (Value×List (Option Str)))×List (Option DiD)×List (Option DsD)×List (Option (Option Value))
noncomputable def obsK (p:Program) (A:Ask) (K:Frag):Obs :=
  (A.fns.map fun i=>fnSeen K (nm (stAt p i)),A.tups.map fun i=>tupSeen K (nm (stAt p i)),A.kfs.map fun i=>kfSeen K (nm (stAt p i)) (dictLit (stAt p i)),A.kds.map fun i=>kdSeen K (nm (stAt p i)),A.bl.map fun x=>nsIn K mainGlobals x)
noncomputable def valK (p:Program) (A:Ask) (P:Params):Obs :=
  (A.fns.map fun i=>fnWant (stAt p i),A.tups.map fun i=>tupWant (stAt p i),A.kfs.map fun i=>kfWant P (dictLit (stAt p i)),A.kds.map fun i=>kdWant P (dictLit (stAt p i)),A.bl.map fun _=>some none)
noncomputable def addrs (p:Program) (A:Ask) (h:Heap):List Addr :=
  mainGlobals :: (A.fns++A.tups++A.kfs++A.kds).flatMap fun i=>match nsIn (pick h [mainGlobals]) mainGlobals (nm (stAt p i)) with
    | some (some (.ref a))=>a :: (match h.get? a with
      | some ⟨_,_,.func fd,_⟩=>(match fd.code with | .ref c=>[c] | _=>[])
      | _=>[])
    | _=>[]
theorem map_at {α β:Type} {f g:α→β} {l:List α} (e:l.map f=l.map g) {a:α} (h:a∈l):f a=g a:=List.map_inj_left.mp e a h
section
variable {p:Program} {A:Ask} {K:Frag} {P:Params} (e:obsK p A K=valK p A P)
theorem e_fn (e:obsK p A K=valK p A P) {i:Nat} (h:i∈A.fns):fnSeen K (nm (stAt p i))=fnWant (stAt p i):=map_at (f:=fun i=>fnSeen K (nm (stAt p i))) (g:=fun i=>fnWant (stAt p i)) (Prod.mk.inj e).1 h
theorem e_tup (e:obsK p A K=valK p A P) {i:Nat} (h:i∈A.tups):tupSeen K (nm (stAt p i))=tupWant (stAt p i):=map_at (f:=fun i=>tupSeen K (nm (stAt p i))) (g:=fun i=>tupWant (stAt p i)) (Prod.mk.inj (Prod.mk.inj e).2).1 h
theorem e_kf (e:obsK p A K=valK p A P) {i:Nat} (h:i∈A.kfs):kfSeen K (nm (stAt p i)) (dictLit (stAt p i))=kfWant P (dictLit (stAt p i)) :=
  map_at (f:=fun i=>kfSeen K (nm (stAt p i)) (dictLit (stAt p i))) (g:=fun i=>kfWant P (dictLit (stAt p i))) (Prod.mk.inj (Prod.mk.inj (Prod.mk.inj e).2).2).1 h
theorem e_bl (e:obsK p A K=valK p A P) {x:Str} (h:x∈A.bl):nsIn K mainGlobals x=some none :=
  map_at (f:=fun x=>nsIn K mainGlobals x) (g:=fun _=>some none) (Prod.mk.inj (Prod.mk.inj (Prod.mk.inj (Prod.mk.inj e).2).2).2).2 h
end
end Hd
namespace Hd
open PySem PySem.W PySem.Calls PySem.Spec PyProof.Rows L2
noncomputable def posOf:Stmt→Pos
  | .FunctionDef _ _ _ _ _ _ _ _ _ p=>p
  | _=>⟨0,0,0,0⟩
noncomputable def FnF (K:Frag) (x:Str) (st:Stmt):Prop:=∃ (f:Addr) (oc:Value) (od:Option Addr) (sl:Array (Option Value)) (kV dc pm:Value) (an:Option Addr) (cd ct:Value),
  nsIn K mainGlobals x=some (some (.ref f))∧K.lookup f=some ⟨oc,od,.func (fnOf x x (defArgs st) (defBody st) (defScope st) .none kV dc pm an cd ct),sl⟩∧codeIn K cd x=true∧keepIn K (.ref f)=true
theorem fn_ofx {K:Frag} {x:Str} {st:Stmt} (hx:nm st=x) (e:fnSeen K (nm st)=fnWant st):FnF K x st:=hx▸fn_of e
noncomputable def FunF (K:Frag) (x:Str) (st:Stmt):Prop:=∃ (f:Addr) (fd:FuncData),nsIn K mainGlobals x=some (some (.ref f))∧Fun K x x st f fd
theorem fun_ofx {K:Frag} {x:Str} {st:Stmt} (hx:nm st=x) (e:fnSeen K (nm st)=fnWant st):FunF K x st:=by
  obtain⟨f,oc,od,sl,kV,dc,pm,an,cd,ct,a,l,c,k⟩:=fn_ofx hx e
  exact⟨f,_,a,fun_mk l c k⟩
noncomputable def TupF (K:Frag) (x:Str) (l:List Str):Prop:=∃ a:Addr,nsIn K mainGlobals x=some (some (.ref a))∧∀ H,SqT K H a (l.map V.str)
theorem tup_ofx {K:Frag} {x:Str} {st:Stmt} {l:List Str} (hx:nm st=x) (hl:tupLit st=l) (hz:l.length≤sizeLine) (e:tupSeen K (nm st)=tupWant st):TupF K x l:=by
  subst hx hl
  exact tup_of e hz
noncomputable def KfF (K:Frag) (w:World) (x:Str) (l:List (Str×V)):Prop:=∃ a:Addr,nsIn K mainGlobals x=some (some (.ref a))∧KDict K w a l
theorem kf_ofx {K:Frag} {w:World} {x:Str} {st:Stmt} {l:List (Str×Str)} (fs:List Addr) (hx:nm st=x) (hl:dictLit st=l) (hf:Paired (fun (kf:Str×Str) (f:Addr)=>nsIn K mainGlobals kf.2=some (some (.ref f))) l fs)
    (nd:((List.zipWith (fun kf f=>(kf.1,V.ref f)) l fs).map (·.1)).Nodup) (e:kfSeen K (nm st) (dictLit st)=kfWant w.params (dictLit st)):KfF K w x (List.zipWith (fun kf f=>(kf.1,V.ref f)) l fs):=by
  subst hx hl
  exact kf_of e fs hf nd
end Hd
namespace L2
open PySem PySem.Spec PyProof.Rows Ken
end L2
namespace L2
open PySem PySem.Spec PyProof.Rows PySem.W
end L2
namespace L2
open PySem PySem.Spec PyProof.Rows PySem.W
end L2
namespace L2
open PySem PySem.Spec PyProof.Rows PySem.W
end L2
namespace L2
open PySem PySem.Spec PyProof.Rows Ken
end L2
namespace L2
open PySem PySem.Spec PyProof.Rows
section
variable {X:Cx} {K:PySem.W.Frag}
theorem nsOk_mk {N:Addr} {c:Value} {d:Option Addr} {es:Array DictEntry} {ep:Nat} {sl:Array (Option Value)} (l:K.lookup N=some ⟨c,d,.dict es ep,sl⟩) (h:(es.toList.all fun e=>match e.key with | .str _ _=>true | _=>false)=true):PySem.W.nsOkIn K N=true:=by
  unfold PySem.W.nsOkIn
  rw[l]
  show (es.all _)=true
  rw[← Array.all_toList]
  exact h
theorem tail_own {B N:Addr} {nm q:Str} {bs bm:List Value} {hdct:Bool} {sn:List Str} {sub:List Value} {ab:Bool} {col:Option Bool} {dd:Option Addr} {k0 k1 k2 k3 k5:Option Value} {nw:String}
    (l:K.lookup B=some (excClassObj nm q B N bs bm hdct sn sub ab col dd k0 k1 k2 k3 k5 nw)) (hn:PySem.W.nsOkIn K N=true) (hi:PySem.W.nsIn K N "__init__"=some none):PySem.W.tailIn K bmV (.ref B :: bmV)=true:=by
  rw[PySem.W.tailIn.eq_2,l]
  unfold excClassObj
  dsimp only
  rw[hn,hi,show PySem.W.tailIn K bmV bmV=true by rw[PySem.W.tailIn.eq_def];rfl]
  exact Bool.or_true _
theorem cls_some {C:Addr} (h:PySem.W.hasDictIn K C=true):(PySem.W.clsIn K C).isSome=true:=by
  unfold PySem.W.hasDictIn at h
  cases e:PySem.W.clsIn K C with
  | none=>rw[e] at h;cases h
  | some _=>rfl
end
end L2
namespace Hd
open PySem PySem.W PySem.Calls PySem.Spec PyProof.Rows L2
noncomputable def adr (K:Frag) (x:Str):Addr:=match nsIn K mainGlobals x with
  | some (some (.ref a))=>a
  | _=>0
noncomputable def isRef (K:Frag) (x:Str):Bool:=match nsIn K mainGlobals x with
  | some (some (.ref _))=>true
  | _=>false
theorem adr_of {K:Frag} {x:Str} (h:isRef K x=true):nsIn K mainGlobals x=some (some (.ref (adr K x))):=by
  unfold isRef at h
  unfold adr
  split at h
  · rename_i a e
    rw[e]
  · cases h
noncomputable def excForm (o:Obj) (C:Addr):Option (List Value×Addr):=match o with
  | ⟨c,_,.cls cd,sl⟩=>(match cd.mro,sl.toList with
    | .ref c1 :: bm,[_,_,_,_,some (.builtin n),_]=>if c=.type "type"∧c1=C∧cd.hasDel=false∧n="ValueError.__new__" then some (bm,cd.ns) else none
    | _,_=>none)
  | _=>none
theorem exc_of {o:Obj} {C N:Addr} {bm:List Value} (h:excForm o C=some (bm,N)):∃ (nm q:Str) (bs:List Value) (hdct:Bool) (sn:List Str) (sub:List Value) (ab:Bool) (col:Option Bool) (dd:Option Addr) (k0 k1 k2 k3 k5:Option Value),
    o=excClassObj nm q C N bs bm hdct sn sub ab col dd k0 k1 k2 k3 k5 "ValueError.__new__":=by
  unfold excForm at h
  split at h
  · rename_i c dd cd sl
    split at h
    · rename_i c1 bm' k0 k1 k2 k3 n k5 hm hs
      split at h
      · rename_i hc
        obtain⟨h1,h2,h3,h4⟩:=hc
        have h:=Option.some.inj h
        obtain⟨e1,e2⟩:=Prod.mk.inj h
        obtain⟨nm,bs,mro,ns,q,hd,sn,sub,ab,col,del⟩:=cd
        dsimp only at hm h3 e2
        subst hm h1 h2 h3 h4 e1 e2
        refine⟨nm,q,bs,hd,sn,sub,ab,col,dd,k0,k1,k2,k3,k5,?_⟩
        have:sl=#[k0,k1,k2,k3,some (.builtin "ValueError.__new__"),k5]:=Array.toList_inj.mp hs
        rw[this]
      · cases h
    · cases h
  · cases h
noncomputable def nsOkL (K:Frag) (N:Addr):Bool:=match K.lookup N with
  | some ⟨_,_,.dict es _,_⟩=>es.toList.all fun e=>match e.key with | .str _ _=>true | _=>false
  | _=>false
theorem nsOkL_of {K:Frag} {N:Addr} (h:nsOkL K N=true):nsOkIn K N=true:=by
  unfold nsOkL at h
  split at h
  · rename_i l
    exact nsOk_mk l h
  · cases h
noncomputable def excOk (K:Frag) (C B:Addr):Bool:=match (K.lookup C).bind (excForm · C),(K.lookup B).bind (excForm · B) with
  | some (bm,N),some (_,M)=>bm == .ref B :: bmV&&nsOkL K N&&nsOkL K M&&nsIn K N "__init__" == some none&&nsIn K M "__init__" == some none
  | _,_=>false
theorem xcls_of {K:Frag} {C B:Addr} (h:excOk K C B=true):XCls K C:=by
  unfold excOk at h
  split at h
  · rename_i bm N bm2 M hC hB
    obtain⟨o,l,f⟩:=Option.bind_eq_some_iff.mp hC
    obtain⟨o2,l2,f2⟩:=Option.bind_eq_some_iff.mp hB
    simp only[Bool.and_eq_true] at h
    obtain⟨⟨⟨⟨h1,h2⟩,h3⟩,h4⟩,h5⟩:=h
    have h1:=eq_of_beq h1
    have h4:=eq_of_beq h4
    have h5:=eq_of_beq h5
    subst h1
    obtain⟨nm,q,bs,hd,sn,sub,ab,col,dd,k0,k1,k2,k3,k5,rfl⟩:=exc_of f
    obtain⟨nm',q',bs',hd',sn',sub',ab',col',dd',k0',k1',k2',k3',k5',rfl⟩:=exc_of f2
    exact xcls_mk l (tail_own l2 (nsOkL_of h3) h5) (nsOkL_of h2) h4
  · cases h
noncomputable def isiOk (K:Frag) (C:Addr):Bool:=findIn K (.ref C) "__getattribute__" == some (some (.builtin "BaseException.__getattribute__"))&&findIn K (.ref C) "__getattr__" == some none&&mroIn K C (.type "BaseException") == some true&&hasDictIn K C &&
  findIn K (.ref C) "__class__" == some (some (.builtin "object.__class__"))&&mroIn K C (.type "object") == some true
theorem xisi_of {K:Frag} {C:Addr} (h:isiOk K C=true):XIsi K C:=by
  unfold isiOk at h
  simp only[Bool.and_eq_true] at h
  obtain⟨⟨⟨⟨⟨h1,h2⟩,h3⟩,h4⟩,h5⟩,h6⟩:=h
  exact⟨⟨eq_of_beq h1,eq_of_beq h2,eq_of_beq h3⟩,cls_some h4,eq_of_beq h5,eq_of_beq h6⟩
structure ClsAsk where
  cls:List Nat
  exc:List (Nat×Nat)
  kit:List (Nat×List Nat)
noncomputable def at_ (p:Program) (K:Frag) (i:Nat):Addr:=adr K (nm (stAt p i))
noncomputable def chk (p:Program) (B:ClsAsk) (K:Frag):Bool :=
  (B.cls.all fun i=>isRef K (nm (stAt p i)))&&(B.exc.all fun ij=>excOk K (at_ p K ij.1) (at_ p K ij.2)&&isiOk K (at_ p K ij.1)&&kitOne K (.ref (at_ p K ij.1)) (.ref (at_ p K ij.2)) == some true&&kitOne K (.ref (at_ p K ij.1)) (.type "ValueError") == some true) &&
  B.kit.all fun ij=>kitAny K (.ref (at_ p K ij.1)) (ij.2.map fun j=>.ref (at_ p K j)) == some false
section
variable {p:Program} {B:ClsAsk} {K:Frag}
theorem c_ref (h:chk p B K=true) {i:Nat} (hi:i∈B.cls):nsIn K mainGlobals (nm (stAt p i))=some (some (.ref (at_ p K i))):=by
  unfold chk at h
  simp only[Bool.and_eq_true] at h
  exact adr_of (List.all_eq_true.mp h.1.1 i hi)
theorem c_refx {x:Str} (h:chk p B K=true) {i:Nat} (hx:nm (stAt p i)=x) (hi:i∈B.cls):nsIn K mainGlobals x=some (some (.ref (at_ p K i))):=hx▸c_ref h hi
theorem c_exc (h:chk p B K=true) {ij:Nat×Nat} (hi:ij∈B.exc):XCls K (at_ p K ij.1)∧XIsi K (at_ p K ij.1)∧kitOne K (.ref (at_ p K ij.1)) (.ref (at_ p K ij.2))=some true∧kitOne K (.ref (at_ p K ij.1)) (.type "ValueError")=some true:=by
  unfold chk at h
  simp only[Bool.and_eq_true] at h
  have:=List.all_eq_true.mp h.1.2 ij hi
  simp only[Bool.and_eq_true] at this
  obtain⟨⟨⟨h1,h2⟩,h3⟩,h4⟩:=this
  exact⟨xcls_of h1,xisi_of h2,eq_of_beq h3,eq_of_beq h4⟩
end
noncomputable def addrs2 (p:Program) (A:Ask) (B:ClsAsk) (h:Heap):List Addr :=
  addrs p A h++B.cls.flatMap fun i=>match nsIn (pick h [mainGlobals]) mainGlobals (nm (stAt p i)) with
    | some (some (.ref a))=>a :: (match h.get? a with
      | some ⟨_,_,.cls cd,_⟩=>[cd.ns]
      | _=>[])
    | _=>[]
noncomputable def obs2 (p:Program) (A:Ask) (B:ClsAsk) (s:Shared):Obs×Bool:=(obsK p A (pick s.heap (addrs2 p A B s.heap)),chk p B (pick s.heap (addrs2 p A B s.heap)))
noncomputable def val2 (p:Program) (A:Ask) (w:World):Obs×Bool:=(valK p A w.params,true)
noncomputable def hook2 (p:Program) (A:Ask) (B:ClsAsk):Hook :=
  ⟨Obs×Bool,obs2 p A B,val2 p A,fun w h=>∃ K:Frag,K.In h∧obsK p A K=valK p A w.params∧chk p B K=true,fun w s e=>⟨_,pick_in _ _,(Prod.mk.inj e).1,(Prod.mk.inj e).2⟩,fun w h h' x k=>by
    obtain⟨K,i,e⟩:=x
    exact⟨K,fun a o z=>k _ _ (i a o z),e⟩⟩
theorem walkH2 {l:OpenLaw} {n k:Nat} {q p:Program} {A:Ask} {B:ClsAsk} {loose:List Str} {XP:(Str→Option Value)→Heap→Prop} {d:DefRec} {CX:CXT} {sp:Frag→Sp} {x:Str}
    (hn:l.most=some n) (hn2:n≤sizeLine) (hdf:d.params.defaults=[]) (hr:Room k callerA)
    (F:∀ (w:World) (mg:Str→Option Value) (fa:Addr) (h:Heap) (K:Frag),K.In h→h.Ns mainGlobals mg→mg d.name=some (.ref fa)→obsK p A K=valK p A w.params→chk p B K=true →
      ∃ fd:FuncData,(∀ (s:Shared) (u:Value),BindsTo s fd ⟨[u],[]⟩ [(x,u)])∧∀ base:Heap,K.In base→base.Ns mainGlobals mg→FnOk l.prog w K mg base CX k fa fd [x] (sp K))
    (hsp:∀ (K:Frag) (H:Hp) (a:Addr) (ns:List Int),ns.length≤n→Only H→SqL K H a (ns.map V.int)→sp K [.ref a] H (fun v _=>v=.bl true) fun _ _ _=>False)
    (hCX:∀ (H:Hp) (s:Shared) (e:Value) (s':Shared),CX [] H s (fun _ _ _=>False) e s'→False) :
    WalkO q loose XP (hook2 p A B).says l.row.toRowW d [] (fun f vs=>PySem.call f vs) :=
  Att.attach_call hn hdf fun w s₀ s₁ mg mb fa o pm cd doc a vs ns G Y ho hd hcd hmg hobj hints hlen hg=>by
    obtain⟨K,KX,E,D⟩:=Y
    obtain⟨fd,hb,hF⟩:=F w mg fa _ K KX G.T.g hmg E D
    exact law_call KX G.T.g G.T.b G.T.builtins G.T.nolimit hg hobj hints (Nat.le_trans hlen hn2) hr hF hb (fun H hO hS=>hsp K H a ns hlen hO hS) fun H e s'=>hCX H s₁ e s'
theorem obs2_self:@obs2=@obs2:=rfl
end Hd
name_quick hdObs2 for Hd.obs2 by Hd.obs2_self
namespace Hd
open PySem PySem.W PySem.Calls PySem.Spec PyProof.Rows L2
end Hd
namespace L2
open PySem PySem.Spec PyProof.Rows Ken
end L2
namespace L2
open PySem PySem.Spec PyProof.Rows Ken
section
variable {X:Cx}
noncomputable def rMaxL (K:PySem.W.Frag):List V→Hp→VK→Prop:=fun vs H Q=>∃ (a:Addr) (ns:List Int),vs=[.ref a]∧SqL K H a (ns.map V.int)∧ns≠[]∧∀ m,m∈ns→(∀ n∈ns,n≤m)→Q (.int m) H
theorem intsOf:∀ {ns:List Int} {us:List Value},Vals (ns.map V.int) us→∃ xs:List (Int×Tok),us=xs.map (fun p=>Value.int p.1 p.2)∧xs.map (·.1)=ns
  | [],_,r=>by cases r;exact⟨[],rfl,rfl⟩
  | n :: ns,_,r=>by
    cases r with
    | cons h t =>
      obtain⟨tk,rfl⟩:=h
      obtain⟨xs,rfl,e⟩:=intsOf t
      exact⟨(n,tk) :: xs,rfl,by rw[List.map_cons,e]⟩
theorem call_maxL (hc:X.calm=true):CallR X (.builtin "max") (rMaxL X.K):=by
  intro pins s σ H vs us Q I r h
  obtain⟨a,ns,rfl,hq,hne,q⟩:=h
  obtain⟨u,rfl,ru⟩:=vals1 r
  cases ru
  obtain⟨its,rv,pl,hz⟩:=I.list hq
  obtain⟨xs,rfl,ex⟩:=intsOf rv
  have ei:intItems xs.toArray=(xs.map (fun p=>Value.int p.1 p.2)).toArray:=by simp[intItems]
  have hpos:0 < xs.length:=by
    cases xs with
    | nil=>exact absurd ex.symm hne
    | cons _ _=>exact Nat.succ_pos _
  refine max_intList (xs:=xs.toArray) (I.ok.hd hc) (by rw[ei];exact pl.isList) (by simpa using hpos) fun v h' tk hv k=>?_
  obtain⟨t,rfl⟩:=intItems_at hv
  obtain⟨b1,b2⟩:=argBest_gt (numAt xs.toArray) (xs.toArray.size - 1)
  have hsz:xs.toArray.size=xs.length:=by simp
  rw[hsz] at b1 b2 hv ⊢
  have nat:∀ i,i < xs.length→∃ p∈xs,numAt xs.toArray i=p.1:=fun i hi=>⟨xs[i],List.getElem_mem hi,by simp[numAt,hi]⟩
  refine⟨.int _,H,I.kept k,⟨_,rfl⟩,q _ ?_ ?_⟩
  · obtain⟨p,hp,e⟩:=nat (argBest (fun i j=>decide (numAt xs.toArray i > numAt xs.toArray j)) (xs.length - 1)) (by omega)
    rw[e,← ex]
    exact List.mem_map_of_mem hp
  · intro n hn
    rw[← ex] at hn
    obtain⟨p,hp,rfl⟩:=List.mem_map.mp hn
    obtain⟨i,hi,rfl⟩:=List.getElem_of_mem hp
    have:=b2 i (by omega)
    have e:numAt xs.toArray i=xs[i].1:=by simp[numAt,hi]
    rw[e] at this
    exact this
end
end L2
namespace Ken
open PySem L2
structure Ln where
  x:Str
  R:Option Rl
  ws:List Tm
  g:Tm
  on:Option Tm
  ls:List Int
noncomputable def IsLn (K:PySem.W.Frag) (H:Hp) (v:V) (l:Ln):Prop:=∃ (p wa la:Addr) (gv ov:V) (us:List V),v=.ref p∧SqT K H p [.str l.x,.ref wa,gv,ov,.ref la]∧H wa=some (.lst us)∧Paired (IsT K H) us l.ws∧IsT K H gv l.g∧OnX K H ov l.on∧H la=some (.lst (l.ls.map V.int))
theorem IsLn.keep {K:PySem.W.Frag} {H H':Hp} (e:Same H H') {v:V} {l:Ln} (h:IsLn K H v l):IsLn K H' v l:=by
  obtain⟨p,wa,la,gv,ov,us,rfl,h1,h2,h3,h4,h5,h6⟩:=h
  exact⟨p,wa,la,gv,ov,us,rfl,e.sqt h1,e _ _ h2,Za6 e.keepT h3,h4.keep e.keepT,h5.keep e.keepT,e _ _ h6⟩
noncomputable def IsLnF (K:PySem.W.Frag) (H0 H:Hp) (v:V) (l:Ln):Prop:=∃ (p wa la:Addr) (gv ov:V) (us:List V),v=.ref p∧SqT K H p [.str l.x,.ref wa,gv,ov,.ref la]∧H wa=some (.lst us)∧Paired (IsT K H) us l.ws∧IsT K H gv l.g∧OnX K H ov l.on∧H la=some (.lst (l.ls.map V.int))∧H0 wa=none∧H0 la=none
theorem IsLnF.ln {K:PySem.W.Frag} {H0 H:Hp} {v:V} {l:Ln} (h:IsLnF K H0 H v l):IsLn K H v l:=by
  obtain⟨p,wa,la,gv,ov,us,rfl,h1,h2,h3,h4,h5,h6,_,_⟩:=h
  exact⟨p,wa,la,gv,ov,us,rfl,h1,h2,h3,h4,h5,h6⟩
theorem IsLnF.keep {K:PySem.W.Frag} {H0 H H':Hp} (e:Same H H') {v:V} {l:Ln} (h:IsLnF K H0 H v l):IsLnF K H0 H' v l:=by
  obtain⟨p,wa,la,gv,ov,us,rfl,h1,h2,h3,h4,h5,h6,n1,n2⟩:=h
  exact⟨p,wa,la,gv,ov,us,rfl,e.sqt h1,e _ _ h2,Za6 e.keepT h3,h4.keep e.keepT,h5.keep e.keepT,e _ _ h6,n1,n2⟩
theorem IsLnF.mono {K:PySem.W.Frag} {H0 H1 H:Hp} (e:Same H0 H1) {v:V} {l:Ln} (h:IsLnF K H1 H v l):IsLnF K H0 H v l:=by
  obtain⟨p,wa,la,gv,ov,us,rfl,h1,h2,h3,h4,h5,h6,n1,n2⟩:=h
  exact⟨p,wa,la,gv,ov,us,rfl,h1,h2,h3,h4,h5,h6,e.free n1,e.free n2⟩
noncomputable abbrev IsLns (K:PySem.W.Frag) (H:Hp):List V→List Ln→Prop:=Paired (IsLn K H)
theorem IsLns.keep {K:PySem.W.Frag} {H H':Hp} (e:Same H H') {vs:List V} {L:List Ln} (h:IsLns K H vs L):IsLns K H' vs L:=Paired.mapP h fun _ _ q=>q.keep e
structure OkLn (l:Ln):Prop where
  r:RIs l.x l.R
  w:Okw l.ws
  wl:l.ws.length≤60
  g:l.g.ok
  gp:l.g.parts≤100
  ll:l.ls.length≤100
noncomputable def adjB:List Tm→Bool
  | a :: b :: r=>decide (cmpT a b < 0)&&adjB (b :: r)
  | _=>true
theorem adjB_iff:∀ {ws:List Tm},adjB ws=true↔sortedT ws
  | []=>⟨fun _=>.nil,fun _=>rfl⟩
  | [a]=>⟨fun _=>List.pairwise_singleton _ _,fun _=>rfl⟩
  | a :: b :: r=>by
    show (decide (cmpT a b < 0)&&adjB (b :: r))=true↔_
    rw[Bool.and_eq_true,decide_eq_true_iff,adjB_iff,cmp_lt]
    constructor
    · rintro⟨h1,h2⟩
      refine List.pairwise_cons.mpr ⟨fun x hx=>?_,h2⟩
      rcases List.mem_cons.mp hx with z | z
      · rw[z];exact h1
      · exact Zg8 h1 ((List.pairwise_cons.mp h2).1 x z)
    · intro h
      have h':=List.pairwise_cons.mp h
      exact⟨h'.1 b List.mem_cons_self,h'.2⟩
theorem adjB_zip:∀ (ws:List Tm),(List.zipWith (fun a b=>decide (cmpT a b < 0)) ws ws.tail).all id=adjB ws
  | []=>rfl
  | [_]=>rfl
  | a :: b :: r=>by
    show (decide (cmpT a b < 0)&&(List.zipWith (fun a b=>decide (cmpT a b < 0)) (b :: r) (b :: r).tail).all id)=_
    rw[adjB_zip (b :: r)];rfl
noncomputable def servB (m:Ln) (ws:List Tm) (nd:Nd):Bool:=decide (m.g=nd.2)&&m.ws.all fun t=>decide (t∈nd.1)||decide (t∈ws)
noncomputable def leanB (L:List Ln) (ws:List Tm) (j:Int) (nd:Nd):Bool:=match L[j.toNat]? with
  | none=>false
  | some m=>servB m ws nd
noncomputable def goodL (L:List Ln) (i:Nat) (l:Ln):Bool:=adjB l.ws&&match needX l.R l.ws l.g l.on with
  | none=>false
  | some nds=>decide (nds.length=l.ls.length)&&((l.ls.all fun j=>decide (0≤j)&&decide (j < (i:Int)))&&(List.zipWith (leanB L l.ws) l.ls nds).all id)
noncomputable def lineB (L:List Ln) (i:Nat):Bool:=match L[i]? with
  | none=>false
  | some l=>goodL L i l
theorem needX_ok {R:Option Rl} {ws:List Tm} {g:Tm} {on:Option Tm} {nds:List Nd} (hs:sortedT ws) (hok:Okw ws) (gk:g.ok∧g.parts≤100) (h:needX R ws g on=some nds):∀ n∈nds,NdOk ws n:=by
  cases R with
  | none =>
    cases on with
    | none=>cases h
    | some o =>
      have h':(if o∈ws then needOX ws g o none else none)=some nds:=h
      split at h'<;>cases h'
  | some r =>
    cases on with
    | none=>exact need_ok (r:=r) (on:=none) hs hok gk (fun o z=>nomatch z) h
    | some o =>
      have h':(if o∈ws then needOX ws g o (some r) else none)=some nds:=h
      by_cases hin:o∈ws
      · rw[if_pos hin] at h'
        exact need_ok (r:=r) (on:=some o) hs hok gk (fun o' z=>by cases z;exact hin) h'
      · rw[if_neg hin] at h';cases h'
noncomputable def sp_arew (K:PySem.W.Frag):Sp:=fun vs H Q _=>∃ (a:Addr) (us:List V) (ts:List Tm),vs=[.ref a]∧H a=some (.lst us)∧Paired (IsT K H) us ts∧Okw ts∧ts.length≤900∧∀ H',Same H H'→Q (.bl (adjB ts)) H'
noncomputable def sp_nby (K:PySem.W.Frag):Sp:=fun vs H Q _=>∃ (v:V) (l:Ln),vs=[v]∧IsLn K H v l∧OkLn l∧sortedT l.ws∧(needX l.R l.ws l.g l.on=none→∀ H',Same H H'→Q .non H')∧(∀ nds,needX l.R l.ws l.g l.on=some nds→NdsQ K H Q nds)
noncomputable def sp_serves (K:PySem.W.Frag):Sp:=fun vs H Q _=>∃ (v nv:V) (wa:Addr) (m:Ln) (ws:List Tm) (o:ONd),vs=[v,.ref wa,nv]∧IsLn K H v m∧OkLn m∧IsW K H wa ws∧Okw ws∧ws.length≤900∧IsNdO K H nv o∧Okw o.2.1∧o.2.1.length≤900∧o.2.2.ok∧∀ H',Same H H'→Q (.bl (servB m ws o.2)) H'
noncomputable def sp_isgood (K:PySem.W.Frag):Sp:=fun vs H Q _=>∃ (a:Addr) (us:List V) (L:List Ln) (i:Nat),vs=[.ref a,.int (i:Nat)]∧H a=some (.lst us)∧IsLns K H us L∧(∀ l∈L,OkLn l)∧i < L.length∧L.length≤200∧∀ H',Same H H'→Q (.bl (lineB L i)) H'
noncomputable def sp_checkG (K:PySem.W.Frag):Sp:=fun vs H Q _=>∃ (a:Addr) (us:List V) (L:List Ln),vs=[.ref a]∧H a=some (.lst us)∧IsLns K H us L∧(∀ l∈L,OkLn l)∧L≠[]∧L.length≤200∧(∀ i,i < L.length→lineB L i=true)∧∀ H',Same H H'→Q (.bl true) H'
noncomputable def sp_partsL (K:PySem.W.Frag) (n:Nat):Sp:=fun vs H Q _=>∃ (v:V) (t:Tm),vs=[v]∧IsT K H v t∧t.deep < n∧∀ H',Same H H'→Q (.int (t.parts:Nat)) H'
noncomputable def sp_pick (K:PySem.W.Frag):Sp:=fun vs H Q _=>∃ (a:Addr) (c:Int) (ov:V) (us:List V) (ts:List Tm) (o:Tm),vs=[.ref a,.int c,ov]∧H a=some (.lst us)∧Paired (IsT K H) us ts∧Okw ts∧IsT K H ov o ∧
  ∀ (r:V) (t:Tm) (H':Hp),Same H H'→IsT K H' r t→(t=o∨t∈ts)→Q r H'
noncomputable def headS:Tm→Str
  | .low=>"low"
  | .ltr _=>"letter"
  | .nd k _ _=>k.str
theorem isT_headS {K:PySem.W.Frag} {H:Hp} {v:V} {t:Tm} (h:IsT K H v t):∃ p xs,v=.ref p∧SqT K H p (.str (headS t) :: xs):=by
  cases t with
  | low=>obtain⟨p,rfl,hs⟩:=isT_low.mp h;exact⟨p,_,rfl,hs⟩
  | ltr y=>obtain⟨p,rfl,hs⟩:=isT_ltr.mp h;exact⟨p,_,rfl,hs⟩
  | nd k a b=>obtain⟨p,x,y,rfl,hs,_⟩:=isT_nd.mp h;exact⟨p,_,rfl,hs⟩
theorem headS_thn {t:Tm} (h:headS t="then"):∃ a b,t=.nd .thn a b:=by
  cases t with
  | low=>exact absurd h (by decide)
  | ltr y=>exact absurd (show ("letter":Str)="then" from h) (by decide)
  | nd k a b =>
    have h':k.str="then":=h
    cases k with
    | thn=>exact⟨a,b,rfl⟩
    | both=>exact absurd h' (by decide)
    | one=>exact absurd h' (by decide)
theorem headS_both {t:Tm} (h:headS t="both"):∃ a b,t=.nd .both a b:=by
  cases t with
  | low=>exact absurd h (by decide)
  | ltr y=>exact absurd (show ("letter":Str)="both" from h) (by decide)
  | nd k a b =>
    have h':k.str="both":=h
    cases k with
    | both=>exact⟨a,b,rfl⟩
    | thn=>exact absurd h' (by decide)
    | one=>exact absurd h' (by decide)
noncomputable def foundB (on:Option Tm) (x:Str) (l:Ln):Prop:=match on with
  | some t=>l.g=t
  | none=>headS l.g=x
noncomputable def sp_found (K:PySem.W.Frag):Sp:=fun vs H Q _=>∃ (a:Addr) (us:List V) (L:List Ln) (st:Int) (gv:V) (on:Option Tm) (x:Str),vs=[.ref a,.int st,gv,.str x]∧H a=some (.lst us)∧IsLns K H us L∧(∀ l∈L,OkLn l)∧L.length≤200∧OnX K H gv on ∧
  ((∀ l∈L,¬ foundB on x l)→∀ H',Same H H'→Q .non H')∧(∀ n l,L[n]?=some l→foundB on x l→∀ H',Same H H'→Q (.int (n:Nat)) H')
structure OkL9 (l:Ln):Prop where
  ok:OkLn l
  w9:l.ws.length≤9
  w40:∀ t∈l.ws,t.parts≤40
  g40:l.g.parts≤40
structure GL (L:List Ln):Prop where
  good:∀ i,i < L.length→lineB L i=true
  ok:∀ l∈L,OkL9 l
  len:L.length≤150
structure NewL (L:List Ln) (l:Ln):Prop where
  ok:OkLn l
  good:goodL L L.length l=true
noncomputable def S40 (t:Tm):Prop:=t.ok∧t.parts≤40
noncomputable def sp_bygoal (K:PySem.W.Frag):Sp:=fun vs H Q _=>∃ (a:Addr) (us:List V) (L:List Ln) (c:Int) (i j:Nat) (ev:V) (ex:Tm),vs=[.ref a,.int c,.int (i:Nat),.int (j:Nat),ev]∧H a=some (.lst us)∧IsLns K H us L∧GL L∧i < L.length∧j < L.length∧IsT K H ev ex∧S40 ex ∧
  ∀ (v:V) (l:Ln) (H':Hp),Same H H'→IsLnF K H H' v l→NewL L l→Q v H'
noncomputable def sp_byif (K:PySem.W.Frag):Sp:=fun vs H Q _=>∃ (a:Addr) (us:List V) (L:List Ln) (c:Int) (i:Nat) (v1 v2 ev:V) (o1 o2 ex:Tm),vs=[.ref a,.int c,.int (i:Nat),v1,v2,ev]∧H a=some (.lst us)∧IsLns K H us L∧GL L∧i < L.length∧IsT K H v1 o1∧IsT K H v2 o2∧IsT K H ev ex∧S40 o1∧S40 o2∧ex.ok∧ex.parts≤3 ∧
  ∀ (v:V) (l:Ln) (H':Hp),Same H H'→IsLnF K H H' v l→NewL L l→Q v H'
noncomputable def sp_bytwo (K:PySem.W.Frag):Sp:=fun vs H Q _=>∃ (a:Addr) (us:List V) (L:List Ln) (c:Int) (i j:Nat) (v1 ev:V) (o1 ex:Tm),vs=[.ref a,.int c,.int (i:Nat),.int (j:Nat),v1,ev]∧H a=some (.lst us)∧IsLns K H us L∧GL L∧i < L.length∧j < L.length∧IsT K H v1 o1∧IsT K H ev ex∧S40 o1∧S40 ex ∧
  ∀ (v:V) (l:Ln) (H':Hp),Same H H'→IsLnF K H H' v l→NewL L l→Q v H'
noncomputable def sp_next (K:PySem.W.Frag):Sp:=fun vs H Q _=>∃ (a wa:Addr) (us:List V) (L:List Ln) (c:Int) (ws:List Str),vs=[.ref a,.int c,.ref wa]∧H a=some (.lst us)∧IsLns K H us L∧GL L∧L≠[]∧0≤c∧SqL K H wa (ws.map V.str)∧Words ws ∧
  ∀ (v:V) (l:Ln) (H':Hp),Same H H'→IsLnF K H H' v l→NewL L l→OkL9 l→Q v H'
noncomputable def sp_built (K:PySem.W.Frag):Sp:=fun vs H Q _=>∃ (a wa:Addr) (ns:List Int) (st most:Int) (ws:List Str),vs=[.ref a,.int st,.int most,.ref wa]∧SqL K H a (ns.map V.int)∧ns.length≤63∧0≤st∧st≤10∧0≤most∧most≤60∧SqL K H wa (ws.map V.str)∧Words ws ∧
  ∀ (r:Addr) (us:List V) (L:List Ln) (H':Hp),Same H H'→H r=none→H' r=some (.lst us)→IsLns K H' us L→GL L→L≠[]→Q (.ref r) H'
noncomputable def sp_copyL (K:PySem.W.Frag):Sp:=fun vs H Q _=>∃ (a:Addr) (us:List V) (L:List Ln),vs=[.ref a]∧H a=some (.lst us)∧IsLns K H us L∧(∀ l∈L,OkLn l)∧L.length≤200 ∧
  ∀ (r:Addr) (ys:List V) (H':Hp),Same H H'→H r=none→H' r=some (.lst ys)→IsLns K H' ys L→Q (.ref r) H'
noncomputable def sp_byneeds (K:PySem.W.Frag):Sp:=fun vs H Q _=>∃ (v:V) (l:Ln),vs=[v]∧IsLn K H v l∧OkL9 l∧sortedT l.ws∧needX l.R l.ws l.g l.on≠none∧∀ H',Same H H'→Q (.bl true) H'
theorem take_snocL {α:Type} {l:List α} {i:Nat} {t:α} (h:l[i]?=some t):l.take (i+1)=l.take i++[t]:=by rw[List.take_succ,h];rfl
theorem leanB_app {L M:List Ln} {ws:List Tm} {j:Int} {nd:Nd} (h:j.toNat < L.length):leanB (L++M) ws j nd=leanB L ws j nd:=by unfold leanB;rw[List.getElem?_append_left h]
theorem goodL_app {L M:List Ln} {i:Nat} {l:Ln} (hi:i≤L.length):goodL (L++M) i l=goodL L i l:=by
  unfold goodL
  congr 1
  cases needX l.R l.ws l.g l.on with
  | none=>rfl
  | some nds =>
    dsimp only
    congr 1
    by_cases h:(l.ls.all fun j=>decide (0≤j)&&decide (j < (i:Int)))=true
    · rw[h,Bool.true_and,Bool.true_and]
      have key:∀ (ls:List Int) (nds:List Nd),(ls.all fun j=>decide (0≤j)&&decide (j < (i:Int)))=true→List.zipWith (leanB (L++M) l.ws) ls nds=List.zipWith (leanB L l.ws) ls nds:=by
        intro ls
        induction ls with
        | nil=>intro nds _;rfl
        | cons j ls ih =>
          intro nds hall
          rw[List.all_cons,Bool.and_eq_true,Bool.and_eq_true,decide_eq_true_iff,decide_eq_true_iff] at hall
          cases nds with
          | nil=>rfl
          | cons nd nds =>
            rw[List.zipWith_cons_cons,List.zipWith_cons_cons,ih nds hall.2,leanB_app (by omega)]
      rw[key _ _ h]
    · rw[show (l.ls.all fun j=>decide (0≤j)&&decide (j < (i:Int)))=false by simpa using h];rfl
theorem lineB_app {L M:List Ln} {i:Nat} (h:i < L.length):lineB (L++M) i=lineB L i:=by
  unfold lineB
  rw[List.getElem?_append_left h,List.getElem?_eq_getElem h]
  exact goodL_app (Nat.le_of_lt h)
theorem GL.snoc {L:List Ln} {l:Ln} (G:GL L) (h:NewL L l) (h9:OkL9 l) (hl:L.length < 150):GL (L++[l]):=by
  refine⟨fun i hi=>?_,fun m hm=>?_,by rw[List.length_append,List.length_singleton];omega⟩
  · rw[List.length_append,List.length_singleton] at hi
    rcases Nat.lt_or_ge i L.length with z | z
    · rw[lineB_app z];exact G.good i z
    · have:i=L.length:=by omega
      subst this
      unfold lineB
      rw[List.getElem?_append_right (Nat.le_refl _),Nat.sub_self]
      show goodL (L++[l]) L.length l=true
      rw[goodL_app (Nat.le_refl _)];exact h.good
  · rcases List.mem_append.mp hm with z | z
    · exact G.ok m z
    · rw[List.mem_singleton.mp z];exact h9
theorem lcW_zipM {K:PySem.W.Frag} {σ0:St} {a b:Addr} {xs ys:List V} {acc:Addr} {g:TG} {te:TE} {Q:VK} {H:Hp} (Pv:Nat→List V→Hp→Prop) (n:Nat) (hn:n=min xs.length ys.length) (h0:Pv 0 [] (upd H acc (.lst []))) (hl:∀ i zs H2,i≤n→Pv i zs H2→H2 acc=some (.lst zs)∧zs.length < sizeLine∧SqL K H2 a xs∧SqL K H2 b ys)
    (hs:∀ i x y zs H2 T,xs[i]?=some x→ys[i]?=some y→H2 T=none→Pv i zs H2→∀ C:VK,(∀ v H5,H5 acc=some (.lst zs)→Pv (i+1) (zs++[v]) (upd H5 acc (.lst (zs++[v])))→C v H5)→g (.ref T) σ0 (upd H2 T (.tup [x,y])) fun σ4 H4=>Wk σ0 σ4∧te σ4 H4 C) (hd:∀ zs H2,Pv n zs H2→Q (.ref acc) H2) :
    ∃ W:Nat→Nat→List V→Hp→Prop,(∃ m,W 0 m [] (upd H acc (.lst [])))∧lcW K σ0 (Itz K a b) acc g te Q W:=by
  refine⟨fun i m zs H2=>m=n - i∧i≤n∧Pv i zs H2,⟨n,by simp,Nat.zero_le _,h0⟩,?_⟩
  rintro i m zs H2 ⟨rfl,hi,p⟩
  obtain⟨e1,e2,q1,q2⟩:=hl i zs H2 hi p
  refine⟨e1,e2,?_⟩
  by_cases hlt:i < n
  · have h1:i < xs.length:=by omega
    have h2:i < ys.length:=by omega
    refine .inr ⟨⟨xs,ys,xs[i],ys[i],q1,q2,List.getElem?_eq_getElem h1,List.getElem?_eq_getElem h2⟩,fun v H3 z=>?_⟩
    obtain⟨T,x,y,rfl,hT,rfl,z1,z2⟩:=z
    exact hs i x y zs _ T (z1 xs q1) (z2 ys q2) hT p _ fun v H5 z1 z2=>⟨z1,n - (i+1),by omega,rfl,hlt,z2⟩
  · have e:i=n:=by omega
    subst e
    exact .inl ⟨⟨xs,ys,q1,q2,by omega⟩,hd zs H2 p⟩
end Ken
namespace L2
open PySem
theorem passE0 {P:Program} {w:World} {X:Cx}:Passes (CXe P w) X E0:=fun _ _ _ _ _ _ _ h=>by
  obtain⟨ea,C,dd,T,H',_,_,_,_,_,hf,h⟩:=h
  exact (h none (upd H' ea (ExcO ea C dd none)) ⟨fun b o hb hne _=>by rw[Zc8 hne];exact hb,fun t q=>nomatch q⟩ ⟨Za2,fun t q=>nomatch q⟩).elim
end L2
namespace Ken
open PySem L2
noncomputable def longB:Tm→Bool
  | .nd _ _ b=>decide (headS b="then")
  | _=>false
theorem Zf4 {K:PySem.W.Frag} {H:Hp} {p wa la:Addr} {gv ov:V} {x:Str} {R:Option Rl} {ws:List Tm} {g:Tm} {on:Option Tm} {ls:List Int} (hp:H p=none) (hw:IsW K H wa ws) (hg:IsT K H gv g) (ho:OnX K H ov on) (hl:H la=some (.lst (ls.map V.int))) {H0:Hp} (fw:H0 wa=none) (fl:H0 la=none) :
    IsLnF K H0 (upd H p (.tup [.str x,.ref wa,gv,ov,.ref la])) (.ref p) ⟨x,R,ws,g,on,ls⟩:=by
  have s:=Za3 hp (HO.tup [.str x,.ref wa,gv,ov,.ref la])
  obtain⟨⟨us,h1,h2⟩,_⟩:=hw
  exact⟨p,wa,la,gv,ov,us,rfl,.inl (.inl Za2),s _ _ h1,Za6 s.keepT h2,hg.keep s.keepT,ho.keep s.keepT,s _ _ hl,fw,fl⟩
noncomputable def IsLnN (K:PySem.W.Frag) (d:Addr) (H:Hp) (v:V) (l:Ln):Prop:=∃ (p wa la:Addr) (gv ov:V) (us:List V),v=.ref p∧SqT K H p [.str l.x,.ref wa,gv,ov,.ref la]∧H wa=some (.lst us)∧Paired (IsT K H) us l.ws∧IsT K H gv l.g∧OnX K H ov l.on∧H la=some (.lst (l.ls.map V.int))∧wa≠d∧la≠d
theorem IsLnN.ln {K:PySem.W.Frag} {d:Addr} {H:Hp} {v:V} {l:Ln} (h:IsLnN K d H v l):IsLn K H v l:=by
  obtain⟨p,wa,la,gv,ov,us,rfl,h1,h2,h3,h4,h5,h6,_,_⟩:=h
  exact⟨p,wa,la,gv,ov,us,rfl,h1,h2,h3,h4,h5,h6⟩
theorem IsLnN.keep {K:PySem.W.Frag} {d:Addr} {H H':Hp} (e:Same H H') {v:V} {l:Ln} (h:IsLnN K d H v l):IsLnN K d H' v l:=by
  obtain⟨p,wa,la,gv,ov,us,rfl,h1,h2,h3,h4,h5,h6,n1,n2⟩:=h
  exact⟨p,wa,la,gv,ov,us,rfl,e.sqt h1,e _ _ h2,Za6 e.keepT h3,h4.keep e.keepT,h5.keep e.keepT,e _ _ h6,n1,n2⟩
theorem IsLnN.write {K:PySem.W.Frag} {d:Addr} {H:Hp} {xs ys:List V} {v:V} {l:Ln} (hd:H d=some (.lst xs)) (h:IsLnN K d H v l):IsLnN K d (upd H d (.lst ys)) v l:=by
  obtain⟨p,wa,la,gv,ov,us,rfl,h1,h2,h3,h4,h5,h6,n1,n2⟩:=h
  have kk:KeepT K H (upd H d (.lst ys)):=Zf6 hd
  exact⟨p,wa,la,gv,ov,us,rfl,kk _ _ h1,by rw[Zc8 n1];exact h2,Za6 kk h3,h4.keep kk,h5.keep kk,by rw[Zc8 n2];exact h6,n1,n2⟩
theorem IsLn.n {K:PySem.W.Frag} {d:Addr} {H0 H:Hp} {v:V} {l:Ln} (e:Same H0 H) (hd:H0 d=none) (h:IsLn K H0 v l):IsLnN K d H v l:=by
  obtain⟨p,wa,la,gv,ov,us,rfl,h1,h2,h3,h4,h5,h6⟩:=h
  exact⟨p,wa,la,gv,ov,us,rfl,e.sqt h1,e _ _ h2,Za6 e.keepT h3,h4.keep e.keepT,h5.keep e.keepT,e _ _ h6,Zb1 h2 hd,Zb1 h6 hd⟩
theorem IsLnF.n {K:PySem.W.Frag} {d:Addr} {H0 H:Hp} {o:HO} {v:V} {l:Ln} (h:IsLnF K H0 H v l) (hd:H0 d=some o):IsLnN K d H v l:=by
  obtain⟨p,wa,la,gv,ov,us,rfl,h1,h2,h3,h4,h5,h6,n1,n2⟩:=h
  exact⟨p,wa,la,gv,ov,us,rfl,h1,h2,h3,h4,h5,h6,Ne.symm (Zb1 hd n1),Ne.symm (Zb1 hd n2)⟩
theorem Zg4 {K:PySem.W.Frag} {H0:Hp} {p1:Addr} {us vs:List V} {ts rs:List Tm} {Q:VK} (hp1:H0 p1=none) (hU:Paired (IsT K H0) us ts) (hV:Paired (IsT K H0) vs rs) (ok1:Okw ts) (ok2:Okw rs) (hl:ts.length+rs.length < 64)
    (q:∀ (r:Addr) (H':Hp),Same H0 H'→H0 r=none→IsW K H' r (norm (ts++rs))→Q (.ref r) H'):sp_onceL K [.ref p1] (upd H0 p1 (.lst (us++vs))) Q E0:=by
  have s:=Za3 hp1 (HO.lst (us++vs))
  exact⟨p1,_,ts++rs,rfl,Za2,Zd3 (Za6 s.keepT hU) (Za6 s.keepT hV),fun t ht=>(List.mem_append.mp ht).elim (ok1 t) (ok2 t),by rw[List.length_append];exact hl,fun r H' e fr hw=>q r H' (s.trans e) (s.free fr) hw⟩
theorem Zf7 {K:PySem.W.Frag} {a acc:Addr} {us:List V} {ws:List Tm} {σ0:St} {tk:TK} {Q:Hp→Prop} {H:Hp} (f:Tm→Bool) (ha:H a=some (.lst us)) (hU:Paired (IsT K H) us ws) (hl:ws.length≤100) (hacc:H acc=none)
    (hw:∀ v,Wk σ0 (σ0.set 0 (some v)))
    (ht:∀ (v:V) (t:Tm) (H':Hp) (ys:List V) (N:Hp→Prop),t∈ws→Same H H'→IsT K H' v t→H' acc=some (.lst ys)→ys.length < 100 →
      (f t=true→∀ H'',Same H' H''→H'' acc=some (.lst ys)→N (upd H'' acc (.lst (ys++[v]))))→(f t=false→∀ H'',Same H' H''→N H'')→tk (σ0.set 0 (some v)) H' N)
    (hd:∀ (H':Hp) (ys:List V),Same H H'→H' acc=some (.lst ys)→Paired (IsT K H') ys (ws.filter f)→Q H') :
    ∃ W:Nat→Nat→Hp→Prop,(∃ m,W 0 m (upd H acc (.lst [])))∧compW σ0 (Itl K a) (gName 0) tk Q W:=by
  have lu:us.length=ws.length:=Paired.length hU
  refine comp_list (xs:=us) (fun i H'=>Same H H'∧∃ ys,H' acc=some (.lst ys)∧Paired (IsT K H') ys ((ws.take i).filter f)) ⟨Za3 hacc _,[],Za2,.nil⟩ (fun i H' _ ⟨e,_⟩=>SqL.of (e _ _ ha)) (fun i v H' N hv ⟨e,ys,h,hP⟩ hN=>?_) (fun H' ⟨e,ys,h,hP⟩=>?_)
  · obtain⟨t,ht',hT⟩:=paired_get hU hv
    have hi:i < ws.length:=(List.getElem?_eq_some_iff.mp ht').1
    have et:(ws.take (i+1)).filter f=(ws.take i).filter f++[t].filter f:=by rw[take_snoc ht',List.filter_append]
    have ly:=Paired.length hP
    have lf:((ws.take i).filter f).length≤i:=by
      have h1:=List.length_filter_le f (ws.take i)
      rw[List.length_take] at h1;omega
    show Wk σ0 (σ0.set 0 (some v))∧tk (σ0.set 0 (some v)) H' N
    refine⟨hw v,ht v t H' ys N (List.mem_of_getElem? ht') e (hT.keep e.keepT) h (by omega) (fun hf H'' e2 h2=>hN _ ⟨(e.trans e2).write hacc,_,Za2,?_⟩) (fun hf H'' e2=>hN _ ⟨e.trans e2,ys,e2 _ _ h,?_⟩)⟩
    · have kk:KeepT K H'' (upd H'' acc (.lst (ys++[v]))):=Zf6 h2
      rw[et,show [t].filter f=[t] by simp[hf]]
      exact Zd3 (Za6 (e2.keepT.trans kk) hP) (.cons ((hT.keep (e.trans e2).keepT).keep kk) .nil)
    · rw[et,show [t].filter f=[] by simp[hf],List.append_nil]
      exact Za6 e2.keepT hP
  · rw[lu,List.take_length] at hP
    exact hd H' ys e h hP
theorem comp_ne {K:PySem.W.Frag} {a acc:Addr} {us:List V} {ws:List Tm} {xv:V} {o:Tm} {Q:Hp→Prop} {H:Hp} (ha:H a=some (.lst us)) (hU:Paired (IsT K H) us ws) (hl:ws.length≤100) (hacc:H acc=none) (hok:Okw ws) (hx:IsT K H xv o) (ook:o.ok)
    (hd:∀ (H':Hp) (ys:List V),Same H H'→H' acc=some (.lst ys)→Paired (IsT K H') ys (rem ws o)→Q H') :
    ∃ W:Nat→Nat→Hp→Prop,(∃ m,W 0 m (upd H acc (.lst [])))∧compW [none,some xv] (Itl K a) (gName 0) (kTest (tTest (tOp (rEqD K true) (tVar 0) (tVar 1))) (kApp (tVar 0) acc)) Q W:=by
  refine Zf7 (fun t=>decide (t≠o)) ha hU hl hacc (fun v'=>Ze8 (i:=0) rfl) (fun v' t H' ys N htm e hT h hlen hy hn=>?_) hd
  have okt:=hok t htm
  simp only[kTest,kApp,tTest,tB,tOp,tVar,rEqD,List.set_cons_zero,List.getElem?_cons_zero,List.getElem?_cons_succ,Option.some.injEq,Option.join_some,exists_eq_left',exists_eq_left,V.bl.injEq,exists_and_left,and_assoc]
  refine⟨t.data,hT,o.data,hx.keep e.keepT,t.lay okt.1,o.lay ook,Nat.le_trans (Nat.min_le_left _ _) (by rw[Tm.depth];have:=okt.2;have:=Zd2 t;omega),?_⟩
  rw[Tm.eqv]
  by_cases hto:t=o
  · rw[if_neg (by rw[if_pos trivial,decide_eq_true hto];exact Bool.false_ne_true)]
    exact hn (decide_eq_false (fun z=>z hto)) _ (Same.refl _)
  · rw[if_pos (by rw[if_pos trivial,decide_eq_false hto];rfl)]
    exact⟨ys,h,Zb3 (by omega),hy (decide_eq_true hto) _ (Same.refl _) h⟩
theorem goodL_mk {L:List Ln} {i:Nat} {l:Ln} {nds:List Nd} (hs:sortedT l.ws) (hx:needX l.R l.ws l.g l.on=some nds) (hl:nds.length=l.ls.length) (hb:∀ (k:Nat) (j:Int) (nd:Nd),l.ls[k]?=some j→nds[k]?=some nd→∃ (n:Nat) (m:Ln),j=(n:Int)∧n < i∧L[n]?=some m∧m.g=nd.2∧∀ t∈m.ws,t∈nd.1∨t∈l.ws):goodL L i l=true:=by
  unfold goodL
  rw[adjB_iff.mpr hs,hx]
  show (decide (nds.length=l.ls.length)&&((l.ls.all fun j=>decide (0≤j)&&decide (j < (i:Int)))&&(List.zipWith (leanB L l.ws) l.ls nds).all id))=true
  have pick:∀ (k:Nat) (j:Int),l.ls[k]?=some j→∃ nd,nds[k]?=some nd:=fun k j h=>by
    have:k < l.ls.length:=(List.getElem?_eq_some_iff.mp h).1
    exact⟨_,List.getElem?_eq_getElem (show k < nds.length by omega)⟩
  rw[decide_eq_true hl,Bool.true_and,Bool.and_eq_true,List.all_eq_true,List.all_eq_true]
  refine⟨fun j hj=>?_,fun b hb'=>?_⟩
  · obtain⟨k,hk,e⟩:=List.getElem_of_mem hj
    have h1:l.ls[k]?=some j:=by rw[List.getElem?_eq_getElem hk,e]
    obtain⟨nd,h2⟩:=pick k j h1
    obtain⟨n,m,rfl,hn,_⟩:=hb k j nd h1 h2
    rw[Bool.and_eq_true,decide_eq_true_iff,decide_eq_true_iff]
    omega
  · obtain⟨k,hk,e⟩:=List.getElem_of_mem hb'
    rw[List.getElem_zipWith] at e
    rw[List.length_zipWith] at hk
    have hk1:k < l.ls.length:=by omega
    have hk2:k < nds.length:=by omega
    obtain⟨n,m,ej,hn,hm,hg,hw⟩:=hb k _ _ (List.getElem?_eq_getElem hk1) (List.getElem?_eq_getElem hk2)
    rw[← e,ej]
    show leanB L l.ws (n:Int) nds[k]=true
    unfold leanB
    rw[Int.toNat_natCast,hm]
    show servB m l.ws nds[k]=true
    unfold servB
    rw[decide_eq_true hg,Bool.true_and,List.all_eq_true]
    intro t ht
    rcases hw t ht with z | z
    · rw[decide_eq_true z];rfl
    · rw[decide_eq_true z,Bool.or_true]
theorem good0 {L:List Ln} {i:Nat} {l:Ln} (hs:sortedT l.ws) (hx:needX l.R l.ws l.g l.on=some []) (hl:l.ls=[]):goodL L i l=true:=goodL_mk hs hx (by rw[hl];rfl) fun k j nd _ h=>by simp at h
theorem good1 {L:List Ln} {i n:Nat} {l m:Ln} {nd:Nd} (hs:sortedT l.ws) (hx:needX l.R l.ws l.g l.on=some [nd]) (hl:l.ls=[(n:Int)]) (hn:n < i) (hm:L[n]?=some m) (hg:m.g=nd.2) (hw:∀ t∈m.ws,t∈nd.1∨t∈l.ws):goodL L i l=true:=goodL_mk hs hx (by rw[hl];rfl) fun k j nd' h1 h2=>by
  rw[hl] at h1
  match k,h1,h2 with
  | 0,h1,h2=>cases h1;cases h2;exact⟨n,m,rfl,hn,hm,hg,hw⟩
  | k+1,h1,_=>simp at h1
theorem good2 {L:List Ln} {i n n':Nat} {l m m':Ln} {nd nd':Nd} (hs:sortedT l.ws) (hx:needX l.R l.ws l.g l.on=some [nd,nd']) (hl:l.ls=[(n:Int),(n':Int)]) (hn:n < i) (hm:L[n]?=some m) (hg:m.g=nd.2) (hw:∀ t∈m.ws,t∈nd.1∨t∈l.ws)
    (hn':n' < i) (hm':L[n']?=some m') (hg':m'.g=nd'.2) (hw':∀ t∈m'.ws,t∈nd'.1∨t∈l.ws):goodL L i l=true:=goodL_mk hs hx (by rw[hl];rfl) fun k j nd'' h1 h2=>by
  rw[hl] at h1
  match k,h1,h2 with
  | 0,h1,h2=>cases h1;cases h2;exact⟨n,m,rfl,hn,hm,hg,hw⟩
  | 1,h1,h2=>cases h1;cases h2;exact⟨n',m',rfl,hn',hm',hg',hw'⟩
  | k+2,h1,_=>simp at h1
theorem OkL9.s40 {l:Ln} (h:OkL9 l):∀ t∈l.ws,S40 t:=fun t ht=>⟨(h.ok.w t ht).1,h.w40 t ht⟩
theorem GL.sorted {L:List Ln} (G:GL L) {i:Nat} {l:Ln} (h:L[i]?=some l):sortedT l.ws:=by
  have:=G.good i (List.getElem?_eq_some_iff.mp h).1
  unfold lineB at this
  rw[h] at this
  have h2:goodL L i l=true:=this
  unfold goodL at h2
  exact adjB_iff.mp (Bool.and_eq_true_iff.mp h2).1
theorem Zg0 {l m:List Tm} (h:Okw l) (h2:Okw m):Okw (l++m):=fun t ht=>(List.mem_append.mp ht).elim (h t) (h2 t)
theorem Zf0 {t:Tm} (h1:t.ok) (h2:t.parts≤100):Okw [t]:=fun x hx=>by rw[List.mem_singleton.mp hx];exact⟨h1,h2⟩
theorem S40.w {t:Tm} (h:S40 t):Okw [t]:=Zf0 h.1 (by have:=h.2;omega)
theorem Zf2 {l m:List Tm} {t:Tm} (h:t∈l):t∈norm (l++m):=mem_norm.mpr (List.mem_append.mpr (.inl h))
theorem Zd4 {l m:List Tm} {t:Tm} (h:t∈m):t∈norm (l++m):=mem_norm.mpr (List.mem_append.mpr (.inr h))
theorem Zd7 (l m:List Tm):(norm (l++m)).length≤l.length+m.length:=by have:=norm_len (l:=l++m);rw[List.length_append] at this;exact this
theorem Zf8 {l:List Tm} (h:Okw l):Okw (norm l):=fun t ht=>h t (mem_norm.mp ht)
end Ken
namespace Ken
open PySem L2
noncomputable def wishL (n:Nd):Ln:=⟨"wish",some .wish,n.1,n.2,none,[]⟩
theorem needX_two {R:Option Rl} {ws:List Tm} {g:Tm} {on:Option Tm} {nds:List Nd} (h:needX R ws g on=some nds):nds.length≤2:=by
  cases R with
  | none =>
    cases on with
    | none=>cases h
    | some o =>
      have h':(if o∈ws then needOX ws g o none else none)=some nds:=h
      split at h'<;>cases h'
  | some r =>
    cases on with
    | none =>
      have h':needG ws g r=some nds:=h
      unfold needG at h'
      repeat' split at h'
      all_goals first | cases h' | skip
      all_goals simp
    | some o =>
      have h':(if o∈ws then needO ws g o r else none)=some nds:=h
      by_cases hin:o∈ws
      · rw[if_pos hin] at h'
        unfold needO at h'
        repeat' split at h'
        all_goals first | cases h' | skip
        all_goals simp
      · rw[if_neg hin] at h';cases h'
noncomputable def lnD (l:Ln):PyData:=.tuple [.str l.x,.list (l.ws.map Tm.data),l.g.data,onD l.on,.list (l.ls.map PyData.int)]
theorem ints_dn {K:PySem.W.Frag} {H:Hp}:∀ ns:List Int,DnAll K H (ns.map V.int) (ns.map PyData.int)
  | []=>by show DnAll K H [] [];rw[DnAll]
  | n :: ns=>by
    show DnAll K H (V.int n :: ns.map V.int) (PyData.int n :: ns.map PyData.int)
    rw[DnAll]
    exact⟨_,_,rfl,by rw[Dn],ints_dn ns⟩
theorem IsLn.dn {K:PySem.W.Frag} {H:Hp} {v:V} {l:Ln} (h:IsLn K H v l):Dn K H v (lnD l):=by
  obtain⟨p,wa,la,gv,ov,us,rfl,h1,h2,h3,h4,h5,h6⟩:=h
  unfold lnD
  rw[Dn]
  refine⟨p,_,rfl,h1,?_⟩
  rw[DnAll]
  refine⟨_,_,rfl,by rw[Dn],?_⟩
  rw[DnAll]
  refine⟨_,_,rfl,?_,?_⟩
  · rw[Dn];exact⟨wa,us,rfl,SqL.of h2,tms_dn h3⟩
  rw[DnAll]
  refine⟨_,_,rfl,h4,?_⟩
  rw[DnAll]
  refine⟨_,_,rfl,?_,?_⟩
  · cases ho:l.on with
    | none=>rw[ho] at h5;have h5':ov=.non:=h5;subst h5';show Dn K H .non .none;rw[Dn]
    | some o=>rw[ho] at h5;exact h5.1
  rw[DnAll]
  refine⟨_,_,rfl,?_,by rw[DnAll]⟩
  rw[Dn]
  exact⟨la,_,rfl,SqL.of h6,ints_dn _⟩
theorem lns_dn {K:PySem.W.Frag} {H:Hp}:∀ {us:List V} {L:List Ln},IsLns K H us L→DnAll K H us (L.map lnD)
  | _,_,.nil=>by show DnAll K H [] [];rw[DnAll]
  | _,_,.cons h t=>by
    rw[List.map_cons,DnAll]
    exact⟨_,_,rfl,h.dn,lns_dn t⟩
theorem ris_lay {x:Str} {R:Option Rl} (h:RIs x R):(PyData.str x).canLay0=true:=by
  cases R with
  | some r=>have h':x=r.str:=h;subst h';cases r<;>decide +kernel
  | none =>
    have key:∀ x∈badN,(PyData.str x).canLay0=true:=by decide +kernel
    exact key x h
theorem lns_depth {K:PySem.W.Frag} {H:Hp} {us:List V} {L:List Ln} (h:IsLns K H us L) (ok:∀ l∈L,OkLn l):(PyData.list (L.map lnD)).depth≤103:=depth_list (n:=102) fun d hd=>by
  obtain⟨l,hl,rfl⟩:=List.mem_map.mp hd
  have okl:=ok l hl
  obtain⟨i,hi,e⟩:=List.getElem_of_mem hl
  have lu:=Paired.length h
  obtain⟨l',hl',hv⟩:=paired_get h (List.getElem?_eq_getElem (show i < us.length by omega))
  rw[List.getElem?_eq_getElem hi,e] at hl'
  cases hl'
  obtain⟨p,wa,la,gv,ov,ys,_,h1,h2,h3,h4,h5,h6⟩:=hv
  show (PyData.tuple [.str l.x,.list (l.ws.map Tm.data),l.g.data,onD l.on,.list (l.ls.map PyData.int)]).depth≤102
  have key:∀ ds:List PyData,(∀ d∈ds,d.depth≤101)→(PyData.tuple ds).depth≤102:=fun ds h=>depth_list (n:=101) h
  refine key _ fun d hd=>?_
  simp only[List.mem_cons,List.not_mem_nil,or_false] at hd
  rcases hd with rfl | rfl | rfl | rfl | rfl
  · exact Nat.zero_le _
  · exact tms_depth fun t ht=>by have:=(okl.w t ht).2;have:=Zd2 t;omega
  · rw[Tm.depth];have:=okl.gp;have:=Zd2 l.g;omega
  · cases ho:l.on with
    | none=>exact Nat.zero_le _
    | some o=>rw[ho] at h5;show o.data.depth≤101;rw[Tm.depth];have:=h5.2.2;have:=Zd2 o;omega
  · exact Nat.le_trans (depth_list (n:=0) fun d hd=>by obtain⟨n,_,rfl⟩:=List.mem_map.mp hd;exact Nat.le_refl _) (by decide)
theorem ln_lay {K:PySem.W.Frag} {H:Hp} {v:V} {l:Ln} (h:IsLn K H v l) (ok:OkLn l):(lnD l).canLay0=true:=by
  obtain⟨p,wa,la,gv,ov,us,rfl,h1,h2,h3,h4,h5,h6⟩:=h
  have a2:(PyData.list (l.ws.map Tm.data)).canLay0=true:=tms_lay fun t ht=>(ok.w t ht).1
  have a3:=l.g.lay ok.g
  have a4:(onD l.on).canLay0=true:=by
    cases ho:l.on with
    | none=>rfl
    | some o=>rw[ho] at h5;exact o.lay h5.2.1
  have a5:(PyData.list (l.ls.map PyData.int)).canLay0=true:=canLay_list fun d hd=>by obtain⟨n,_,rfl⟩:=List.mem_map.mp hd;rfl
  show ((PyData.str l.x).canLay0&&((PyData.list (l.ws.map Tm.data)).canLay0&&(l.g.data.canLay0&&((onD l.on).canLay0&&((PyData.list (l.ls.map PyData.int)).canLay0&&true)))))=true
  rw[ris_lay ok.r,a2,a3,a4,a5];rfl
theorem lns_lay {K:PySem.W.Frag} {H:Hp} {us:List V} {L:List Ln} (h:IsLns K H us L) (ok:∀ l∈L,OkLn l):(PyData.list (L.map lnD)).canLay0=true:=canLay_list fun d hd=>by
  obtain⟨l,hl,rfl⟩:=List.mem_map.mp hd
  obtain⟨i,hi,rfl⟩:=List.getElem_of_mem hl
  have lu:=Paired.length h
  obtain⟨l',hl',hv⟩:=paired_get h (List.getElem?_eq_getElem (show i < us.length by omega))
  rw[List.getElem?_eq_getElem hi] at hl'
  cases hl'
  exact ln_lay hv (ok _ (List.getElem_mem hi))
theorem ln_self (l:Ln):PyData.eqv (lnD l) (lnD l)=true:=by
  refine Zh6 (ds:=[.str l.x,.list (l.ws.map Tm.data),l.g.data,onD l.on,.list (l.ls.map PyData.int)]) fun d hd=>?_
  simp only[List.mem_cons,List.not_mem_nil,or_false] at hd
  rcases hd with rfl | rfl | rfl | rfl | rfl
  · exact str_self _
  · exact tms_self _
  · rw[Tm.eqv];exact decide_eq_true rfl
  · cases l.on with
    | none=>rfl
    | some o=>show PyData.eqv o.data o.data=true;rw[Tm.eqv];exact decide_eq_true rfl
  · refine Zh6 fun d hd=>?_
    obtain⟨n,_,rfl⟩:=List.mem_map.mp hd
    show ((n:Int) == n)=true
    simp
theorem lns_self (L:List Ln):PyData.eqv (.list (L.map lnD)) (.list (L.map lnD))=true:=Zh6 fun d hd=>by
  obtain⟨l,_,rfl⟩:=List.mem_map.mp hd
  exact ln_self l
theorem lineB_take {L:List Ln} {n i:Nat} (h:i < n) (hn:n≤L.length):lineB (L.take n) i=lineB L i:=by
  have e:L=L.take n++L.drop n:=(List.take_append_drop n L).symm
  conv=>rhs;rw[e]
  rw[lineB_app (by rw[List.length_take];omega)]
end Ken
namespace L2
open PySem PySem.Spec PyProof.Rows
noncomputable def stepN (a b c:Int):Nat:=(Builtin.Range.rangeSize a b c).toNat
theorem step_bd {a b c:Int} (hc:0 < c):0≤Builtin.Range.rangeSize a b c∧(a < b→Builtin.Range.rangeSize a b c≤b - a)∧(¬ a < b→Builtin.Range.rangeSize a b c=0):=by
  unfold Builtin.Range.rangeSize
  rw[if_pos hc]
  refine⟨?_,fun h=>?_,fun h=>if_neg h⟩
  · split
    · have:=Int.ediv_nonneg (show 0≤b - a - 1 by omega) (Int.le_of_lt hc);omega
    · omega
  · rw[if_pos h]
    have:=Int.ediv_le_self (b:=c) (show 0≤b - a - 1 by omega)
    omega
theorem step_lt {a b c:Int} (hc:0 < c) {i:Nat} (hi:i < stepN a b c):a+c*(i:Int) < b:=by
  unfold stepN at hi
  obtain⟨h0,_,h2⟩:=step_bd (a:=a) (b:=b) hc
  by_cases h:a < b
  · unfold Builtin.Range.rangeSize at hi
    rw[if_pos hc,if_pos h] at hi
    have h1:(i:Int)≤(b - a - 1) / c:=by omega
    have h3:c*(i:Int)≤c*((b - a - 1) / c):=Int.mul_le_mul_of_nonneg_left h1 (Int.le_of_lt hc)
    have h4:=Int.mul_ediv_self_le (x:=b - a - 1) (k:=c) (by omega)
    omega
  · rw[h2 h] at hi;exact absurd hi (Nat.not_lt_zero _)
noncomputable def Its3 (lo c:Int) (n:Nat):It:=⟨fun i _=>i < n,fun i H x H'=>H'=H∧x=.int (lo+c*i),fun i _=>n≤i⟩
theorem turn_step {P:Program} {w:World} {K:PySem.W.Frag} {tg:Expr} (it:Addr) (lo c:Int) (n:Nat):Turn P w K tg (Its3 lo c n) [it] it (fun i h=>IsRangeIter h it (lo+(i:Nat)*c) ((n:Int) - (i:Nat)) c) where
  mem:=by simp
  obj:=fun i h st b hb=>by
    have e:b=it:=by simpa using hb
    subst e
    exact⟨_,st,fun v z=>by
      have z':Data.fields _=Data.cell v:=z
      cases z'⟩
  keep:=fun i h h' st k=>k it (by simp) _ st
  item:=by
    intro X hP hw hK hc i pins s σ H E I hf st hg
    subst hP hw hK
    obtain⟨f0,f1,f2,f3,f4,f5⟩:=hf it (by simp)
    have W:=Walks.range (prog:=X.prog) (w:=X.w) (I.ok.hd hc) it lo c n
    refine W.item i s _ _ hg st fun v h' tk hv st' kk=>?_
    obtain⟨t,rfl⟩:=hv
    have I1:Inv X pins σ H { s with heap:=h',toks:=tk }:=I.turned (fun b o hb e=>kk b o (by simpa using hb) e) f0 f1 f3 f4 f5
    refine⟨_,rfl,go_of (s:={ s with heap:=h',toks:=tk }) (n:="range_iterator") st' rfl rfl (by decide) ⟨.int (lo+c*i),H,I1,⟨t,?_⟩,⟨rfl,rfl⟩,st',fun b hb=>(hf b hb).1⟩⟩
    rw[Int.mul_comm]
  done:=by
    intro X hP hw hK hc i pins s σ H E I hf st hg
    subst hP hw hK
    obtain⟨f0,f1,f2,f3,f4,f5⟩:=hf it (by simp)
    exact wpAny_pyNext_range_end (I.ok.hd hc) st (by have:n≤i:=hg;omega) fun h' eb=>⟨rfl,I.turned (t':=s.toks) (fun b o hb e=>eb b o hb e) f0 f1 f3 f4 f5⟩
  self:=fun _ _ _ _ _ st h=>wpAny_pyIter_rangeiter st h
theorem small_step {a b c:Int} (ha:-(2 ^ 60)≤a) (ha':a < 2 ^ 60) (hb:-(2 ^ 60)≤b) (hb':b < 2 ^ 60) (hc:0 < c) (hc':c < 2 ^ 60):Builtin.Range.small a b c=true:=by
  obtain⟨h0,h1,h2⟩:=step_bd (a:=a) (b:=b) hc
  have h3:Builtin.Range.rangeSize a b c≤2 ^ 61:=by
    by_cases h:a < b
    · have:=h1 h;omega
    · rw[h2 h];decide
  unfold Builtin.Range.small
  rw[if_pos hc]
  generalize Builtin.Range.rangeSize a b c=n at h0 h3
  simp only[Builtin.Range.rangeFitsLong,Bool.and_eq_true,Bool.or_eq_true,decide_eq_true_eq,beq_iff_eq]
  omega
section
variable {X:Cx} {tg:Expr}
theorem range_its {pins:List (Addr×Obj)} {σ:St} {H:Hp} {s:Shared} {R:It→Hp→Prop} {E:Value→Shared→Prop} {lo hi c:Int} {t u v:Tok} {tk:Nat} (I:Inv X pins σ H s) (h1:-(2 ^ 60)≤lo) (h2:lo < 2 ^ 60) (h3:-(2 ^ 60)≤hi) (h4:hi < 2 ^ 60) (h5:0 < c) (h6:c < 2 ^ 60)
    (q:R (Its3 lo c (stepN lo hi c)) H):wpAny (model X.prog X.w) X.A (pyIter (.ref s.heap.objs.size)) (PIE X pins σ tg R) E { s with heap:=s.heap.push { cls:=.type "range",data:=.fields #[.int lo t,.int hi u,.int c v] },toks:=tk }:=by
  refine wpAny_pyIter_range (IsRange.new ..) (small_step h1 h2 h3 h4 h5 h6) ?_
  have I1:Inv X pins σ H { s with heap:=s.heap.push { cls:=.type "range",data:=.fields #[.int lo t,.int hi u,.int c v] },toks:=tk }:=I.kept fun b o e=>Heap.get?_push_of_some _ e
  refine⟨(s.heap.push { cls:=.type "range",data:=.fields #[.int lo t,.int hi u,.int c v] }).objs.size,[(s.heap.push { cls:=.type "range",data:=.fields #[.int lo t,.int hi u,.int c v] }).objs.size],_,_,H,rfl,
    I1.kept (t':=tk) fun b o e=>Heap.get?_push_of_some _ e,turn_step _ lo c (stepN lo hi c),?_,fun b hb=>?_,q⟩
  · have e1:lo+((0:Nat):Int)*c=lo:=by simp
    have e2:(((stepN lo hi c:Nat)):Int) - ((0:Nat):Int)=Builtin.Range.rangeSize lo hi c:=by
      have:=(step_bd (a:=lo) (b:=hi) h5).1
      unfold stepN
      omega
    show IsRangeIter _ _ (lo+((0:Nat):Int)*c) (((stepN lo hi c:Nat):Int) - ((0:Nat):Int)) c
    rw[e1,e2]
    exact Heap.get?_push_size _ rfl
  · have e:b=(s.heap.push { cls:=.type "range",data:=.fields #[.int lo t,.int hi u,.int c v] }).objs.size:=by simpa using hb
    subst e
    exact I1.fpOk (Nat.le_refl _) (I1.hok.fresh (Nat.le_refl _))
noncomputable def iRngS (ta:TA):TI:=fun σ H R=>ta σ H fun vs H1=>∃ i j c:Int,vs=[.int i,.int j,.int c]∧(-10000≤i∧i < 10000∧-10000≤j∧j < 10000∧0 < c∧c < 10000)∧R (Its3 i c (stepN i j c)) H1
theorem pi_rangeS {a b c:Expr} {ta:TA} {p pos:Pos} (hg:Gl X "range") (hm:X.mg "range"=none) (ha:PA X [a,b,c] ta) (hs:starEach [a,b,c] X.env=[(false,eval a X.env),(false,eval b X.env),(false,eval c X.env)]:=by rfl) (hs2:starEach [b,c] X.env=[(false,eval b X.env),(false,eval c X.env)]:=by rfl) :
    PI X tg (.Call (.Name "range" p) [a,b,c] [] pos) (iRngS ta):=by
  intro pins s σ H R I h
  refine Call_ (ld_blt I hg hm boot_range (PyProof.Rows.callWith_type1 (thn (ha pos pins s σ H _ I h) fun us s1 ⟨vs,H1,I1,r1,q1⟩=>?_) (by rw[hs,hs2]) (by rw[hs2];rfl)))
  obtain⟨i,j,c,e,⟨q1,q2,q3,q4,q5,q6⟩,q⟩:=q1
  subst e
  cases r1 with
  | cons r rr =>
    cases rr with
    | cons r' rr =>
      cases rr with
      | cons r'' rr =>
        cases rr
        obtain⟨t,rfl⟩:=r
        obtain⟨t',rfl⟩:=r'
        obtain⟨t'',rfl⟩:=r''
        exact call_range_3 (by omega) (range_its I1 (by omega) (by omega) (by omega) (by omega) q5 (by omega) q) (.inl (PyProof.noPylong_small (by omega)))
noncomputable def rNotB:R2:=fun x y H Q=>∃ c,y=.bl c∧(∃ b,x=.bl b)∧Q (.bl (!decide (x=.bl c))) H
theorem op_notB:OpR X (compareOp .IsNot) rNotB:=by
  intro pins s σ H x y v u Q I rx ry h
  obtain⟨c,rfl,⟨b,rfl⟩,q⟩:=h
  cases (show u=Value.bool c from ry)
  cases (show v=Value.bool b from rx)
  refine wpAny_pure ⟨.bl (!decide (V.bl b=V.bl c)),H,I,?_,q⟩
  show Value.bool (Value.bool b != Value.bool c)=Value.bool (!decide (V.bl b=V.bl c))
  cases b<;>cases c<;>rfl
end
theorem for_step {lo c:Int} {n:Nat} {g:TG} {tb:TS} {D:Ends} {σ:St} {H:Hp} (Pv:Nat→St→Hp→Prop) (h0:Pv 0 σ H)
    (hs:∀ i σ H,i < n→Pv i σ H→g (.int (lo+c*i)) σ H fun σ2 H2=>tb { D with nx:=Pv (i+1),ct:=Pv (i+1),bk:=D.nx } σ2 H2) (hd:∀ σ H,Pv n σ H→D.nx σ H) :
    ∃ W:Nat→Nat→St→Hp→Prop,(∃ m,W 0 m σ H)∧∀ i m σ H,W i m σ H →
      ((Its3 lo c n).stop i H∧D.nx σ H)∨((Its3 lo c n).go i H∧∃ N:St→Hp→Prop,(∀ σ' H',N σ' H'→∃ m',m' < m∧W (i+1) m' σ' H')∧∀ x H',(Its3 lo c n).yld i H x H'→g x σ H' fun σ2 H2=>tb { D with nx:=N,ct:=N,bk:=D.nx } σ2 H2):=by
  refine⟨fun i m σ H=>m=n - i∧i≤n∧Pv i σ H,⟨n,by simp,Nat.zero_le _,h0⟩,?_⟩
  rintro i m σ H ⟨rfl,hi,p⟩
  by_cases hlt:i < n
  · refine .inr ⟨hlt,Pv (i+1),fun σ' H' p'=>⟨n - (i+1),by omega,rfl,hlt,p'⟩,fun x H' y=>?_⟩
    obtain⟨rfl,rfl⟩:=y
    exact hs i σ H' hlt p
  · have:i=n:=by omega
    subst this
    exact .inl ⟨Nat.le_refl _,hd σ H p⟩
theorem lcW_step {K:PySem.W.Frag} {σ0:St} {n:Nat} {lo c:Int} {acc:Addr} {g:TG} {te:TE} {Q:VK} {H:Hp} (Pv:Nat→List V→Hp→Prop) (h0:Pv 0 [] (upd H acc (.lst []))) (hl:∀ i ys H2,i≤n→Pv i ys H2→H2 acc=some (.lst ys)∧ys.length < sizeLine)
    (hs:∀ i ys H2,i < n→Pv i ys H2→∀ C:VK,(∀ y H5,H5 acc=some (.lst ys)→Pv (i+1) (ys++[y]) (upd H5 acc (.lst (ys++[y])))→C y H5)→g (.int (lo+c*i)) σ0 H2 fun σ4 H4=>Wk σ0 σ4∧te σ4 H4 C) (hd:∀ ys H2,Pv n ys H2→Q (.ref acc) H2) :
    ∃ W:Nat→Nat→List V→Hp→Prop,(∃ m,W 0 m [] (upd H acc (.lst [])))∧lcW K σ0 (Its3 lo c n) acc g te Q W:=by
  refine⟨fun i m ys H2=>m=n - i∧i≤n∧Pv i ys H2,⟨n,by simp,Nat.zero_le _,h0⟩,?_⟩
  rintro i m ys H2 ⟨rfl,hi,p⟩
  obtain⟨a,b⟩:=hl i ys H2 hi p
  refine⟨a,b,?_⟩
  by_cases hlt:i < n
  · refine .inr ⟨hlt,fun x H3 y=>?_⟩
    obtain⟨e,y⟩:=y
    subst e y
    exact hs i ys _ hlt p _ fun v H5 z1 z2=>⟨z1,n - (i+1),by omega,rfl,hlt,z2⟩
  · have e:i=n:=by omega
    subst e
    exact .inl ⟨Nat.le_refl _,hd ys H2 p⟩
end L2
namespace Ken
noncomputable def pickR {α:Type} (a0 a1 a2 a3 a4 a5 a6 a7 a8 a9 aa ab ac ad:α):Rl→α
  | .wish=>a0 | .low=>a1 | .both=>a2 | .first=>a3 | .second=>a4 | .thn=>a5 | .parts=>a6 | .cases=>a7 | .known=>a8 | .curried=>a9 | .either=>aa | .idle=>ab | .chain=>ac | .use=>ad
end Ken
namespace KLaw
open PySem L2 Ken
local macro_rules | `(tactic| walk_at "rdx_1")=>`(tactic| simp only[rMaxL,tRaise,tTryR,tHand,tFr,rIsB,tCallT,rListR1,rInsert,tIf,rInT,tCallL,tComp,kTest,kApp,tSeq,tAsg,gName,tVar,tC,tOp,rI0,rI,rU,tUn,tRet,tIfS,tTest,tB,tNext,tCons,tNil,tCB,tCall,tTup,tLst,tDrop,tAnd,tOr,tNot,tAndV,tOrV,tBM,tBM0,rAppend,rPop,rIxL,rIxT,rIxS,rCat,rEq,rNe,rMulS,tSl,rSlL,rSlS,tPart,tNoPart,rJoin,tFs,tFv,tFc,tF0,tKD,rEqD,tNever,tChain,rIn,tKNotIn,gTup,gCons,gNil,iRng1,iRng2,iList,iZip,L2.start,capt,List.map_cons,List.map_nil,List.length_cons,List.length_nil,List.cons_append,List.nil_append,List.append_nil,List.replicate_succ,List.replicate_zero,Nat.reduceAdd,Nat.reduceSub,Nat.zero_add,Nat.add_zero,Nat.sub_zero,List.getElem?_cons_zero,List.getElem?_cons_succ,List.getElem?_nil,List.set_cons_zero,List.set_cons_succ,Option.some.injEq,V.int.injEq,V.str.injEq,V.ref.injEq,V.bl.injEq,V.ty.injEq,List.cons.injEq,and_true,true_and,exists_eq_left',exists_eq_left,exists_and_left,exists_eq,exists_eq',and_assoc,Option.join_some,Option.join_none,scal_int,Ze2,scal_bl,cxOf_K,cxOf_K1,hand_K,nox_K,cxOf_prog,cxOf_w,blk_prog,blk_w,blk_K,decide_eq_true_eq])
local macro_rules | `(tactic| walk_at "rdx_2")=>`(tactic| simp only[rMaxL,tRaise,tTryR,tHand,tFr,rIsB,tCallT,rListR1,rInsert,tIf,rInT,tCallL,tComp,kTest,kApp,tFor,tLC,tVar,tC,tOp,rI0,rI,rU,tUn,tTest,tB,tCons,tNil,tCB,tCall,tTup,tLst,tAnd,tOr,tNot,tAndV,tOrV,tBM,tBM0,rAppend,rPop,rIxL,rIxT,rIxS,rCat,rEq,rNe,rMulS,tSl,rSlL,rSlS,tPart,tNoPart,rJoin,tFs,tFv,tFc,tF0,tKD,rEqD,tNever,tChain,rIn,tKNotIn,iRng1,iRng2,iList,iZip,L2.start,capt,List.map_cons,List.map_nil,List.length_cons,List.length_nil,List.cons_append,List.nil_append,List.append_nil,List.replicate_succ,List.replicate_zero,Nat.reduceAdd,Nat.reduceSub,Nat.zero_add,Nat.add_zero,Nat.sub_zero,List.getElem?_cons_zero,List.getElem?_cons_succ,List.getElem?_nil,List.set_cons_zero,List.set_cons_succ,Option.some.injEq,V.int.injEq,V.str.injEq,V.ref.injEq,V.bl.injEq,V.ty.injEq,List.cons.injEq,and_true,true_and,exists_eq_left',exists_eq_left,exists_and_left,exists_eq,exists_eq',and_assoc,Option.join_some,Option.join_none,scal_int,Ze2,scal_bl,cxOf_K,cxOf_K1,hand_K,nox_K,cxOf_prog,cxOf_w,blk_prog,blk_w,blk_K,decide_eq_true_eq])
local macro_rules | `(tactic| walk_at "rdx_3")=>`(tactic| simp only[rMaxL,tHand,tFr,rIsB,tCallT,rListR1,rInsert,tIf,rInT,tCallL,tComp,kTest,kApp,gName,tVar,tC,tOp,rI0,rI,rU,tUn,tIfS,tTest,tB,tNext,tCons,tNil,tCB,tCall,tTup,tLst,tAnd,tOr,tNot,tAndV,tOrV,tBM,tBM0,rAppend,rPop,rIxL,rIxT,rIxS,rCat,rEq,rNe,rMulS,tSl,rSlL,rSlS,tPart,tNoPart,rJoin,tFs,tFv,tFc,tF0,tKD,rEqD,tNever,tChain,rIn,tKNotIn,gTup,gCons,gNil,iRng1,iRng2,iList,iZip,L2.start,capt,List.map_cons,List.map_nil,List.length_cons,List.length_nil,List.cons_append,List.nil_append,List.append_nil,List.replicate_succ,List.replicate_zero,Nat.reduceAdd,Nat.reduceSub,Nat.zero_add,Nat.add_zero,Nat.sub_zero,List.getElem?_cons_zero,List.getElem?_cons_succ,List.getElem?_nil,List.set_cons_zero,List.set_cons_succ,Option.some.injEq,V.int.injEq,V.str.injEq,V.ref.injEq,V.bl.injEq,V.ty.injEq,List.cons.injEq,and_true,true_and,exists_eq_left',exists_eq_left,exists_and_left,exists_eq,exists_eq',and_assoc,Option.join_some,Option.join_none,scal_int,Ze2,scal_bl,cxOf_K,cxOf_K1,hand_K,nox_K,cxOf_prog,cxOf_w,blk_prog,blk_w,blk_K,decide_eq_true_eq])
noncomputable def top (i:Nat):Stmt:=PySem.Challenge.pw_ken_k24_lines_checked.main.body.getD i (.Pass ⟨0,0,0,0⟩)
noncomputable abbrev s_aj0:Stmt:=top 40
theorem sc_aj0:FnScope ["_law_cell_here","_law_k","_law_first"] ["_law_cell_here","_law_k"] (defScope s_aj0):=⟨rfl,rfl,rfl,by decide +kernel,rfl,by decide +kernel,by decide +kernel⟩
noncomputable abbrev s_af0:Stmt:=top 41
theorem sc_af0:FnScope ["_law_script","_law_k","_law_cell_here"] ["_law_script","_law_k"] (defScope s_af0):=⟨rfl,rfl,rfl,by decide +kernel,rfl,by decide +kernel,by decide +kernel⟩
noncomputable abbrev s_ap0:Stmt:=top 42
theorem sc_ap0:FnScope ["_law_cell_here","_law_small","_law_size","_law_at","_law_stem","_law_signs","_law_first","_law_found_here","_law_k","_law_sign"] ["_law_cell_here"] (defScope s_ap0):=⟨rfl,rfl,rfl,by decide +kernel,rfl,by decide +kernel,by decide +kernel⟩
section
variable {P:Program} {w:World} {K:PySem.W.Frag} {mg:Str→Option Value} {base:Heap}
theorem ok_aj0 {k:Nat} {f_aj0:Addr} {fd_aj0:FuncData} (F_aj0:Fun K "_law_mix" "_law_mix" s_aj0 f_aj0 fd_aj0):FnOk P w K mg base CX0 (k+1) f_aj0 fd_aj0 ["_law_cell_here","_law_k"] sp_mix:=by
  refine F_aj0.ok sc_aj0 (fun vs H Q E h=>?_) (fun cdv A outer s H vs Q E hr h=>?_)
  · obtain⟨c,k,rfl,_⟩:=h
    rfl
  obtain⟨c,k,rfl,h0,h1,q⟩:=h
  refine⟨_,(Za4 (Zb2 (i:=2) sc_aj0.nd rfl (Or.inl rfl) (Zc0 Ze5 (Zc0 op_mul (Zc0 Zf3 (pv 0) Za5) (Zc0 Zf3 Za5 (Zc0 op_mul Za5 (pv 1)))) Za5))
  (Za8 (Zb4 (Zc0 Ze5 (Zc0 Zf3 (Zc0 Zf3 (Zc0 op_mul (Zc0 Ze0 (pv 2) Za5) Za5) (Zc0 op_mul (pv 2) (Zc0 Zf3 (Zc0 op_mul (pv 1) (pv 1)) Za5))) (pv 1)) Za5)))),?_⟩
  walk_at "rdx_1"
  have a0:0≤(c+1)*(48271+118*k) % 2147483629:=Int.emod_nonneg _ (by decide)
  have a1:(c+1)*(48271+118*k) % 2147483629 < 2147483629:=Int.emod_lt_of_pos _ (by decide)
  refine⟨mul_left (by decide) (by decide),mul_right (by omega) (by omega),by decide,⟨by decide,by decide⟩,mul_right (by decide) (by decide),mul_left (by omega) (by omega),mul_left (by omega) (by omega),by decide,?_⟩
  exact q
theorem ok_af0 {k:Nat} {f_af0:Addr} {fd_af0:FuncData} (F_af0:Fun K "_law_cell" "_law_cell" s_af0 f_af0 fd_af0) {f_aj0:Addr} {fd_aj0:FuncData} (G_aj0:FnOk P w K mg base CX0 k f_aj0 fd_aj0 ["_law_cell_here","_law_k"] (sp_mix)) (m_aj0:mg "_law_mix"=some (.ref f_aj0)) (k_aj0:PySem.W.keepIn K (.ref f_aj0)=true) (b_aj0:Binds K fd_aj0 ["_law_cell_here","_law_k"] []) (m_len:mg "len"=none):FnOk P w K mg base CX0 (k+1) f_af0 fd_af0 ["_law_script","_law_k"] (sp_cell K):=by
  refine F_af0.ok sc_af0 (fun vs H Q E h=>?_) (fun cdv A outer s H vs Q E hr h=>?_)
  · obtain⟨a,ns,k,rfl,_⟩:=h
    rfl
  obtain⟨a,ns,j,rfl,hS,h63,h0,h1,q⟩:=h
  refine⟨_,(Za4 (Zb2 (i:=2) sc_af0.nd rfl (Or.inl rfl) Za5)
  (Za4 (Zd9 (Zb0 (op_lt) (pv 1) (Zd1 Zc3 (by exact rfl) m_len Ken.boot_len (Za0 (pv 0) Za1)) (Zb8 _))
    (Za8 (Zb2 (i:=2) sc_af0.nd rfl (Or.inl rfl) (Zc0 Ze5 (Zb6 Zd5 (pv 0) (pv 1) (fun _ _=>rfl)) Za5)))
    Zc4)
  (Za8 (Zb4 (Za9 G_aj0 hr (by exact rfl) m_aj0 k_aj0 b_aj0 .nil Zc2 (Za0 (pv 2) (Za0 (Zc0 Zf3 (pv 1) Za5) Za1))))))),?_⟩
  walk_at "rdx_1"
  refine⟨_,.inl hS,?_⟩
  rw[List.length_map]
  have e:cellOf ns j=mix (if j < (ns.length:Int) then (ns[j.toNat]?.getD 0) % 2147483647 else 0) (j+101):=rfl
  refine ite2 (fun c=>?_) (fun c=>?_)
  · rw[if_pos c] at e
    have hj:j.toNat < ns.length:=by omega
    refine⟨_,hS,V.int (ns[j.toNat]),?_,_,rfl,by decide,?_⟩
    · have ej:j=((j.toNat:Nat):Int):=by omega
      have q:atI (ns.map V.int) ((j.toNat:Nat):Int)=some (.int ns[j.toNat]):=Zd6 (by rw[List.getElem?_map,List.getElem?_eq_getElem hj]<;>rfl)
      rw[← ej] at q
      exact q
    · rw[List.getElem?_eq_getElem hj] at e
      rw[e] at q
      exact⟨_,_,rfl,by omega,by omega,q⟩
  · rw[if_neg c] at e
    rw[e] at q
    exact⟨_,_,rfl,by omega,by omega,q⟩
end
noncomputable abbrev s_bh0:Stmt:=top 7
theorem sc_bh0:FnScope ["one","other","waiting","first","second"] ["one","other"] (defScope s_bh0):=⟨rfl,rfl,rfl,by decide +kernel,rfl,by decide +kernel,by decide +kernel⟩
section
variable {P:Program} {w:World} {K:PySem.W.Frag} {mg:Str→Option Value} {base:Heap}
theorem ok_bh0 {k:Nat} {f_bh0:Addr} {fd_bh0:FuncData} (F_bh0:Fun K "compared" "compared" s_bh0 f_bh0 fd_bh0) {aPAIRED:Addr} (m_PAIRED:mg "PAIRED"=some (.ref aPAIRED)) (t_PAIRED:∀ H,SqT K H aPAIRED [.str "both",.str "one",.str "then"]):FnOk P w K mg base CX0 (k+1) f_bh0 fd_bh0 ["one","other"] (sp_compared K):=by
  refine F_bh0.ok sc_bh0 (fun vs H Q E h=>?_) (fun cdv A outer s H vs Q E hr h=>?_)
  · obtain⟨v,u,a,b,rfl,_⟩:=h
    rfl
  obtain⟨v,u,a,b,rfl,hv,hu,oa,ob,hp,q⟩:=h
  refine⟨_,(Za4 (Zb2 (i:=2) sc_bh0.nd rfl (Or.inl rfl) (Zc5 (Za0 (Zc1 (Za0 (pv 0) (Za0 (pv 1) Za1))) Za1)))
  (Za4 (ps_while PassesOwn.never (pt_truth (pv 2) (fun _=>rfl))
    (Za4 (ps_asg (pe_bm0 PySem.F.plainAttrs_list PySem.F.slot_list_pop PySem.F.type_list_pop mt_pop (pv 2)) (pg_tup rfl (Zc9 (Zb5 (i:=3) sc_bh0.nd rfl (Or.inl rfl)) (Zc9 (Zb5 (i:=4) sc_bh0.nd rfl (Or.inl rfl)) Zh4))))
  (Za4 (Zd9 (Zb0 (op_ne) (Zb6 Zb7 (pv 3) Za5 (fun _ _=>rfl)) (Zb6 Zb7 (pv 4) Za5 (fun _ _=>rfl)) (Zb8 _))
    (Za8 (Zb4 (Zh7 (Zb0 (op_lt_str) (Zb6 Zb7 (pv 3) Za5 (fun _ _=>rfl)) (Zb6 Zb7 (pv 4) Za5 (fun _ _=>rfl)) (Zb8 _)) (pe_un un_neg Za5) Za5)))
    Zc4)
  (Za8 (Zd9 (Zb0 (op_in_seq) (Zb6 Zb7 (pv 3) Za5 (fun _ _=>rfl)) (pe_glob (v:=.ref aPAIRED) (by exact rfl) m_PAIRED (by exact rfl)) (by with_unfolding_all rfl))
    (Za4 (ps_expr (pe_bm PySem.F.plainAttrs_list PySem.F.slot_list_append PySem.F.type_list_append Zg5 (pv 2) (Za0 (Zc1 (Za0 (Zb6 Zb7 (pv 3) Za5 (fun _ _=>rfl)) (Za0 (Zb6 Zb7 (pv 4) Za5 (fun _ _=>rfl)) Za1))) Za1)))
  (Za8 (ps_expr (pe_bm PySem.F.plainAttrs_list PySem.F.slot_list_append PySem.F.type_list_append Zg5 (pv 2) (Za0 (Zc1 (Za0 (Zb6 Zb7 (pv 3) Za5 (fun _ _=>rfl)) (Za0 (Zb6 Zb7 (pv 4) Za5 (fun _ _=>rfl)) Za1))) Za1)))))
    (Za8 (Zd9 (Zb0 (op_neD (Zg1 hr)) (pv 3) (pv 4) (Zb8 _))
    (Za8 (Zb4 (Zh7 (Zb0 (op_ltS (Nat.lt_of_succ_lt (hu_of hr))) (pv 3) (pv 4) (Zb8 _)) (pe_un un_neg Za5) Za5)))
    Zc4)))))))
  (Za8 (Zb4 Za5)))),?_⟩
  refine Za7 (fun σ' H'=>∃ l z,σ'=[some v,some u,some (.ref l),none,none]∧Same H H'∧H l=none∧H' l=some (.lst [z])∧IsP K H' z (a,b)) ?_ ?_
  rotate_left
  · intro C hC
    walk_at "rdx_1"
    refine⟨by decide,fun p hp=>⟨by decide,fun p1 hp1=>?_⟩⟩
    have s1:=Za3 hp (HO.tup [v,u])
    have s2:=Za3 hp1 (HO.lst [V.ref p])
    have S:=s1.trans s2
    exact hC _ _ ⟨p1,.ref p,rfl,S,s1.free hp1,Za2,p,v,u,rfl,s2.sqt (.inl (.inl Za2)),hv.keep S.keepT,hu.keep S.keepT⟩
  rintro σ1 H1 ⟨l,z,rfl,e1,f1,h1,hz⟩
  walk_at "rdx_1"
  refine⟨fun m σ' H'=>∃ (x3 x4:Option V) (zs:List V) (ps:List (Tm×Tm)),m=sumF ps∧σ'=[some v,some u,some (.ref l),x3,x4]∧Same H H'∧H' l=some (.lst zs)∧Paired (IsP K H') zs ps.reverse∧CmpI a b ps∧(∀ p∈ps,p.1.ok∧p.2.ok)∧sumF ps≤400,
    ⟨_,none,none,[z],[(a,b)],rfl,rfl,e1,h1,.cons hz .nil,CmpI.start a b,fun p hp=>by rw[List.mem_singleton.mp hp];exact⟨oa,ob⟩,?_⟩,?_⟩
  · rw[Zg3];show a.parts+0≤400;omega
  rintro m σ2 H2 ⟨x3,x4,zs,ps,rfl,rfl,e2,h2,hzs,hI,hok,hsum⟩
  walk_at "rdx_1"
  refine⟨!zs.isEmpty,.inl ⟨zs,SqL.of h2,rfl⟩,?_⟩
  cases ps with
  | nil =>
    cases hzs
    rw[if_neg (by decide)]
    have:=hI.done
    have q0:=q _ e2
    rw[this] at q0
    exact q0
  | cons pr ps =>
    obtain⟨t1,t2⟩:=pr
    rw[List.reverse_cons] at hzs
    obtain⟨zs',z',rfl,hzs',q',x,y,rfl,hq',hx,hy⟩:=paired_snocK hzs
    rw[if_pos (by cases zs'<;>rfl)]
    have lz:=Paired.length hzs'
    rw[List.length_reverse] at lz
    rw[Zg3] at hsum
    have lps:=len_sumF ps
    have hok1:=hok (t1,t2) List.mem_cons_self
    have hok2:∀ p∈ps,p.1.ok∧p.2.ok:=fun p hp=>hok p (List.mem_cons_of_mem _ hp)
    refine⟨_,fun σ' H' z=>z,?_⟩
    refine⟨.inl ⟨rfl,_,SqL.of h2⟩,_,h2,.ref q',by simp,?_⟩
    rw[List.dropLast_concat]
    have k1:KeepT K H2 (upd H2 l (.lst zs')):=Zf6 h2
    have hx':=hx.keep k1
    have hy':=hy.keep k1
    have hl3:upd H2 l (.lst zs') l=some (.lst zs'):=Za2
    have e3:Same H (upd H2 l (.lst zs')):=e2.write f1
    have hzs3:Paired (IsP K (upd H2 l (.lst zs'))) zs' ps.reverse:=Paired.mapP hzs' fun _ _ z=>z.keep k1
    refine⟨q',rfl,_,k1 _ _ hq',rfl,_,_,rfl,_,_,rfl,rfl,?_⟩
    generalize upd H2 l (.lst zs')=H3 at k1 hx' hy' hl3 e3 hzs3 ⊢
    obtain⟨p1,c1,xs1,A1,rfl,hs1,sp1⟩:=isT_head hx'
    obtain⟨p2,c2,xs2,A2,rfl,hs2,sp2⟩:=isT_head hy'
    refine⟨p1,rfl,_,hs1,_,at0 _ _,p2,rfl,_,hs2,_,at0 _ _,rfl,?_⟩
    by_cases hc:c1=c2
    · subst hc
      rw[if_neg (by simp)]
      have leaf:t1=t2→∃ m',m' < sumF ((t1,t2) :: ps)∧∃ (x3 x4:Option V) (zs:List V) (ps:List (Tm×Tm)),m'=sumF ps∧[some v,some u,some (V.ref l),some (V.ref p1),some (V.ref p2)]=[some v,some u,some (V.ref l),x3,x4]∧Same H H3∧H3 l=some (HO.lst zs)∧Paired (IsP K H3) zs ps.reverse∧CmpI a b ps∧(∀ p∈ps,p.1.ok∧p.2.ok)∧sumF ps≤400:=fun e=>by
        subst e
        have:=t1.parts_pos
        exact⟨sumF ps,by rw[Zg3];show _ < t1.parts+_;omega,_,_,zs',ps,rfl,rfl,e3,hl3,hzs3,hI.leaf,hok2,by omega⟩
      refine⟨p1,rfl,_,hs1,_,at0 _ _,_,.inr (t_PAIRED H3),rfl,rfl,?_⟩
      rw[if_neg Bool.false_ne_true]
      cases t1 with
      | low =>
        cases sp1
        rw[if_neg (by decide)]
        cases t2 with
        | low =>
          refine⟨_,hx',_,hy',Tm.lay .low trivial,Tm.lay .low trivial,by decide,?_⟩
          rw[if_pos trivial,Tm.eqv,decide_eq_true rfl,if_neg (by decide)]
          exact leaf rfl
        | ltr y=>cases sp2
        | nd kd x y=>rw[Zc7] at sp2;cases kd<;>cases sp2
      | ltr x1 =>
        cases sp1
        rw[if_neg (by decide)]
        cases t2 with
        | low=>cases sp2
        | ltr y1 =>
          refine⟨_,hx',_,hy',Tm.lay _ hok1.1,Tm.lay _ hok1.2,by show min 1 1≤150;decide,?_⟩
          rw[if_pos trivial,Tm.eqv]
          by_cases exy:x1=y1
          · subst exy
            rw[decide_eq_true rfl,if_neg (by decide)]
            exact leaf rfl
          · rw[decide_eq_false (fun z=>exy (by cases z;rfl)),if_pos (by decide)]
            obtain⟨r1,er1,hr1⟩:=isT_ltr.mp hx'
            obtain⟨r2,er2,hr2⟩:=isT_ltr.mp hy'
            cases er1;cases er2
            have hd:=hI.diffW exy
            have q0:=q _ e3
            refine⟨p1,p2,["letter",x1],["letter",y1],rfl,rfl,hr1,hr2,_,rfl,?_⟩
            rw[hd] at q0
            cases hh:lexT ["letter",x1] ["letter",y1] with
            | true=>rw[hh,if_pos rfl] at q0;rw[if_pos rfl];exact q0
            | false=>rw[hh,if_neg (by decide)] at q0;rw[if_neg (by decide)];exact q0
        | nd kd x y=>rw[Zc7] at sp2;cases kd<;>cases sp2
      | nd kd x y =>
        rw[Zc7] at sp1
        cases sp1
        rw[if_pos (by cases kd<;>decide)]
        cases t2 with
        | low=>cases kd<;>cases sp2
        | ltr y1=>cases kd<;>cases sp2
        | nd kd' x' y' =>
          rw[Zc7] at sp2
          have ek:kd=kd':=by
            have:=(List.cons.inj sp2).1
            cases kd<;>cases kd'<;>first | rfl | (exact absurd this (by decide))
          subst ek
          obtain⟨r1,va,vb,er1,hr1,ha1,hb1⟩:=isT_nd.mp hx'
          obtain⟨r2,va',vb',er2,hr2,ha2,hb2⟩:=isT_nd.mp hy'
          cases er1;cases er2
          have pn:(Tm.nd kd x y).parts=1+x.parts+y.parts:=rfl
          rw[pn] at hsum
          refine⟨.inl ⟨rfl,_,SqL.of hl3⟩,p1,rfl,_,hr1,vb,rfl,p2,rfl,_,hr2,vb',rfl,by decide,fun n1 hn1=>?_⟩
          have s1:=Za3 hn1 (HO.tup [vb,vb'])
          have hl4:=s1 _ _ hl3
          refine⟨_,hl4,small1M (by omega),?_⟩
          have k5:KeepT K H3 (upd (upd H3 n1 (HO.tup [vb,vb'])) l (HO.lst (zs'++[V.ref n1]))):=s1.keepT.trans (Zf6 hl4)
          have hl5:upd (upd H3 n1 (HO.tup [vb,vb'])) l (HO.lst (zs'++[V.ref n1])) l=some (.lst (zs'++[V.ref n1])):=Za2
          have e5:Same H (upd (upd H3 n1 (HO.tup [vb,vb'])) l (HO.lst (zs'++[V.ref n1]))):=(e3.trans s1).write f1
          have hn5:SqT K (upd (upd H3 n1 (HO.tup [vb,vb'])) l (HO.lst (zs'++[V.ref n1]))) n1 [vb,vb']:=Zf6 hl4 _ _ (.inl (.inl Za2))
          generalize upd (upd H3 n1 (HO.tup [vb,vb'])) l (HO.lst (zs'++[V.ref n1]))=H5 at k5 hl5 e5 hn5 ⊢
          refine⟨.inl ⟨rfl,_,SqL.of hl5⟩,p1,rfl,_,k5 _ _ hr1,va,rfl,p2,rfl,_,k5 _ _ hr2,va',rfl,by decide,fun n2 hn2=>?_⟩
          have s2:=Za3 hn2 (HO.tup [va,va'])
          have hl6:=s2 _ _ hl5
          have k7:KeepT K H5 (upd (upd H5 n2 (HO.tup [va,va'])) l (HO.lst (zs'++[V.ref n1]++[V.ref n2]))):=s2.keepT.trans (Zf6 hl6)
          have k37:=k5.trans k7
          refine⟨_,hl6,small1M (by rw[List.length_append,List.length_singleton];omega),sumF ((x,x') :: (y,y') :: ps),?_,_,_,_,(x,x') :: (y,y') :: ps,rfl,rfl,(e5.trans s2).write f1,Za2,?_,hI.pair,fun p hp=>?_,?_⟩
          · rw[Zg3,Zg3,Zg3];show x.parts+(y.parts+sumF ps) < (1+x.parts+y.parts)+sumF ps;omega
          · rw[List.reverse_cons,List.reverse_cons]
            exact Zd3 (Zd3 (Paired.mapP hzs3 fun _ _ z=>z.keep k37) (.cons ⟨n1,vb,vb',rfl,k7 _ _ hn5,hb1.keep k37,hb2.keep k37⟩ .nil)) (.cons ⟨n2,va,va',rfl,Zf6 hl6 _ _ (.inl (.inl Za2)),ha1.keep k37,ha2.keep k37⟩ .nil)
          · rcases List.mem_cons.mp hp with z | z
            · rw[z];exact⟨hok1.1.1,hok1.2.1⟩
            · rcases List.mem_cons.mp z with z | z
              · rw[z];exact⟨hok1.1.2,hok1.2.2⟩
              · exact hok2 p z
          · rw[Zg3,Zg3];show x.parts+(y.parts+sumF ps)≤400;omega
    · rw[if_pos (by simpa using hc)]
      refine⟨p1,rfl,_,hs1,_,at0 _ _,p2,rfl,_,hs2,_,at0 _ _,c1,rfl,c2,rfl,?_⟩
      have hd:=hI.diff sp1 sp2 hc
      have q0:=q _ e3
      rw[hd] at q0
      by_cases hh:c1.cps.toList < c2.cps.toList
      · rw[if_pos hh]
        rw[if_pos (show sLt c1 c2=true from decide_eq_true hh)] at q0
        exact q0
      · rw[if_neg hh]
        rw[if_neg (show ¬ sLt c1 c2=true from fun z=>hh (of_decide_eq_true z))] at q0
        exact q0
end
noncomputable abbrev s_bp0:Stmt:=top 10
theorem sc_bp0:FnScope ["wishes","statement","least","most","half"] ["wishes","statement"] (defScope s_bp0):=⟨rfl,rfl,rfl,by decide +kernel,rfl,by decide +kernel,by decide +kernel⟩
noncomputable abbrev s_aq0:Stmt:=top 11
theorem sc_aq0:FnScope ["wishes","statement","at"] ["wishes","statement"] (defScope s_aq0):=⟨rfl,rfl,rfl,by decide +kernel,rfl,by decide +kernel,by decide +kernel⟩
noncomputable abbrev s_br0:Stmt:=top 12
theorem sc_br0:FnScope ["wishes","statement","at"] ["wishes","statement"] (defScope s_br0):=⟨rfl,rfl,rfl,by decide +kernel,rfl,by decide +kernel,by decide +kernel⟩
noncomputable abbrev s_bm0:Stmt:=top 13
theorem sc_bm0:FnScope ["wishes","some","told","statement","at"] ["wishes","some"] (defScope s_bm0):=⟨rfl,rfl,rfl,by decide +kernel,rfl,by decide +kernel,by decide +kernel⟩
theorem cut_from {xs:List V} {i:Nat} (h:i+1≤xs.length):cutV xs (some ((i:Int)+1)) none=xs.drop (i+1):=by
  have e:((i:Int)+1)=((i+1:Nat):Int):=by omega
  rw[e]
  show List.take (xs.length - (if ((i+1:Nat):Int) < 0 then (((i+1:Nat):Int)+(xs.length:Int)).toNat else min ((i+1:Nat):Int).toNat xs.length)) (List.drop (if ((i+1:Nat):Int) < 0 then (((i+1:Nat):Int)+(xs.length:Int)).toNat else min ((i+1:Nat):Int).toNat xs.length) xs)=_
  rw[if_neg (by omega),Int.toNat_natCast,Nat.min_eq_left h]
  exact List.take_of_length_le (by rw[List.length_drop];exact Nat.le_refl _)
theorem paired_drop {α β:Type} {F:α→β→Prop}:∀ {l:List α} {m:List β},Paired F l m→∀ n,Paired F (l.drop n) (m.drop n)
  | _,_,.nil,n=>by rw[List.drop_nil,List.drop_nil];exact .nil
  | _,_,.cons h t,0=>.cons h t
  | _,_,.cons h t,n+1=>paired_drop t n
section
variable {P:Program} {w:World} {K:PySem.W.Frag} {mg:Str→Option Value} {base:Heap}
theorem ok_bp0 {k:Nat} {f_bp0:Addr} {fd_bp0:FuncData} (F_bp0:Fun K "place" "place" s_bp0 f_bp0 fd_bp0) {f_bh0:Addr} {fd_bh0:FuncData} (G_bh0:FnOk P w K mg base CX0 k f_bh0 fd_bh0 ["one","other"] (sp_compared K)) (m_bh0:mg "compared"=some (.ref f_bh0)) (k_bh0:PySem.W.keepIn K (.ref f_bh0)=true) (b_bh0:Binds K fd_bh0 ["one","other"] []) (m_len:mg "len"=none):FnOk P w K mg base CX0 (k+1) f_bp0 fd_bp0 ["wishes","statement"] (sp_place K):=by
  refine F_bp0.ok sc_bp0 (fun vs H Q E h=>?_) (fun cdv A outer s H vs Q E hr h=>?_)
  · obtain⟨a,v,ws,t,rfl,_⟩:=h
    rfl
  obtain⟨a,v,ws,t,rfl,hW,hT,hok,ht,hl,q⟩:=h
  refine⟨_,(Za4 (Zb2 (i:=2) sc_bp0.nd rfl (Or.inl rfl) Za5)
  (Za4 (Zb2 (i:=3) sc_bp0.nd rfl (Or.inl rfl) (Zd1 Zc3 (by exact rfl) m_len Ken.boot_len (Za0 (pv 0) Za1)))
  (Za4 (ps_while PassesOwn.never (Zb0 (op_lt) (pv 2) (pv 3) (Zb8 _))
    (Za4 (Zb2 (i:=4) sc_bp0.nd rfl (Or.inl rfl) (Zc0 Ze0 (Zc0 Zf3 (pv 2) (pv 3)) Za5))
  (Za8 (Zd9 (Zb0 (op_lt) (Za9 G_bh0 hr (by exact rfl) m_bh0 k_bh0 b_bh0 .nil Zc2 (Za0 (Zb6 Zd5 (pv 0) (pv 4) (fun _ _=>rfl)) (Za0 (pv 1) Za1))) Za5 (Zb8 _))
    (Za8 (Zb2 (i:=2) sc_bp0.nd rfl (Or.inl rfl) (Zc0 Zf3 (pv 4) Za5)))
    (Za8 (Zb2 (i:=3) sc_bp0.nd rfl (Or.inl rfl) (pv 4)))))))
  (Za8 (Zb4 (pv 2)))))),?_⟩
  walk_at "rdx_1"
  obtain⟨⟨us,ha,hU⟩,hR⟩:=hW
  have lu:=Paired.length hU
  refine⟨us,.inl (SqL.of ha),?_⟩
  refine⟨fun m σ' H'=>∃ (lo hi:Nat) (x4:Option V),m=hi - lo∧σ'=[some (.ref a),some v,some (.int (lo:Nat)),some (.int (hi:Nat)),x4]∧Same H H'∧lo≤hi∧hi≤ws.length∧(∀ i x,i < lo→ws[i]?=some x→ltT x t=true)∧(∀ i x,hi≤i→ws[i]?=some x→ltT x t=false),
    ⟨_,0,us.length,none,rfl,rfl,Same.refl _,Nat.zero_le _,by omega,fun i x h=>absurd h (Nat.not_lt_zero _),fun i x h hx=>absurd (List.getElem?_eq_some_iff.mp hx).1 (by omega)⟩,?_⟩
  rintro m σ1 H1 ⟨lo,hi,x4,rfl,rfl,e1,h1,h2,g1,g2⟩
  walk_at "rdx_1"
  by_cases hlt:lo < hi
  · rw[if_pos (by omega)]
    refine⟨_,fun σ' H' z=>z,?_⟩
    have eh:((lo:Int)+(hi:Int)) / 2=(((lo+hi) / 2:Nat):Int):=by omega
    have hh:(lo+hi) / 2 < us.length:=by omega
    obtain⟨x,hx,hxT⟩:=paired_get hU (List.getElem?_eq_getElem hh)
    have mx:=List.mem_of_getElem? hx
    refine⟨⟨by decide,by decide⟩,?_⟩
    rw[eh]
    refine⟨us,SqL.of (e1 _ _ ha),_,Zd6 (List.getElem?_eq_getElem hh),_,v,x,t,rfl,hxT.keep e1.keepT,hT.keep e1.keepT,(hok x mx).1,ht,by have:=(hok x mx).2;omega,fun H2 e2=>⟨_,rfl,?_⟩⟩
    by_cases hc:cmpT x t < 0
    · rw[if_pos hc]
      have hl':=(cmp_lt x t).mp hc
      refine⟨hi - ((lo+hi) / 2+1),by omega,(lo+hi) / 2+1,hi,rfl,_,by rfl,e1.trans e2,by omega,h2,fun i y hi' hy=>?_,g2⟩
      obtain⟨a1,b1⟩:=List.getElem?_eq_some_iff.mp hy
      obtain⟨a2,b2⟩:=List.getElem?_eq_some_iff.mp hx
      by_cases ei:i=(lo+hi) / 2
      · subst ei;rw[hx] at hy;cases hy;exact hl'
      · have:=List.pairwise_iff_getElem.mp hR i ((lo+hi) / 2) a1 a2 (by omega)
        rw[b1,b2] at this
        exact Zg8 this hl'
    · rw[if_neg hc]
      have hl':ltT x t=false:=by
        cases z:ltT x t with
        | false=>rfl
        | true=>exact absurd ((cmp_lt x t).mpr z) hc
      refine⟨(lo+hi) / 2 - lo,by omega,lo,(lo+hi) / 2,rfl,_,rfl,e1.trans e2,by omega,by omega,g1,fun i y hi' hy=>?_⟩
      obtain⟨a1,b1⟩:=List.getElem?_eq_some_iff.mp hy
      obtain⟨a2,b2⟩:=List.getElem?_eq_some_iff.mp hx
      by_cases ei:i=(lo+hi) / 2
      · subst ei;rw[hx] at hy;cases hy;exact hl'
      · have:=List.pairwise_iff_getElem.mp hR ((lo+hi) / 2) i a2 a1 (by omega)
        rw[b1,b2] at this
        cases z:ltT y t with
        | false=>rfl
        | true=>have w:=Zg8 this z;unfold ltT at hl';rw[w] at hl';cases hl'
  · rw[if_neg (by omega)]
    have:lo=hi:=by omega
    subst this
    have ep:=plc_eq (t:=t) hR h2 g1 g2
    have q0:=q _ e1
    rw[ep] at q0
    exact q0
theorem ok_aq0 {k:Nat} {f_aq0:Addr} {fd_aq0:FuncData} (F_aq0:Fun K "among" "among" s_aq0 f_aq0 fd_aq0) {f_bp0:Addr} {fd_bp0:FuncData} (G_bp0:FnOk P w K mg base CX0 k f_bp0 fd_bp0 ["wishes","statement"] (sp_place K)) (m_bp0:mg "place"=some (.ref f_bp0)) (k_bp0:PySem.W.keepIn K (.ref f_bp0)=true) (b_bp0:Binds K fd_bp0 ["wishes","statement"] []) {f_bh0:Addr} {fd_bh0:FuncData} (G_bh0:FnOk P w K mg base CX0 k f_bh0 fd_bh0 ["one","other"] (sp_compared K)) (m_bh0:mg "compared"=some (.ref f_bh0)) (k_bh0:PySem.W.keepIn K (.ref f_bh0)=true) (b_bh0:Binds K fd_bh0 ["one","other"] []) (m_len:mg "len"=none):FnOk P w K mg base CX0 (k+1) f_aq0 fd_aq0 ["wishes","statement"] (sp_among K):=by
  refine F_aq0.ok sc_aq0 (fun vs H Q E h=>?_) (fun cdv A outer s H vs Q E hr h=>?_)
  · obtain⟨a,v,ws,t,rfl,_⟩:=h
    rfl
  obtain⟨a,v,ws,t,rfl,hW,hT,hok,ht,hl,q⟩:=h
  refine⟨_,(Za4 (Zb2 (i:=2) sc_aq0.nd rfl (Or.inl rfl) (Za9 G_bp0 hr (by exact rfl) m_bp0 k_bp0 b_bp0 .nil Zc2 (Za0 (pv 0) (Za0 (pv 1) Za1))))
  (Za8 (Zb4 (pe_and (Zh9 (op_lt) (pv 2) (Zd1 Zc3 (by exact rfl) m_len Ken.boot_len (Za0 (pv 0) Za1)) (Zb8 _)) (pe_one (Zh9 (Zg2) (Za9 G_bh0 hr (by exact rfl) m_bh0 k_bh0 b_bh0 .nil Zc2 (Za0 (Zb6 Zd5 (pv 0) (pv 2) (fun _ _=>rfl)) (Za0 (pv 1) Za1))) Za5 (Zb8 _))))))),?_⟩
  walk_at "rdx_1"
  refine⟨a,v,ws,t,rfl,hW,hT,hok,ht,hl,fun H1 e1=>?_⟩
  obtain⟨⟨us,ha,hU⟩,hR⟩:=hW
  have lu:=Paired.length hU
  obtain⟨g1,g2,g3⟩:=plc_spec (t:=t) hR
  refine⟨us,.inl (SqL.of (e1 _ _ ha)),_,rfl,?_⟩
  by_cases hlt:plc ws t < us.length
  · rw[if_pos (by omega)]
    obtain⟨x,hx,hxT⟩:=paired_get hU (List.getElem?_eq_getElem hlt)
    have mx:=List.mem_of_getElem? hx
    refine⟨us,_,rfl,SqL.of (e1 _ _ ha),_,Zd6 (List.getElem?_eq_getElem hlt),_,v,x,t,rfl,hxT.keep e1.keepT,hT.keep e1.keepT,(hok x mx).1,ht,by have:=(hok x mx).2;omega,fun H2 e2=>⟨rfl,?_⟩⟩
    have q0:=q _ (e1.trans e2)
    have ed:decide (t∈ws)=decide (V.int (cmpT x t)=V.int 0):=by
      refine decide_eq_decide.mpr ?_
      rw[plc_mem hR,hx]
      constructor
      · intro z;cases z;rw[(cmp_eq t t).mpr rfl]
      · intro z
        have z':cmpT x t=0:=by injection z
        rw[(cmp_eq x t).mp z']
    rw[ed] at q0
    exact q0
  · rw[if_neg (by omega)]
    have q0:=q _ e1
    have:¬ t∈ws:=fun z=>by
      have:=(plc_mem hR).mp z
      exact hlt (by rw[lu];exact (List.getElem?_eq_some_iff.mp this).1)
    rw[decide_eq_false this] at q0
    exact q0
theorem ok_br0 {k:Nat} {f_br0:Addr} {fd_br0:FuncData} (F_br0:Fun K "without" "without" s_br0 f_br0 fd_br0) {f_bp0:Addr} {fd_bp0:FuncData} (G_bp0:FnOk P w K mg base CX0 k f_bp0 fd_bp0 ["wishes","statement"] (sp_place K)) (m_bp0:mg "place"=some (.ref f_bp0)) (k_bp0:PySem.W.keepIn K (.ref f_bp0)=true) (b_bp0:Binds K fd_bp0 ["wishes","statement"] []):FnOk P w K mg base CX0 (k+1) f_br0 fd_br0 ["wishes","statement"] (sp_without K):=by
  refine F_br0.ok sc_br0 (fun vs H Q E h=>?_) (fun cdv A outer s H vs Q E hr h=>?_)
  · obtain⟨a,v,ws,t,rfl,_⟩:=h
    rfl
  obtain⟨a,v,ws,t,rfl,hW,hT,hok,hm,hl,q⟩:=h
  refine⟨_,(Za4 (Zb2 (i:=2) sc_br0.nd rfl (Or.inl rfl) (Za9 G_bp0 hr (by exact rfl) m_bp0 k_bp0 b_bp0 .nil Zc2 (Za0 (pv 0) (Za0 (pv 1) Za1))))
  (Za8 (Zb4 (Zc0 Zh1 (Zh2 sl_list (pv 0) po_none (po_some (pv 2))) (Zh2 sl_list (pv 0) (po_some (Zc0 Zf3 (pv 2) Za5)) po_none))))),?_⟩
  walk_at "rdx_1"
  refine⟨a,v,ws,t,rfl,hW,hT,hok,(hok t hm).1,hl,fun H1 e1=>⟨_,rfl,?_⟩⟩
  obtain⟨⟨us,ha,hU⟩,hR⟩:=hW
  have lu:=Paired.length hU
  have hp:=(plc_mem hR).mp hm
  have hpl:=(List.getElem?_eq_some_iff.mp hp).1
  refine⟨us,SqL.of (e1 _ _ ha),fun p hp'=>⟨_,rfl,us,?_,fun p1 hp1=>?_⟩⟩
  · exact SqL.of ((e1.trans (Za3 hp' _)) _ _ ha)
  have s1:=Za3 hp' (HO.lst (cutV us none (some ((plc ws t:Nat):Int))))
  have s2:=Za3 hp1 (HO.lst (cutV us (some ((plc ws t:Nat)+1:Int)) none))
  have c1:cutV us none (some ((plc ws t:Nat):Int))=us.take (plc ws t):=cut_take (by omega)
  have c2:cutV us (some (((plc ws t:Nat):Int)+1)) none=us.drop (plc ws t+1):=cut_from (by omega)
  refine⟨_,s2 _ _ Za2,_,Za2,?_,fun p2 hp2=>?_⟩
  · rw[c1,c2,List.length_take,List.length_drop];exact Nat.le_of_lt (small1M (by omega))
  have s3:=Za3 hp2 (HO.lst (cutV us none (some ((plc ws t:Nat):Int))++cutV us (some (((plc ws t:Nat):Int)+1)) none))
  have S:=e1.trans (s1.trans (s2.trans s3))
  refine q _ _ S ((e1.trans (s1.trans s2)).free hp2) ⟨⟨_,Za2,?_⟩,sorted_rem hR⟩
  have kk:=S.keepT (K:=K)
  revert kk
  generalize upd (upd (upd H1 p _) p1 _) p2 _=Hf
  intro kk
  rw[c1,c2,← cut_rem hR hm]
  exact Zd3 (paired_take (Paired.mapP hU fun _ _ z=>z.keep kk) _) (paired_drop (Paired.mapP hU fun _ _ z=>z.keep kk) _)
theorem ok_bm0 {k:Nat} {f_bm0:Addr} {fd_bm0:FuncData} (F_bm0:Fun K "more" "more" s_bm0 f_bm0 fd_bm0) {f_bp0:Addr} {fd_bp0:FuncData} (G_bp0:FnOk P w K mg base CX0 k f_bp0 fd_bp0 ["wishes","statement"] (sp_place K)) (m_bp0:mg "place"=some (.ref f_bp0)) (k_bp0:PySem.W.keepIn K (.ref f_bp0)=true) (b_bp0:Binds K fd_bp0 ["wishes","statement"] []) {f_bh0:Addr} {fd_bh0:FuncData} (G_bh0:FnOk P w K mg base CX0 k f_bh0 fd_bh0 ["one","other"] (sp_compared K)) (m_bh0:mg "compared"=some (.ref f_bh0)) (k_bh0:PySem.W.keepIn K (.ref f_bh0)=true) (b_bh0:Binds K fd_bh0 ["one","other"] []) (m_list:mg "list"=none) (m_len:mg "len"=none):FnOk P w K mg base CX0 (k+1) f_bm0 fd_bm0 ["wishes","some"] (sp_more K):=by
  refine F_bm0.ok sc_bm0 (fun vs H Q E h=>?_) (fun cdv A outer s H vs Q E hr h=>?_)
  · obtain⟨a,b,ws,us,ts,rfl,_⟩:=h
    rfl
  obtain⟨a,b,ws,us,ts,rfl,hW,hb,hT,hok,hok2,hl,q⟩:=h
  refine⟨_,(Za4 (Zb2 (i:=2) sc_bm0.nd rfl (Or.inl rfl) (Ze9 Zd8 (by exact rfl) m_list Ken.boot_list (Za0 (pv 0) Za1)))
  (Za4 (ps_for PassesOwn.never rfl (Ze4 (pv 1)) (Zb5 (i:=3) sc_bm0.nd rfl (Or.inl rfl))
    (Za4 (Zb2 (i:=4) sc_bm0.nd rfl (Or.inl rfl) (Za9 G_bp0 hr (by exact rfl) m_bp0 k_bp0 b_bp0 .nil Zc2 (Za0 (pv 2) (Za0 (pv 3) Za1))))
  (Za8 (Zd9 ((pw_or (Zb0 (Zg2) (pv 4) (Zd1 Zc3 (by exact rfl) m_len Ken.boot_len (Za0 (pv 2) Za1)) (Zb8 _)) (pw_or1 (Zb0 (op_ne) (Za9 G_bh0 hr (by exact rfl) m_bh0 k_bh0 b_bh0 .nil Zc2 (Za0 (Zb6 Zd5 (pv 2) (pv 4) (fun _ _=>rfl)) (Za0 (pv 3) Za1))) Za5 (Zb8 _))))).pt
    (Za8 (ps_expr (pe_bm PySem.F.plainAttrs_list PySem.F.slot_list_insert PySem.F.type_list_insert mt_insert (pv 2) (Za0 (pv 4) (Za0 (pv 3) Za1)))))
    Zc4))))
  (Za8 (Zb4 (pv 2))))),?_⟩
  refine Za7 (fun σ' H'=>∃ l,σ'=[some (.ref a),some (.ref b),some (.ref l),none,none]∧Same H H'∧H l=none∧IsW K H' l ws) ?_ ?_
  rotate_left
  · intro C hC
    walk_at "rdx_1"
    obtain⟨⟨vs,ha,hV⟩,hR⟩:=hW
    exact⟨vs,.inl (SqL.of ha),fun l hl'=>hC _ _ ⟨l,rfl,Za3 hl' _,hl',⟨_,Za2,Paired.mapP hV fun _ _ z=>z.keep (keepT_new hl')⟩,hR⟩⟩
  rintro σ1 H1 ⟨l,rfl,e1,f1,hW1⟩
  refine Za7 (fun σ' H'=>∃ x3 x4,σ'=[some (.ref a),some (.ref b),some (.ref l),x3,x4]∧Same H H'∧IsW K H' l (norm (ws++ts))) ?_ ?_
  rotate_left
  · intro C hC
    walk_at "rdx_2"
    have lt:=Paired.length hT
    refine⟨⟨_,SqL.of (e1 _ _ hb)⟩,?_⟩
    refine for_list (D:={ nx:=C,rt:=Q }) (xs:=us) (fun i σ' H'=>∃ (x3 x4:Option V),σ'=[some (.ref a),some (.ref b),some (.ref l),x3,x4]∧Same H H'∧IsW K H' l (norm (ws++ts.take i))) ⟨none,none,rfl,e1,by
        have:norm (ws++ts.take 0)=ws:=(norm_uniq hW.rise fun x=>by simp).symm
        rw[this];exact hW1⟩ (fun i σ' H' _ ⟨_,_,_,e,_⟩=>SqL.of (e _ _ hb)) (fun i x σ' H' hx hp=>?_) (fun σ' H' ⟨x3,x4,g1,g2,g3⟩=>hC _ _ ⟨x3,x4,g1,g2,by rw[lt,List.take_length] at g3;exact g3⟩)
    obtain⟨x3,x4,rfl,e,hWi⟩:=hp
    obtain⟨t,ht,hxT⟩:=paired_get hT hx
    have mt:=List.mem_of_getElem? ht
    have hN:Okw (norm (ws++ts.take i)):=fun s hs=>by
      rcases List.mem_append.mp (mem_norm.mp hs) with z | z
      · exact hok s z
      · exact hok2 s (List.mem_of_mem_take z)
    have hnl:(norm (ws++ts.take i)).length≤1000:=by
      refine Nat.le_trans (Zh0 (sortedT_nd (Zd0 _)) (fun s hs=>mem_norm.mp hs)) ?_
      rw[List.length_append,List.length_take];omega
    obtain⟨⟨vs,hv,hV⟩,hR⟩:=id hWi
    have lv:=Paired.length hV
    obtain⟨g1,g2,g3⟩:=plc_spec (t:=t) hR
    have hxT':=hxT.keep e.keepT
    walk_at "rdx_1"
    refine⟨l,x,_,t,rfl,hWi,hxT',hN,(hok2 t mt).1,hnl,fun H2 e2=>?_⟩
    have fin:∀ H3,Same H H3→H3 l=some (.lst vs)→KeepT K H' H3→t∈norm (ws++ts.take i)→Same H H3∧IsW K H3 l (norm (ws++ts.take (i+1))):=fun H3 a1 a2 a3 a4=>by
      have:norm (ws++ts.take (i+1))=norm (ws++ts.take i):=norm_congr fun s=>by
        rw[take_snoc ht,← List.append_assoc,List.mem_append,List.mem_singleton]
        exact⟨fun z=>z.elim id fun z=>by rw[z];exact mem_norm.mp a4,.inl⟩
      rw[this]
      exact⟨a1,⟨vs,a2,Paired.mapP hV fun _ _ z=>z.keep a3⟩,hR⟩
    have hv2:=e2 _ _ hv
    have ins:∀ H3,Same H H3→H3 l=some (.lst vs)→KeepT K H' H3→¬ t∈norm (ws++ts.take i)→Same H (upd H3 l (HO.lst (vs.take (plc (norm (ws++ts.take i)) t)++x :: vs.drop (plc (norm (ws++ts.take i)) t))))∧IsW K (upd H3 l (HO.lst (vs.take (plc (norm (ws++ts.take i)) t)++x :: vs.drop (plc (norm (ws++ts.take i)) t)))) l (norm (ws++ts.take (i+1))):=fun H3 a1 a2 a3 a4=>by
      have k3:=a3.trans (Zf6 (K:=K) (o:=HO.lst (vs.take (plc (norm (ws++ts.take i)) t)++x :: vs.drop (plc (norm (ws++ts.take i)) t))) a2)
      have hV3:=Paired.mapP hV fun _ _ z=>z.keep k3
      have eN:(norm (ws++ts.take i)).take (plc (norm (ws++ts.take i)) t)++t :: (norm (ws++ts.take i)).drop (plc (norm (ws++ts.take i)) t)=norm (ws++ts.take (i+1)):=norm_uniq (ins_at hR a4) fun s=>by
        rw[take_snoc ht,← List.append_assoc,List.mem_append,List.mem_cons,List.mem_append,List.mem_singleton,← mem_norm (l:=ws++ts.take i)]
        conv=>rhs;rw[← List.take_append_drop (plc (norm (ws++ts.take i)) t) (norm (ws++ts.take i)),List.mem_append]
        constructor
        · rintro (z | z | z)
          · exact .inl (.inl z)
          · exact .inr z
          · exact .inl (.inr z)
        · rintro ((z | z) | z)
          · exact .inl z
          · exact .inr (.inr z)
          · exact .inr (.inl z)
      refine⟨a1.write f1,⟨_,Za2,?_⟩,Zd0 _⟩
      rw[← eN]
      exact Zd3 (paired_take hV3 _) (.cons (hxT'.keep k3) (paired_drop hV3 _))
    show ∃ x_2,_
    refine⟨vs,.inl (SqL.of hv2),rfl,?_⟩
    by_cases hend:plc (norm (ws++ts.take i)) t=vs.length
    · rw[if_pos (by rw[hend]),if_pos trivial]
      refine⟨.inl ⟨rfl,_,SqL.of hv2⟩,vs,_,rfl,hv2,by omega,by omega,ins H2 (e.trans e2) hv2 e2.keepT fun z=>?_⟩
      have:=(List.getElem?_eq_some_iff.mp ((plc_mem hR).mp z)).1
      omega
    · have hlt:plc (norm (ws++ts.take i)) t < vs.length:=by omega
      rw[if_neg (fun z=>hend (by injection z with z;omega))]
      obtain⟨y,hy,hyT⟩:=paired_get hV (List.getElem?_eq_getElem hlt)
      have my:=List.mem_of_getElem? hy
      refine⟨vs,_,rfl,SqL.of hv2,_,Zd6 (List.getElem?_eq_getElem hlt),_,x,y,t,rfl,hyT.keep e2.keepT,hxT'.keep e2.keepT,(hN y my).1,(hok2 t mt).1,by have:=(hN y my).2;omega,fun H3 e3=>⟨rfl,?_⟩⟩
      have hv3:=e3 _ _ hv2
      by_cases hyt:y=t
      · have c0:=(cmp_eq y t).mpr hyt
        rw[c0,if_neg (by decide)]
        exact fin H3 (e.trans (e2.trans e3)) hv3 (e2.trans e3).keepT ((plc_mem hR).mpr (by rw[hy,hyt]))
      · have c0:¬ cmpT y t=0:=fun z=>hyt ((cmp_eq y t).mp z)
        rw[if_pos (by
          have:¬ V.int (cmpT y t)=V.int 0:=fun z=>c0 (by injection z)
          rw[decide_eq_false this];rfl)]
        refine⟨.inl ⟨rfl,_,SqL.of hv3⟩,vs,_,rfl,hv3,by omega,by omega,ins H3 (e.trans (e2.trans e3)) hv3 (e2.trans e3).keepT fun z=>?_⟩
        have:=(plc_mem hR).mp z
        rw[hy] at this;cases this;exact hyt rfl
  rintro σ2 H2 ⟨x3,x4,rfl,e2,hW2⟩
  walk_at "rdx_1"
  exact q _ _ e2 f1 hW2
end
noncomputable abbrev s_ao0:Stmt:=top 43
theorem sc_ao0:FnScope ["_law_cell_here","_law_many","_law_words_here","_law_form","_law_first","_law_one"] ["_law_cell_here","_law_many","_law_words_here"] (defScope s_ao0):=⟨rfl,rfl,rfl,by decide +kernel,rfl,by decide +kernel,by decide +kernel⟩
noncomputable def sp_stm21 (K:PySem.W.Frag) (n:Nat):Sp:=fun vs H Q _=>∃ (c many:Int) (wa:Addr) (ws:List Str),vs=[.int c,.int many,.ref wa]∧0≤c∧1≤many∧many≤61∧(many.toNat+1) / 2≤n∧SqL K H wa (ws.map V.str)∧Words ws ∧
  ∀ (r:V) (H':Hp) (t:Tm),Same H H'→Made K H' ws many.toNat ((many.toNat+1) / 2) r t→Q r H'
theorem at_form5 {c:Int} (h0:0≤c) (h1:c < 5):(∃ kd:Kd,atI [V.str "both",V.str "one",V.str "then",V.str "then",V.str "not"] c=some (.str kd.str))∨atI [V.str "both",V.str "one",V.str "then",V.str "then",V.str "not"] c=some (.str "not"):=by
  have:c=0∨c=1∨c=2∨c=3∨c=4:=by omega
  rcases this with rfl | rfl | rfl | rfl | rfl
  · exact .inl ⟨.both,rfl⟩
  · exact .inl ⟨.one,rfl⟩
  · exact .inl ⟨.thn,rfl⟩
  · exact .inl ⟨.thn,rfl⟩
  · exact .inr rfl
section
variable {P:Program} {w:World} {K:PySem.W.Frag} {mg:Str→Option Value} {base:Heap}
theorem ok_ao0 {k n:Nat} {f_ao0:Addr} {fd_ao0:FuncData} (F_ao0:Fun K "_law_statement" "_law_statement" s_ao0 f_ao0 fd_ao0) (G_ao0:FnOk P w K mg base CX0 k f_ao0 fd_ao0 ["_law_cell_here","_law_many","_law_words_here"] (sp_stm21 K n)) (m_ao0:mg "_law_statement"=some (.ref f_ao0)) (k_ao0:PySem.W.keepIn K (.ref f_ao0)=true) (b_ao0:Binds K fd_ao0 ["_law_cell_here","_law_many","_law_words_here"] []) {f_aj0:Addr} {fd_aj0:FuncData} (G_aj0:FnOk P w K mg base CX0 k f_aj0 fd_aj0 ["_law_cell_here","_law_k"] (sp_mix)) (m_aj0:mg "_law_mix"=some (.ref f_aj0)) (k_aj0:PySem.W.keepIn K (.ref f_aj0)=true) (b_aj0:Binds K fd_aj0 ["_law_cell_here","_law_k"] []) (m_len:mg "len"=none):FnOk P w K mg base CX0 (k+1) f_ao0 fd_ao0 ["_law_cell_here","_law_many","_law_words_here"] (sp_stm21 K (n+1)):=by
  refine F_ao0.ok sc_ao0 (fun vs H Q E h=>?_) (fun cdv A outer s H vs Q E hr h=>?_)
  · obtain⟨c,many,wa,ws,rfl,_⟩:=h
    rfl
  obtain⟨c,many,wa,ws,rfl,hc0,h0,h1,hn,hS,hw,q⟩:=h
  refine⟨_,(Za4 (Zd9 (Zb0 (op_lt) (pv 1) Za5 (Zb8 _))
    (Za4 (Zd9 (Zb0 (Zg2) (Zc0 Ze5 (pv 0) Za5) Za5 (Zb8 _))
    (Za8 (Zb4 (Zc1 (Za0 Zb9 Za1))))
    Zc4)
  (Za8 (Zb4 (Zc1 (Za0 Zb9 (Za0 (Zb6 Zd5 (pv 2) (Zc0 Ze5 (Zc0 Ze0 (pv 0) Za5) (Zd1 Zc3 (by exact rfl) m_len Ken.boot_len (Za0 (pv 2) Za1))) (fun _ _=>rfl)) Za1))))))
    Zc4)
  (Za4 (Zb2 (i:=3) sc_ao0.nd rfl (Or.inl rfl) (Zb6 Zd5 (Zc5 (Za0 Zb9 (Za0 Zb9 (Za0 Zb9 (Za0 Zb9 (Za0 Zb9 Za1)))))) (Zc0 Ze5 (pv 0) Za5) (fun _ _=>rfl)))
  (Za4 (Zd9 (Zb0 (Zg2) (pv 3) Zb9 (Zb8 _))
    (Za8 (Zb4 (Zc1 (Za0 Zb9 (Za0 (Za9 G_ao0 hr (by exact rfl) m_ao0 k_ao0 b_ao0 .nil Zc2 (Za0 (Za9 G_aj0 hr (by exact rfl) m_aj0 k_aj0 b_aj0 .nil Zc2 (Za0 (pv 0) (Za0 Za5 Za1))) (Za0 (Zc0 op_sub (pv 1) Za5) (Za0 (pv 2) Za1)))) (Za0 (Zc1 (Za0 Zb9 Za1)) Za1))))))
    Zc4)
  (Za4 (Zb2 (i:=4) sc_ao0.nd rfl (Or.inl rfl) (Zc0 Zf3 Za5 (Zc0 op_mul (Zc0 Ze5 (Zc0 Ze0 (pv 0) Za5) (Zc0 Ze0 (Zc0 op_sub (pv 1) Za5) Za5)) Za5)))
  (Za4 (Zb2 (i:=5) sc_ao0.nd rfl (Or.inl rfl) (Za9 G_ao0 hr (by exact rfl) m_ao0 k_ao0 b_ao0 .nil Zc2 (Za0 (Za9 G_aj0 hr (by exact rfl) m_aj0 k_aj0 b_aj0 .nil Zc2 (Za0 (pv 0) (Za0 Za5 Za1))) (Za0 (pv 4) (Za0 (pv 2) Za1)))))
  (Za8 (Zb4 (Zc1 (Za0 (pv 3) (Za0 (pv 5) (Za0 (Za9 G_ao0 hr (by exact rfl) m_ao0 k_ao0 b_ao0 .nil Zc2 (Za0 (Za9 G_aj0 hr (by exact rfl) m_aj0 k_aj0 b_aj0 .nil Zc2 (Za0 (pv 0) (Za0 Za5 Za1))) (Za0 (Zc0 op_sub (Zc0 op_sub (pv 1) Za5) (pv 4)) (Za0 (pv 2) Za1)))) Za1))))))))))),?_⟩
  have h2:=hw.1
  have hl:((ws.map V.str).length:Int)=ws.length:=by rw[List.length_map]
  walk_at "rdx_1"
  refine ite2 (fun hm=>?_) (fun hm=>?_)
  · refine⟨by decide,ite2 (fun _=>?_) (fun _=>?_)⟩
    · exact⟨by decide,fun p hp=>q _ _ _ (Za3 hp _) ((made_low ws hp).mono (fun _ _ z=>z) (by omega) (by omega))⟩
    · refine⟨⟨by decide,by decide⟩,_,.inl hS,by rw[hl];omega,_,hS,?_⟩
      rw[hl]
      obtain⟨v,hv,e⟩:=at_list (xs:=ws.map V.str) (i:=c / 6 % (ws.length:Int)) (Int.emod_nonneg _ (by omega)) (by rw[hl];exact Int.emod_lt_of_pos _ (by omega))
      obtain⟨x,hx,rfl⟩:=List.mem_map.mp hv
      exact⟨_,e,by decide,fun p hp=>q _ _ _ (Za3 hp _) ((made_ltr hx hp).mono (fun _ _ z=>z) (by omega) (by omega))⟩
  · refine⟨by decide,fun p hp=>⟨by decide,_,SqL.of Za2,?_⟩⟩
    have c0:=Int.emod_nonneg c (show (5:Int)≠0 by decide)
    have c1:=Int.emod_lt_of_pos c (show (0:Int) < 5 by decide)
    have S1:Same H (upd H p (.lst [V.str "both",V.str "one",V.str "then",V.str "then",V.str "not"])):=Za3 hp _
    generalize upd H p (.lst [V.str "both",V.str "one",V.str "then",V.str "then",V.str "not"])=H1 at S1 ⊢
    rcases at_form5 c0 c1 with ⟨kd,ek⟩ | ek
    · refine⟨_,ek,rfl,?_⟩
      rw[if_neg (by cases kd<;>decide)]
      have d0:=Int.emod_nonneg (c / 5) (show (many - 1) / 2≠0 by omega)
      have d1:=Int.emod_lt_of_pos (c / 5) (show 0 < (many - 1) / 2 by omega)
      refine⟨⟨by decide,by decide⟩,⟨by decide,by decide⟩,by omega,mul_right (by decide) (by decide),_,_,rfl,by decide,by decide,?_⟩
      generalize c / 5 % ((many - 1) / 2)=j at d0 d1 ⊢
      refine⟨_,_,wa,ws,rfl,mix_nn _ _,by omega,by omega,by omega,S1.seq hS,hw,fun x H2 a e2 m2=>?_⟩
      refine⟨_,_,rfl,by decide,by decide,?_⟩
      refine⟨_,_,wa,ws,rfl,mix_nn _ _,by omega,by omega,by omega,(S1.trans e2).seq hS,hw,fun y H3 b e3 m3=>?_⟩
      refine⟨by decide,fun p3 hp3=>q _ _ _ (((S1.trans e2).trans e3).trans (Za3 hp3 _)) ((made_nd (k:=kd) (m2.mono e3.keepT (Nat.le_refl _) (Nat.le_refl _)) m3 hp3).mono (fun _ _ z=>z) (by omega) (by omega))⟩
    · refine⟨_,ek,rfl,?_⟩
      rw[if_pos rfl]
      refine⟨_,_,rfl,by decide,by decide,?_⟩
      refine⟨_,_,wa,ws,rfl,mix_nn _ _,by omega,by omega,by omega,S1.seq hS,hw,fun x H2 a e2 m2=>?_⟩
      refine⟨by decide,fun p2 hp2=>⟨by decide,fun p3 hp3=>?_⟩⟩
      exact q _ _ _ (((S1.trans e2).trans (Za3 hp2 _)).trans (Za3 hp3 _)) ((made_nd (k:=.thn) (m2.mono (keepT_new hp2) (Nat.le_refl _) (Nat.le_refl _)) (made_low ws hp2) hp3).mono (fun _ _ z=>z) (by omega) (by omega))
end
noncomputable abbrev s_al0:Stmt:=top 45
theorem sc_al0:FnScope ["_law_some","_law_found_here","_law_one"] ["_law_some"] (defScope s_al0):=⟨rfl,rfl,rfl,by decide +kernel,rfl,by decide +kernel,by decide +kernel⟩
noncomputable abbrev s_ag0:Stmt:=top 46
theorem sc_ag0:FnScope ["_law_wishes","_law_on","_law_more"] ["_law_wishes","_law_on","_law_more"] (defScope s_ag0):=⟨rfl,rfl,rfl,by decide +kernel,rfl,by decide +kernel,by decide +kernel⟩
section
variable {P:Program} {w:World} {K:PySem.W.Frag} {mg:Str→Option Value} {base:Heap}
theorem ok_al0 {k:Nat} {f_al0:Addr} {fd_al0:FuncData} (F_al0:Fun K "_law_once" "_law_once" s_al0 f_al0 fd_al0) (m_sorted:mg "sorted"=none):FnOk P w K mg base CX0 (k+1) f_al0 fd_al0 ["_law_some"] (sp_onceL K):=by
  refine F_al0.ok sc_al0 (fun vs H Q E h=>?_) (fun cdv A outer s H vs Q E hr h=>?_)
  · obtain⟨a,us,ts,rfl,_⟩:=h
    rfl
  obtain⟨a,us,ts,rfl,ha,hT,hok,hl,q⟩:=h
  refine⟨_,(Za4 (Zb2 (i:=1) sc_al0.nd rfl (Or.inl rfl) (Zc5 Za1))
  (Za4 (ps_for PassesOwn.never rfl (Ze4 (Zd1 (call_sortedM rfl (Zg1 hr)) (by exact rfl) m_sorted Ken.boot_sorted (Za0 (pv 0) Za1))) (Zb5 (i:=2) sc_al0.nd rfl (Or.inl rfl))
    (Za8 (Zd9 (Zb0 (op_notInT (Zg1 hr)) (pv 2) (Zh2 sl_list (pv 1) (po_some (pe_un un_neg Za5)) po_none) (by with_unfolding_all rfl))
    (Za8 (ps_expr (pe_bm PySem.F.plainAttrs_list PySem.F.slot_list_append PySem.F.type_list_append Zg5 (pv 1) (Za0 (pv 2) Za1))))
    Zc4)))
  (Za8 (Zb4 (pv 1))))),?_⟩
  refine Za7 (fun σ' H'=>∃ d,σ'=[some (.ref a),some (.ref d),none]∧Same H H'∧H d=none∧H' d=some (.lst [])) ?_ ?_
  rotate_left
  · intro C hC
    walk_at "rdx_1"
    exact⟨by decide,fun p hp=>hC _ _ ⟨p,rfl,Za3 hp _,hp,Za2⟩⟩
  rintro σ1 H1 ⟨d,rfl,e1,f1,h1⟩
  refine Za7 (fun σ' H'=>∃ x2,σ'=[some (.ref a),some (.ref d),x2]∧Same H H'∧IsW K H' d (norm ts)) ?_ ?_
  rotate_left
  · intro C hC
    walk_at "rdx_2"
    have hT1:Paired (IsT K H1) us ts:=Paired.mapP hT fun _ _ z=>z.keep e1.keepT
    refine⟨us,e1 _ _ ha,ts,hT1,fun t ht=>⟨(hok t ht).1,by have:=(hok t ht).2;have:=Zd2 t;omega⟩,hl,fun l ws os hl' hws hpm hpw=>⟨⟨_,SqL.of Za2⟩,?_⟩⟩
    have s1:=Za3 hl' (HO.lst ws)
    have nld:l≠d:=fun z=>by rw[z,h1] at hl';cases hl'
    have lw:=Paired.length hws
    have lo:os.length=ts.length:=hpm.length_eq
    have hoo:∀ t∈os,t.ok∧t.parts≤100:=fun t ht=>hok t (hpm.mem_iff.mp ht)
    refine for_list (D:={ nx:=C,rt:=Q }) (xs:=ws) (fun i σ' H'=>∃ (x2:Option V) (vs:List V) (fs:List Tm),σ'=[some (.ref a),some (.ref d),x2]∧Same H H'∧KeepT K (upd H1 l (HO.lst ws)) H'∧H' l=some (.lst ws)∧H' d=some (.lst vs)∧Paired (IsT K H') vs fs∧sortedT fs∧(∀ x,x∈fs↔x∈os.take i)∧fs.getLast?=(os.take i).getLast?∧fs.length≤i) ⟨none,[],[],rfl,e1.trans s1,fun _ _ z=>z,Za2,s1 _ _ h1,.nil,.nil,fun x=>by simp,by simp,Nat.le_refl _⟩ (fun i σ' H' _ ⟨_,_,_,_,_,_,h,_⟩=>SqL.of h) (fun i v σ' H' hv hp=>?_) (fun σ' H' ⟨x2,vs,fs,g1,g2,g3,g4,g5,g6,g7,g8,g9,g10⟩=>hC _ _ ⟨x2,g1,g2,?_⟩)
    · obtain⟨x2,vs,fs,rfl,e,kk,hll,hd,hV,hS,hm,hlast,hfl⟩:=hp
      obtain⟨t,ht,htT⟩:=paired_get hws hv
      have htT':IsT K H' v t:=(htT.keep s1.keepT).keep kk
      have mt:=List.mem_of_getElem? ht
      have hi:i < os.length:=(List.getElem?_eq_some_iff.mp ht).1
      have lv:=Paired.length hV
      walk_at "rdx_1"
      refine⟨vs,SqL.of hd,fun p hp=>?_⟩
      rw[cut_last]
      have s2:=Za3 hp (HO.lst (vs.drop (vs.length - 1)))
      have h2d:=s2 _ _ hd
      have h2l:=s2 _ _ hll
      have kk2:=kk.trans s2.keepT
      have tk:os.take (i+1)=os.take i++[t]:=take_snoc ht
      have hgl:(os.take (i+1)).getLast?=some t:=by rw[tk,List.getLast?_append];simp
      have hV2:=Za6 s2.keepT hV
      refine⟨t,htT'.keep s2.keepT,_,SqL.of Za2,fs.drop (fs.length - 1),lv▸paired_drop hV2 (vs.length - 1),(hoo t mt).1,fun s hs=>(hoo s (List.mem_of_mem_take ((hm s).mp (List.mem_of_mem_drop hs)))).1,by have:=(hoo t mt).2;have:=Zd2 t;omega,?_⟩
      by_cases hin:fs.getLast?=some t
      · have hmt:t∈fs.drop (fs.length - 1):=mem_last.mpr hin
        rw[if_neg (by rw[if_pos trivial,decide_eq_true hmt];exact Bool.false_ne_true)]
        refine⟨e.trans s2,kk2,h2l,vs,h2d,fs,hV2,hS,fun x=>?_,by rw[hin,hgl],by omega⟩
        rw[hm x,tk,List.mem_append,List.mem_singleton]
        exact⟨.inl,fun h=>h.elim id fun z=>z▸(hm t).mp (List.mem_of_mem_drop hmt)⟩
      · have hmt:¬ t∈fs.drop (fs.length - 1):=fun z=>hin (mem_last.mp z)
        rw[if_pos (by rw[if_pos trivial,decide_eq_false hmt];rfl)]
        have kk3:KeepT K _ _:=Zf6 (K:=K) (o:=HO.lst (vs++[v])) h2d
        refine⟨.inl ⟨rfl,_,SqL.of h2d⟩,vs,h2d,Zb3 (by omega),(e.trans s2).write f1,kk2.trans kk3,by rw[Zc8 nld];exact h2l,_,Za2,fs++[t],Zd3 (Za6 kk3 hV2) (.cons ((htT'.keep s2.keepT).keep kk3) .nil),?_,fun x=>?_,?_,by rw[List.length_append,List.length_singleton];omega⟩
        · have wk:∀ y∈os.take i,ltT t y=false:=fun y hy=>by
            have hpw2:List.Pairwise (fun a b=>ltT b a=false) (os.take (i+1)):=hpw.sublist (List.take_sublist _ _)
            rw[tk] at hpw2
            exact (List.pairwise_append.mp hpw2).2.2 y hy t (List.mem_singleton.mpr rfl)
          refine List.pairwise_append.mpr ⟨hS,List.pairwise_singleton _ _,fun y hy z hz=>?_⟩
          rw[List.mem_singleton.mp hz]
          by_cases hyt:y=t
          · subst hyt
            obtain⟨l',hl'⟩:∃ l',fs.getLast?=some l':=by
              cases hg:fs.getLast? with
              | none=>rw[List.getLast?_eq_none_iff.mp hg] at hy;cases hy
              | some l'=>exact⟨l',rfl⟩
            have ml:l'∈os.take i:=List.mem_of_getLast? (hlast▸hl')
            rcases last_or hS hy hl' with z | z
            · exact absurd (z▸hl') hin
            · rw[wk l' ml] at z;cases z
          · exact (ltT_tot hyt).elim id fun z=>by rw[wk y ((hm y).mp hy)] at z;cases z
        · rw[List.mem_append,hm x,tk,List.mem_append]
        · rw[hgl,List.getLast?_append];simp
    · have hd2:fs=norm ts:=norm_uniq g7 fun x=>by rw[g8 x,lw,List.take_length,hpm.mem_iff]
      rw[← hd2]
      exact⟨⟨vs,g5,g6⟩,g7⟩
  rintro σ2 H2 ⟨x2,rfl,e2,hW⟩
  walk_at "rdx_1"
  exact q _ _ e2 f1 hW
theorem ok_ag0 {k:Nat} {f_ag0:Addr} {fd_ag0:FuncData} (F_ag0:Fun K "_law_changed" "_law_changed" s_ag0 f_ag0 fd_ag0) {f_al0:Addr} {fd_al0:FuncData} (G_al0:FnOk P w K mg base CX0 k f_al0 fd_al0 ["_law_some"] (sp_onceL K)) (m_al0:mg "_law_once"=some (.ref f_al0)) (k_al0:PySem.W.keepIn K (.ref f_al0)=true) (b_al0:Binds K fd_al0 ["_law_some"] []):FnOk P w K mg base CX0 (k+1) f_ag0 fd_ag0 ["_law_wishes","_law_on","_law_more"] (sp_changedL K):=by
  refine F_ag0.ok sc_ag0 (fun vs H Q E h=>?_) (fun cdv A outer s H vs Q E hr h=>?_)
  · obtain⟨a,b,ov,o,ws,us,ts,rfl,_⟩:=h
    rfl
  obtain⟨a,b,ov,o,ws,us,ts,rfl,hW,hO,ook,op,hb,hT,hok,hok2,hl,q⟩:=h
  refine⟨_,(Za8 (Zb4 (Za9 G_al0 hr (by exact rfl) m_al0 k_al0 b_al0 .nil Zc2 (Za0 (Zc0 Zh1 (pe_lcG (blkC (N':=["_law_wish","_law_on"]) (nt:=1) (ci:=[1]) ["_law_wishes","_law_on","_law_more"] (defScope s_ag0) rfl rfl (by decide +kernel) rfl (by decide +kernel) (by decide +kernel) rfl (by decide +kernel)) rfl (Ze4 (pv 0)) (fun _ _ _ _=>(Zb5 (i:=0) (show (["_law_wish","_law_on"]:List Str).Nodup from by decide +kernel) rfl (Or.inl rfl))) (fun _ _=>Zg6 (tg2:=(.Name "" ⟨0,0,0,0⟩)) (iter2:=(.Name "" ⟨0,0,0,0⟩))) (fun _ _ _ _ _=>(Zg7 (Zb0 (Zh5 (K:=K) rfl (Zg1 hr)) (pv 0) (pv 1) (Zb8 _)) (Zf1 (pv 0))))) (pv 2)) Za1)))),?_⟩
  walk_at "rdx_1"
  obtain⟨⟨as,ha,hA⟩,hS⟩:=hW
  have la:=Paired.length hA
  refine⟨⟨_,SqL.of ha⟩,fun acc hacc=>?_⟩
  refine comp_list (xs:=as) (fun i H'=>Same H H'∧∃ ys,H' acc=some (.lst ys)∧Paired (IsT K H') ys (rem (ws.take i) o)) ⟨Za3 hacc _,[],Za2,.nil⟩ (fun i H' _ ⟨e,_⟩=>SqL.of (e _ _ ha)) (fun i v H' N hv ⟨e,ys,h,hP⟩ hN=>?_) (fun H' ⟨e,ys,h,hP⟩=>?_)
  · obtain⟨t,ht,hT1⟩:=paired_get hA hv
    have hT2:=hT1.keep (K:=K) e.keepT
    have tin:=List.mem_of_getElem? ht
    have hi:i < ws.length:=(List.getElem?_eq_some_iff.mp ht).1
    have et:rem (ws.take (i+1)) o=rem (ws.take i) o++rem [t] o:=by rw[take_snoc ht];unfold rem;rw[List.filter_append]
    have lr:(rem (ws.take i) o).length≤i:=by
      have h1:(rem (ws.take i) o).length≤(ws.take i).length:=List.length_filter_le _ _
      rw[List.length_take] at h1;omega
    have ly:=Paired.length hP
    walk_at "rdx_1"
    refine⟨Ze8 (i:=0) rfl,t.data,hT2,o.data,hO.keep e.keepT,t.lay (hok t tin).1,o.lay ook,by rw[Tm.depth];have:=(hok t tin).2;have:=Zd2 t;omega,?_⟩
    rw[Tm.eqv]
    by_cases hto:t=o
    · rw[if_neg (by rw[if_pos trivial,decide_eq_true hto];exact Bool.false_ne_true)]
      refine hN _ ⟨e,ys,h,?_⟩
      rw[et,show rem [t] o=[] by unfold rem;simp[hto],List.append_nil]
      exact hP
    · rw[if_pos (by rw[if_pos trivial,decide_eq_false hto];rfl)]
      have kk:KeepT K H' (upd H' acc (.lst (ys++[v]))):=Zf6 h
      refine⟨ys,h,Zb3 (by omega),hN _ ⟨e.write hacc,_,Za2,?_⟩⟩
      rw[et,show rem [t] o=[t] by unfold rem;simp[hto]]
      exact Zd3 (Za6 kk hP) (.cons (hT2.keep kk) .nil)
  · rw[la,List.take_length] at hP
    have lt:=Paired.length hT
    have ly:=Paired.length hP
    have lr:(rem ws o).length≤ws.length:=List.length_filter_le _ _
    refine⟨ys,h,us,e _ _ hb,Nat.le_of_lt (Zb3 (by omega)),fun p hp=>?_⟩
    have s1:=Za3 hp (HO.lst (ys++us))
    refine⟨p,_,rem ws o++ts,rfl,Za2,Zd3 (Za6 s1.keepT hP) (Za6 (e.trans s1).keepT hT),fun t ht=>(List.mem_append.mp ht).elim (fun z=>hok t (mem_rem.mp z).1) (hok2 t),by rw[List.length_append];omega,fun r H2 e2 hr hw=>q r H2 ((e.trans s1).trans e2) (((e.trans s1)).free hr) hw⟩
end
noncomputable abbrev s_am0:Stmt:=top 44
theorem sc_am0:FnScope ["_law_statement_here"] ["_law_statement_here"] (defScope s_am0):=⟨rfl,rfl,rfl,by decide +kernel,rfl,by decide +kernel,by decide +kernel⟩
noncomputable abbrev s_an0:Stmt:=top 47
theorem sc_an0:FnScope ["_law_some","_law_cell_here","_law_other"] ["_law_some","_law_cell_here","_law_other"] (defScope s_an0):=⟨rfl,rfl,rfl,by decide +kernel,rfl,by decide +kernel,by decide +kernel⟩
noncomputable abbrev s_ai0:Stmt:=top 48
theorem sc_ai0:FnScope ["_law_lines","_law_start","_law_goal","_law_form","_law_k","_law_at"] ["_law_lines","_law_start","_law_goal","_law_form"] (defScope s_ai0):=⟨rfl,rfl,rfl,by decide +kernel,rfl,by decide +kernel,by decide +kernel⟩
section
variable {P:Program} {w:World} {K:PySem.W.Frag} {mg:Str→Option Value} {base:Heap}
theorem ok_am0 {k n:Nat} {f_am0:Addr} {fd_am0:FuncData} (F_am0:Fun K "_law_parts" "_law_parts" s_am0 f_am0 fd_am0) (G_am0:FnOk P w K mg base CX0 k f_am0 fd_am0 ["_law_statement_here"] (sp_partsL K n)) (m_am0:mg "_law_parts"=some (.ref f_am0)) (k_am0:PySem.W.keepIn K (.ref f_am0)=true) (b_am0:Binds K fd_am0 ["_law_statement_here"] []) (m_len:mg "len"=none):FnOk P w K mg base CX0 (k+1) f_am0 fd_am0 ["_law_statement_here"] (sp_partsL K (n+1)):=by
  refine F_am0.ok sc_am0 (fun vs H Q E h=>?_) (fun cdv A outer s H vs Q E hr h=>?_)
  · obtain⟨v,t,rfl,_⟩:=h
    rfl
  obtain⟨v,t,rfl,hT,hd,q⟩:=h
  refine⟨_,(Za4 (Zd9 (Zb0 (op_lt) (Zd1 Zc3 (by exact rfl) m_len Ken.boot_len (Za0 (pv 0) Za1)) Za5 (Zb8 _))
    (Za8 (Zb4 Za5))
    Zc4)
  (Za8 (Zb4 (Zc0 Zf3 (Zc0 Zf3 Za5 (Za9 G_am0 hr (by exact rfl) m_am0 k_am0 b_am0 .nil Zc2 (Za0 (Zb6 Zb7 (pv 0) Za5 (fun _ _=>rfl)) Za1))) (Za9 G_am0 hr (by exact rfl) m_am0 k_am0 b_am0 .nil Zc2 (Za0 (Zb6 Zb7 (pv 0) Za5 (fun _ _=>rfl)) Za1)))))),?_⟩
  walk_at "rdx_1"
  cases t with
  | low =>
    obtain⟨p,rfl,hs⟩:=isT_low.mp hT
    refine⟨p,rfl,_,.inr hs,?_⟩
    rw[if_pos (by decide)]
    exact q _ (Same.refl _)
  | ltr y =>
    obtain⟨p,rfl,hs⟩:=isT_ltr.mp hT
    refine⟨p,rfl,_,.inr hs,?_⟩
    rw[if_pos (by show (2:Int) < 3;decide)]
    exact q _ (Same.refl _)
  | nd kk c d =>
    obtain⟨p,x,y,rfl,hs,hx,hy⟩:=isT_nd.mp hT
    have hdd:1+max c.deep d.deep≤n:=by have:(Tm.nd kk c d).deep=1+max c.deep d.deep:=rfl;omega
    refine⟨p,rfl,_,.inr hs,?_⟩
    rw[if_neg (by show ¬ (3:Int) < 3;decide)]
    refine⟨p,rfl,_,hs,_,rfl,x,c,rfl,hx,by omega,fun H1 e1=>⟨_,rfl,p,rfl,_,e1.sqt hs,_,rfl,y,d,rfl,hy.keep e1.keepT,by omega,fun H2 e2=>?_⟩⟩
    have:=q _ (e1.trans e2)
    have ep:(((Tm.nd kk c d).parts:Nat):Int)=1+(c.parts:Int)+(d.parts:Int):=by
      show (((1+c.parts+d.parts:Nat)):Int)=_
      omega
    rw[ep] at this
    exact⟨_,rfl,this⟩
theorem parts_zero {f:Addr} {fd:FuncData} {ps:List Str} {k:Nat}:FnOk P w K mg base CX0 k f fd ps (sp_partsL K 0):=by
  have no:∀ vs H Q E,¬ sp_partsL K 0 vs H Q E:=fun vs H Q E h=>by
    obtain⟨v,t,_,_,hd,_⟩:=h
    omega
  exact⟨fun vs H Q E h=>absurd h (no vs H Q E),fun A outer s H args us vs Q E _ _ _ _ h=>absurd h (no vs H Q E)⟩
theorem all_am0 {f_am0:Addr} {fd_am0:FuncData} (F_am0:Fun K "_law_parts" "_law_parts" s_am0 f_am0 fd_am0) (m_am0:mg "_law_parts"=some (.ref f_am0)) (b_am0:Binds K fd_am0 ["_law_statement_here"] []) (m_len:mg "len"=none) :
    ∀ n:Nat,FnOk P w K mg base CX0 (n+1) f_am0 fd_am0 ["_law_statement_here"] (sp_partsL K n)
  | 0=>parts_zero
  | n+1=>ok_am0 F_am0 (all_am0 F_am0 m_am0 b_am0 m_len n) m_am0 F_am0.kp b_am0 m_len
theorem ok_an0 {k:Nat} {f_an0:Addr} {fd_an0:FuncData} (F_an0:Fun K "_law_pick" "_law_pick" s_an0 f_an0 fd_an0) (m_len:mg "len"=none):FnOk P w K mg base CX0 (k+1) f_an0 fd_an0 ["_law_some","_law_cell_here","_law_other"] (sp_pick K):=by
  refine F_an0.ok sc_an0 (fun vs H Q E h=>?_) (fun cdv A outer s H vs Q E hr h=>?_)
  · obtain⟨a,c,ov,us,ts,o,rfl,_⟩:=h
    rfl
  obtain⟨a,c,ov,us,ts,o,rfl,ha,hT,hok,ho,q⟩:=h
  refine⟨_,(Za4 (Zd9 ((pw_or (Zb0 (op_eqD (Zg1 hr)) (pv 0) (Zc5 Za1) (Zb8 _)) (pw_or1 (Zb0 (Zg2) (Zc0 Ze5 (pv 1) Za5) Za5 (Zb8 _))))).pt
    (Za8 (Zb4 (pv 2)))
    Zc4)
  (Za8 (Zb4 (Zb6 Zd5 (pv 0) (Zc0 Ze5 (Zc0 Ze0 (pv 1) Za5) (Zd1 Zc3 (by exact rfl) m_len Ken.boot_len (Za0 (pv 0) Za1))) (fun _ _=>rfl))))),?_⟩
  walk_at "rdx_1"
  have lu:us.length=ts.length:=Paired.length hT
  refine⟨by decide,fun p hp=>?_⟩
  have sp:=Za3 hp (HO.lst [])
  have hT1:=Za6 sp.keepT hT
  have ha1:=sp _ _ ha
  have hp1:upd H p (HO.lst []) p=some (.lst []):=Za2
  have oke:∀ t∈ts,t.ok:=fun t h=>(hok t h).1
  generalize upd H p (HO.lst [])=H1 at sp hT1 ha1 hp1 ⊢
  refine⟨.list (ts.map Tm.data),?_,.list [],?_,tms_lay oke,rfl,Nat.le_trans (Nat.min_le_right _ _) (by decide),?_⟩
  · rw[Dn];exact⟨a,us,rfl,SqL.of ha1,tms_dn hT1⟩
  · rw[Dn];exact⟨p,[],rfl,SqL.of hp1,by rw[DnAll]⟩
  rw[if_neg Bool.false_ne_true]
  cases ts with
  | nil =>
    rw[if_pos (by rfl),if_pos trivial]
    exact q _ _ _ sp (ho.keep sp.keepT) (.inl rfl)
  | cons t0 ts =>
    rw[if_neg (show ¬ (PyData.eqv (.list ((t0 :: ts).map Tm.data)) (.list []))=true from Bool.false_ne_true)]
    refine⟨by decide,ite2 (fun _=>q _ _ _ sp (ho.keep sp.keepT) (.inl rfl)) fun _=>?_⟩
    have hpos:0 < us.length:=by rw[lu];exact Nat.succ_pos _
    obtain⟨v,hv,hat⟩:=at_list (xs:=us) (i:=c / 4 % ((us.length:Nat):Int)) (Int.emod_nonneg _ (by omega)) (Int.emod_lt_of_pos _ (by omega))
    obtain⟨j,hj,ej⟩:=List.getElem_of_mem hv
    obtain⟨t,ht,hvt⟩:=paired_get hT1 (List.getElem?_eq_getElem hj)
    rw[ej] at hvt
    exact⟨⟨by decide,by decide⟩,us,.inl (SqL.of ha1),by omega,us,SqL.of ha1,v,hat,q _ _ _ sp hvt (.inr (List.mem_of_getElem? ht))⟩
theorem ok_ai0 {k:Nat} {f_ai0:Addr} {fd_ai0:FuncData} (F_ai0:Fun K "_law_found" "_law_found" s_ai0 f_ai0 fd_ai0) (m_range:mg "range"=none) (m_len:mg "len"=none):FnOk P w K mg base CX0 (k+1) f_ai0 fd_ai0 ["_law_lines","_law_start","_law_goal","_law_form"] (sp_found K):=by
  refine F_ai0.ok sc_ai0 (fun vs H Q E h=>?_) (fun cdv A outer s H vs Q E hr h=>?_)
  · obtain⟨a,us,L,st,gv,on,x,rfl,_⟩:=h
    rfl
  obtain⟨a,us,L,st,gv,on,x,rfl,ha,hL,hok,hn,hO,q0,q1⟩:=h
  refine⟨_,(Za4 (ps_for PassesOwn.never rfl (pi_range1 rfl m_range (Za0 (Zd1 Zc3 (by exact rfl) m_len Ken.boot_len (Za0 (pv 0) Za1)) Za1)) (Zb5 (i:=4) sc_ai0.nd rfl (Or.inl rfl))
    (Za4 (Zb2 (i:=5) sc_ai0.nd rfl (Or.inl rfl) (Zc0 Ze5 (Zc0 Zf3 (pv 1) (pv 4)) (Zd1 Zc3 (by exact rfl) m_len Ken.boot_len (Za0 (pv 0) Za1))))
  (Za8 (Zd9 ((pw_or (Zb0 (op_eqD (Zg1 hr)) (Zb6 Zb7 (Zb6 Zd5 (pv 0) (pv 5) (fun _ _=>rfl)) Za5 (fun _ _=>rfl)) (pv 2) (Zb8 _)) (pw_or1 ((pw_and (Zb0 (op_isN) (pv 2) Ze3 (Zb8 _)) (pw_and1 (Zb0 (Zg2) (Zb6 Zb7 (Zb6 Zb7 (Zb6 Zd5 (pv 0) (pv 5) (fun _ _=>rfl)) Za5 (fun _ _=>rfl)) Za5 (fun _ _=>rfl)) (pv 3) (Zb8 _))))).pt))).pt
    (Za8 (Zb4 (pv 5)))
    Zc4))))
  (Za8 (Zb4 Ze3))),?_⟩
  have lu:us.length=L.length:=Paired.length hL
  refine Za7 (fun σ' H'=>Same H H'∧(∃ x4 x5,σ'=[some (.ref a),some (.int st),some gv,some (.str x),x4,x5])∧∀ l∈L,¬ foundB on x l) ?_ ?_
  rotate_left
  · intro C hC
    walk_at "rdx_2"
    refine⟨us,.inl (SqL.of ha),by omega,by omega,?_⟩
    refine for_range (D:={ nx:=C,rt:=Q }) (n:=((us.length:Nat):Int).toNat) (lo:=0) (fun i σ' H'=>Same H H'∧(∃ x4 x5,σ'=[some (.ref a),some (.int st),some gv,some (.str x),x4,x5])∧∀ (j:Nat) l,j < i→L[((st+(j:Int)) % (L.length:Int)).toNat]?=some l→¬ foundB on x l) ⟨Same.refl _,⟨none,none,rfl⟩,fun j l hj=>absurd hj (Nat.not_lt_zero _)⟩ (fun i σ' H' hlt hp=>?_) (fun σ' H' ⟨h1,h2,h3⟩=>hC _ _ ⟨h1,h2,fun l hl=>?_⟩)
    rotate_left
    · obtain⟨j,hj,rfl⟩:=List.getElem_of_mem hl
      have n0:(L.length:Int)≠0:=by omega
      have m0:=Int.emod_nonneg ((j:Int) - st) n0
      have m1:=Int.emod_lt_of_pos ((j:Int) - st) (show 0 < (L.length:Int) by omega)
      refine h3 (((j:Int) - st) % (L.length:Int)).toNat _ (by omega) ?_
      have e:(st+(((((j:Int) - st) % (L.length:Int)).toNat:Nat):Int)) % (L.length:Int)=(j:Int):=by
        rw[Int.toNat_of_nonneg m0,Int.add_emod,Int.emod_emod_of_dvd _ (Int.dvd_refl _),← Int.add_emod,show st+((j:Int) - st)=(j:Int) by omega]
        exact Int.emod_eq_of_lt (by omega) (by omega)
      rw[e,Int.toNat_natCast]
      exact List.getElem?_eq_getElem hj
    obtain⟨e,⟨x4,x5,rfl⟩,hno⟩:=hp
    have n0:(L.length:Int)≠0:=by omega
    have m0:=Int.emod_nonneg (st+(i:Int)) n0
    have m1:=Int.emod_lt_of_pos (st+(i:Int)) (show 0 < (L.length:Int) by omega)
    obtain⟨m,hm⟩:=Int.eq_ofNat_of_zero_le m0
    have hmu:m < us.length:=by omega
    obtain⟨l,hl,hvl⟩:=paired_get hL (List.getElem?_eq_getElem hmu)
    have okl:=hok l (List.mem_of_getElem? hl)
    have hfin:∀ l',¬ foundB on x l→∀ (j:Nat),j < i+1→L[((st+(j:Int)) % (L.length:Int)).toNat]?=some l'→¬ foundB on x l':=fun l' hf j hj hg=>by
      rcases Nat.lt_or_ge j i with h | h
      · exact hno j l' h hg
      · have:j=i:=by omega
        subst this
        rw[hm,Int.toNat_natCast,hl] at hg
        cases hg
        exact hf
    obtain⟨p,wa,la,gv',ov,ys,hv,h1,h2,h3,h4,h5,h6⟩:=hvl
    walk_at "rdx_1"
    refine⟨us,.inl (SqL.of (e _ _ ha)),by omega,?_⟩
    rw[show st+(0+(i:Int))=st+(i:Int) by omega,show ((us.length:Nat):Int)=(L.length:Int) by omega,hm]
    have ig:∀ {R:Prop},(SqL K H' a us∧atI us ((m:Nat):Int)=some us[m]→R)→R:=fun f=>f ⟨SqL.of (e _ _ ha),Zd6 (List.getElem?_eq_getElem hmu)⟩
    refine⟨us,SqL.of (e _ _ ha),us[m],Zd6 (List.getElem?_eq_getElem hmu),p,hv,_,e.sqt h1,_,rfl,l.g.data,h4.keep e.keepT,?_⟩
    cases on with
    | some t =>
      obtain⟨o1,o2,o3⟩:=hO
      refine⟨t.data,o1.keep e.keepT,l.g.lay okl.g,t.lay o2,Nat.le_trans (Nat.min_le_left _ _) (by rw[Tm.depth];have:=okl.gp;have:=Zd2 l.g;omega),?_⟩
      rw[if_neg Bool.false_ne_true,Tm.eqv]
      by_cases hc:l.g=t
      · rw[if_pos (decide_eq_true hc),if_pos trivial]
        exact q1 m l hl hc _ e
      · rw[if_neg (by rw[decide_eq_false hc];exact Bool.false_ne_true)]
        have gn:gv≠.non:=fun z=>by rw[z] at o1;obtain⟨p,x,xs,A,e,_⟩:=isT_head o1;cases e
        rw[if_neg gn,if_neg Bool.false_ne_true]
        exact⟨e,fun j l' hj hg=>hfin l' hc j hj hg⟩
    | none =>
      have hO':gv=.non:=hO
      subst hO'
      refine⟨.none,by rw[Dn],l.g.lay okl.g,rfl,Nat.le_trans (Nat.min_le_right _ _) (by decide),?_⟩
      have en:l.g.data.eqv .none=false:=by cases l.g<;>rfl
      rw[if_neg Bool.false_ne_true,en,if_neg Bool.false_ne_true,if_pos rfl]
      obtain⟨p2,xs2,e2,h7⟩:=isT_headS (h4.keep e.keepT)
      refine⟨us,SqL.of (e _ _ ha),us[m],Zd6 (List.getElem?_eq_getElem hmu),p,hv,_,e.sqt h1,_,rfl,p2,e2,_,h7,_,at0 _ _,Ze2 _ _,?_⟩
      by_cases hc:headS l.g=x
      · rw[if_pos (by rw[hc])]
        exact q1 m l hl hc _ e
      · rw[if_neg (fun z=>hc (V.str.inj z))]
        exact⟨e,fun j l' hj hg=>hfin l' hc j hj hg⟩
  rintro σ1 H1 ⟨e1,⟨x4,x5,rfl⟩,hno⟩
  walk_at "rdx_1"
  exact q0 hno _ e1
end
noncomputable abbrev s_ab0:Stmt:=top 49
theorem sc_ab0:FnScope ["_law_lines","_law_cell_here","_law_here","_law_there","_law_extra","_law_wishes","_law_goal","_law_form","_law_some","_law_one"] ["_law_lines","_law_cell_here","_law_here","_law_there","_law_extra"] (defScope s_ab0):=⟨rfl,rfl,rfl,by decide +kernel,rfl,by decide +kernel,by decide +kernel⟩
section
variable {P:Program} {w:World} {K:PySem.W.Frag} {mg:Str→Option Value} {base:Heap}
theorem ok_ab0 {k:Nat} {f_ab0:Addr} {fd_ab0:FuncData} (F_ab0:Fun K "_law_by_goal" "_law_by_goal" s_ab0 f_ab0 fd_ab0) {f_al0:Addr} {fd_al0:FuncData} (G_al0:FnOk P w K mg base CX0 k f_al0 fd_al0 ["_law_some"] (sp_onceL K)) (m_al0:mg "_law_once"=some (.ref f_al0)) (k_al0:PySem.W.keepIn K (.ref f_al0)=true) (b_al0:Binds K fd_al0 ["_law_some"] []) {f_an0:Addr} {fd_an0:FuncData} (G_an0:FnOk P w K mg base CX0 k f_an0 fd_an0 ["_law_some","_law_cell_here","_law_other"] (sp_pick K)) (m_an0:mg "_law_pick"=some (.ref f_an0)) (k_an0:PySem.W.keepIn K (.ref f_an0)=true) (b_an0:Binds K fd_an0 ["_law_some","_law_cell_here","_law_other"] []) (m_len:mg "len"=none) (m_list:mg "list"=none):FnOk P w K mg base CX0 (k+1) f_ab0 fd_ab0 ["_law_lines","_law_cell_here","_law_here","_law_there","_law_extra"] (sp_bygoal K):=by
  refine F_ab0.ok sc_ab0 (fun vs H Q E h=>?_) (fun cdv A outer s H vs Q E hr h=>?_)
  · obtain⟨a,us,L,c,i,j,ev,ex,rfl,_⟩:=h
    rfl
  obtain⟨a,us,L,c,i,j,ev,ex,rfl,ha,hL,G,hi,hj,hE,exk,q⟩:=h
  refine⟨_,(Za4 (Zb2 (i:=5) sc_ab0.nd rfl (Or.inl rfl) (Zb6 Zb7 (Zb6 Zd5 (pv 0) (pv 2) (fun _ _=>rfl)) Za5 (fun _ _=>rfl)))
  (Za4 (Zb2 (i:=6) sc_ab0.nd rfl (Or.inl rfl) (Zb6 Zb7 (Zb6 Zd5 (pv 0) (pv 2) (fun _ _=>rfl)) Za5 (fun _ _=>rfl)))
  (Za4 (Zb2 (i:=7) sc_ab0.nd rfl (Or.inl rfl) (Zc0 Ze5 (pv 1) Za5))
  (Za4 (Zd9 (Zb0 (Zg2) (pv 7) Za5 (Zb8 _))
    (Za4 (Zb2 (i:=8) sc_ab0.nd rfl (Or.inl rfl) (Za9 G_al0 hr (by exact rfl) m_al0 k_al0 b_al0 .nil Zc2 (Za0 (Zc0 Zh1 (pv 5) (Zc5 (Za0 (pv 4) Za1))) Za1)))
  (Za8 (Zb4 (Zc1 (Za0 Zb9 (Za0 (pv 8) (Za0 (Zb6 Zd5 (pv 8) (Zc0 Ze5 (Zc0 Ze0 (pv 1) Za5) (Zd1 Zc3 (by exact rfl) m_len Ken.boot_len (Za0 (pv 8) Za1))) (fun _ _=>rfl)) (Za0 Ze3 (Za0 (Zc5 Za1) Za1)))))))))
    Zc4)
  (Za4 (Zd9 (Zb0 (Zg2) (pv 7) Za5 (Zb8 _))
    (Za8 (Zb4 (Zc1 (Za0 Zb9 (Za0 (Za9 G_al0 hr (by exact rfl) m_al0 k_al0 b_al0 .nil Zc2 (Za0 (Zc0 Zh1 (pv 5) (Zc5 (Za0 (Zc1 (Za0 Zb9 Za1)) Za1))) Za1)) (Za0 (pv 4) (Za0 Ze3 (Za0 (Zc5 Za1) Za1))))))))
    Zc4)
  (Za4 (Zd9 (Zb0 (Zg2) (pv 7) Za5 (Zb8 _))
    (Za8 (Zb4 (Zc1 (Za0 Zb9 (Za0 (Za9 G_al0 hr (by exact rfl) m_al0 k_al0 b_al0 .nil Zc2 (Za0 (Zc0 Zh1 (pv 5) (Zb6 Zb7 (Zb6 Zd5 (pv 0) (pv 3) (fun _ _=>rfl)) Za5 (fun _ _=>rfl))) Za1)) (Za0 (Zc1 (Za0 Zb9 (Za0 (pv 6) (Za0 (Zb6 Zb7 (Zb6 Zd5 (pv 0) (pv 3) (fun _ _=>rfl)) Za5 (fun _ _=>rfl)) Za1)))) (Za0 Ze3 (Za0 (Zc5 (Za0 (pv 2) (Za0 (pv 3) Za1))) Za1))))))))
    Zc4)
  (Za4 (Zd9 (Zb0 (Zg2) (pv 7) Za5 (Zb8 _))
    (Za8 (Zb4 (Zc1 (Za0 Zb9 (Za0 (Ze9 Zd8 (by exact rfl) m_list Ken.boot_list (Za0 (pv 5) Za1)) (Za0 (Zc1 (Za0 Zb9 (Za0 (pv 6) (Za0 (pv 4) Za1)))) (Za0 Ze3 (Za0 (Zc5 (Za0 (pv 2) Za1)) Za1))))))))
    Zc4)
  (Za4 (Zd9 (Zb0 (Zg2) (pv 7) Za5 (Zb8 _))
    (Za8 (Zb4 (Zc1 (Za0 Zb9 (Za0 (Za9 G_al0 hr (by exact rfl) m_al0 k_al0 b_al0 .nil Zc2 (Za0 (Zc0 Zh1 (pv 5) (Zc5 (Za0 (pv 4) Za1))) Za1)) (Za0 (Zc1 (Za0 Zb9 (Za0 (pv 4) (Za0 (pv 6) Za1)))) (Za0 Ze3 (Za0 (Zc5 (Za0 (pv 2) Za1)) Za1))))))))
    Zc4)
  (Za4 (Zb2 (i:=9) sc_ab0.nd rfl (Or.inr rfl) (Za9 G_an0 hr (by exact rfl) m_an0 k_an0 b_an0 .nil Zc2 (Za0 (pv 5) (Za0 (Zc0 Ze0 (pv 1) Za5) (Za0 (pv 4) Za1)))))
  (Za8 (Zb4 (Zc1 (Za0 Zb9 (Za0 (pe_lcG (blkC (N':=["_law_wish","_law_one"]) (nt:=1) (ci:=[9]) ["_law_lines","_law_cell_here","_law_here","_law_there","_law_extra","_law_wishes","_law_goal","_law_form","_law_some","_law_one"] (defScope s_ab0) rfl rfl (by decide +kernel) rfl (by decide +kernel) (by decide +kernel) rfl (by decide +kernel)) rfl (Ze4 (pv 5)) (fun _ _ _ _=>(Zb5 (i:=0) (show (["_law_wish","_law_one"]:List Str).Nodup from by decide +kernel) rfl (Or.inl rfl))) (fun _ _=>Zg6 (tg2:=(.Name "" ⟨0,0,0,0⟩)) (iter2:=(.Name "" ⟨0,0,0,0⟩))) (fun _ _ _ _ _=>(Zg7 (Zb0 (Zh5 (K:=K) rfl (Zg1 hr)) (pv 0) (pv 1) (Zb8 _)) (Zf1 (pv 0))))) (Za0 (Zc1 (Za0 Zb9 (Za0 (pv 9) (Za0 (pv 6) Za1)))) (Za0 Ze3 (Za0 (Zc5 (Za0 (pv 2) Za1)) Za1))))))))))))))))),?_⟩
  have lu:us.length=L.length:=Paired.length hL
  have hiu:i < us.length:=by omega
  have hju:j < us.length:=by omega
  obtain⟨li,hli,hvi⟩:=paired_get hL (List.getElem?_eq_getElem hiu)
  obtain⟨lj,hlj,hvj⟩:=paired_get hL (List.getElem?_eq_getElem hju)
  have oki:=G.ok li (List.mem_of_getElem? hli)
  have okj:=G.ok lj (List.mem_of_getElem? hlj)
  obtain⟨pi,wi,ai,gi,oi,yi,evi,i1,i2,i3,i4,i5,i6⟩:=hvi
  obtain⟨pj,wj,aj,gj,oj,yj,evj,j1,j2,j3,j4,j5,j6⟩:=hvj
  have lyi:yi.length=li.ws.length:=Paired.length i3
  have lyj:yj.length=lj.ws.length:=Paired.length j3
  have w9:=oki.w9
  have w9j:=okj.w9
  refine Za7 (fun σ' H'=>σ'=[some (.ref a),some (.int c),some (.int (i:Nat)),some (.int (j:Nat)),some ev,some (.ref wi),none,none,none,none]∧H'=H) ?_ ?_
  rotate_left
  · intro C hC
    walk_at "rdx_1"
    exact⟨us,SqL.of ha,_,Zd6 (List.getElem?_eq_getElem hiu),pi,evi,_,i1,_,rfl,hC _ _ ⟨rfl,rfl⟩⟩
  rintro σ1 H1 ⟨rfl,rfl⟩
  refine Za7 (fun σ' H'=>σ'=[some (.ref a),some (.int c),some (.int (i:Nat)),some (.int (j:Nat)),some ev,some (.ref wi),some gi,none,none,none]∧H'=H1) ?_ ?_
  rotate_left
  · intro C hC
    walk_at "rdx_1"
    exact⟨us,SqL.of ha,_,Zd6 (List.getElem?_eq_getElem hiu),pi,evi,_,i1,_,rfl,hC _ _ ⟨rfl,rfl⟩⟩
  rintro σ2 H2 ⟨rfl,rfl⟩
  refine Za7 (fun σ' H'=>σ'=[some (.ref a),some (.int c),some (.int (i:Nat)),some (.int (j:Nat)),some ev,some (.ref wi),some gi,some (.int (c % 6)),none,none]∧H'=H2) ?_ ?_
  rotate_left
  · intro C hC
    walk_at "rdx_1"
    exact⟨by decide,hC _ _ ⟨rfl,rfl⟩⟩
  rintro σ3 H3 ⟨rfl,rfl⟩
  refine Za7 (fun σ' H'=>σ'=[some (.ref a),some (.int c),some (.int (i:Nat)),some (.int (j:Nat)),some ev,some (.ref wi),some gi,some (.int (c % 6)),none,none]∧H'=H3) ?_ ?_
  rotate_left
  · intro C hC
    walk_at "rdx_1"
    refine ite2 (fun _=>?_) (fun _=>hC _ _ ⟨rfl,rfl⟩)
    refine⟨by decide,fun p hp=>?_⟩
    have s1:=Za3 hp (HO.lst [ev])
    refine⟨yi,s1 _ _ i2,_,Za2,Nat.le_of_lt (Zb3 (by show yi.length+1≤1000;omega)),fun p1 hp1=>Zg4 hp1 (Za6 s1.keepT i3) (.cons (hE.keep s1.keepT) .nil) oki.ok.w exk.w (by show li.ws.length+1 < 64;omega) fun r H' e fr hw=>?_⟩
    obtain⟨⟨zs,z1,z2⟩,zS⟩:=hw
    have S:=s1.trans e
    have lz:zs.length=(norm (li.ws++[ex])).length:=Paired.length z2
    have ne:0 < zs.length:=by rw[lz];exact List.length_pos_of_mem (Zd4 (List.mem_singleton.mpr rfl))
    obtain⟨v,hv,hat⟩:=at_list (xs:=zs) (i:=c / 6 % ((zs.length:Nat):Int)) (Int.emod_nonneg _ (by omega)) (Int.emod_lt_of_pos _ (by omega))
    obtain⟨jx,hjx,ejx⟩:=List.getElem_of_mem hv
    obtain⟨t,ht,hvt⟩:=paired_get z2 (List.getElem?_eq_getElem hjx)
    rw[ejx] at hvt
    have htm:=List.mem_of_getElem? ht
    have okc:Okw (norm (li.ws++[ex])):=Zf8 (Zg0 oki.ok.w exk.w)
    refine⟨⟨by decide,by decide⟩,r,rfl,zs,.inl (SqL.of z1),by omega,r,rfl,zs,SqL.of z1,v,hat,by decide,fun p2 hp2=>⟨by decide,fun p3 hp3=>?_⟩⟩
    have s2:=Za3 hp2 (HO.lst [])
    exact q _ _ _ ((S.trans s2).trans (Za3 hp3 _)) (Zf4 (R:=some .wish) (on:=none) (ls:=[]) hp3 (IsW.keep s2 ⟨⟨zs,z1,z2⟩,zS⟩) (hvt.keep s2.keepT) rfl Za2 (s1.free fr) (S.free hp2)) ⟨⟨rfl,okc,by have:=Zd7 li.ws [ex];rw[List.length_singleton] at this;show (norm (li.ws++[ex])).length≤60;omega,(okc t htm).1,(okc t htm).2,Nat.zero_le _⟩,good0 (Zd0 _) (by show (if t∈norm (li.ws++[ex]) then _ else _)=_;rw[if_pos htm]) rfl⟩
  rintro σ4 H4 ⟨rfl,rfl⟩
  refine Za7 (fun σ' H'=>σ'=[some (.ref a),some (.int c),some (.int (i:Nat)),some (.int (j:Nat)),some ev,some (.ref wi),some gi,some (.int (c % 6)),none,none]∧H'=H4) ?_ ?_
  rotate_left
  · intro C hC
    walk_at "rdx_1"
    refine ite2 (fun _=>?_) (fun _=>hC _ _ ⟨rfl,rfl⟩)
    refine⟨by decide,fun p0 hp0=>⟨by decide,fun p hp=>?_⟩⟩
    have s0:=Za3 hp0 (HO.tup [V.str "low"])
    have hlow:IsT K (upd H4 p0 (HO.tup [V.str "low"])) (.ref p0) .low:=isT_low.mpr ⟨p0,rfl,.inl (.inl Za2)⟩
    have s1':=Za3 hp (HO.lst [V.ref p0])
    have s1:=s0.trans s1'
    have lowok:Okw [Tm.low]:=Zf0 trivial (by decide)
    refine⟨yi,s1 _ _ i2,_,Za2,Nat.le_of_lt (Zb3 (by show yi.length+1≤1000;omega)),fun p1 hp1=>Zg4 hp1 (Za6 s1.keepT i3) (.cons (hlow.keep s1'.keepT) .nil) oki.ok.w lowok (by show li.ws.length+1 < 64;omega) fun r H' e fr hw=>?_⟩
    have S:=s1.trans e
    have okc:Okw (norm (li.ws++[Tm.low])):=Zf8 (Zg0 oki.ok.w lowok)
    refine⟨by decide,fun p2 hp2=>⟨by decide,fun p3 hp3=>?_⟩⟩
    have s2:=Za3 hp2 (HO.lst [])
    exact q _ _ _ ((S.trans s2).trans (Za3 hp3 _)) (Zf4 (R:=some .low) (on:=none) (ls:=[]) hp3 (hw.keep s2) (hE.keep (S.trans s2).keepT) rfl Za2 (s1.free fr) (S.free hp2)) ⟨⟨rfl,okc,by have:=Zd7 li.ws [Tm.low];rw[List.length_singleton] at this;show (norm (li.ws++[Tm.low])).length≤60;omega,exk.1,by have:=exk.2;show ex.parts≤100;omega,Nat.zero_le _⟩,good0 (Zd0 _) (by show (if Tm.low∈norm (li.ws++[Tm.low]) then _ else _)=_;rw[if_pos (Zd4 (List.mem_singleton.mpr rfl))]) rfl⟩
  rintro σ5 H5 ⟨rfl,rfl⟩
  refine Za7 (fun σ' H'=>σ'=[some (.ref a),some (.int c),some (.int (i:Nat)),some (.int (j:Nat)),some ev,some (.ref wi),some gi,some (.int (c % 6)),none,none]∧H'=H5) ?_ ?_
  rotate_left
  · intro C hC
    walk_at "rdx_1"
    refine ite2 (fun _=>?_) (fun _=>hC _ _ ⟨rfl,rfl⟩)
    refine⟨us,SqL.of ha,_,Zd6 (List.getElem?_eq_getElem hju),pj,evj,_,j1,_,rfl,wj,rfl,yi,i2,yj,j2,Nat.le_of_lt (Zb3 (by omega)),fun p1 hp1=>Zg4 hp1 i3 j3 oki.ok.w okj.ok.w (by omega) fun r H' S fr hw=>?_⟩
    have okc:Okw (norm (li.ws++lj.ws)):=Zf8 (Zg0 oki.ok.w okj.ok.w)
    refine⟨us,SqL.of (S _ _ ha),_,Zd6 (List.getElem?_eq_getElem hju),pj,evj,_,S.sqt j1,_,rfl,by decide,fun p2 hp2=>⟨by decide,fun p3 hp3=>⟨by decide,fun p4 hp4=>?_⟩⟩⟩
    have s2:=Za3 hp2 (HO.tup [V.str "both",gi,gj])
    have s3:=Za3 hp3 (HO.lst [V.int (i:Nat),V.int (j:Nat)])
    have hb:IsT K (upd H' p2 (HO.tup [V.str "both",gi,gj])) (.ref p2) (.nd .both li.g lj.g):=isT_nd.mpr ⟨p2,gi,gj,rfl,.inl (.inl Za2),i4.keep (S.trans s2).keepT,j4.keep (S.trans s2).keepT⟩
    have gp1:=oki.g40
    have gp2:=okj.g40
    exact q _ _ _ (((S.trans s2).trans s3).trans (Za3 hp4 _)) (Zf4 (R:=some .both) (on:=none) (ls:=[(i:Int),(j:Int)]) hp4 (hw.keep (s2.trans s3)) (hb.keep s3.keepT) rfl Za2 fr ((S.trans s2).free hp3)) ⟨⟨rfl,okc,by have:=Zd7 li.ws lj.ws;show (norm (li.ws++lj.ws)).length≤60;omega,⟨oki.ok.g,okj.ok.g⟩,by show 1+li.g.parts+lj.g.parts≤100;omega,by show 2≤100;decide⟩,good2 (Zd0 _) rfl rfl hi hli rfl (fun t ht=>.inl (Zf2 ht)) hj hlj rfl (fun t ht=>.inl (Zd4 ht))⟩
  rintro σ6 H6 ⟨rfl,rfl⟩
  refine Za7 (fun σ' H'=>σ'=[some (.ref a),some (.int c),some (.int (i:Nat)),some (.int (j:Nat)),some ev,some (.ref wi),some gi,some (.int (c % 6)),none,none]∧H'=H6) ?_ ?_
  rotate_left
  · intro C hC
    walk_at "rdx_1"
    refine ite2 (fun _=>?_) (fun _=>hC _ _ ⟨rfl,rfl⟩)
    refine⟨yi,.inl (SqL.of i2),fun l hl=>⟨by decide,fun p2 hp2=>⟨by decide,fun p3 hp3=>⟨by decide,fun p4 hp4=>?_⟩⟩⟩⟩
    have s1:=Za3 hl (HO.lst yi)
    have s2:=Za3 hp2 (HO.tup [V.str "one",gi,ev])
    have s3:=Za3 hp3 (HO.lst [V.int (i:Nat)])
    have S:=s1.trans s2
    have hb:IsT K (upd (upd H6 l (HO.lst yi)) p2 (HO.tup [V.str "one",gi,ev])) (.ref p2) (.nd .one li.g ex):=isT_nd.mpr ⟨p2,gi,ev,rfl,.inl (.inl Za2),i4.keep S.keepT,hE.keep S.keepT⟩
    have hw:IsW K (upd H6 l (HO.lst yi)) l li.ws:=⟨⟨yi,Za2,Za6 s1.keepT i3⟩,G.sorted hli⟩
    have gp1:=oki.g40
    have gp2:=exk.2
    exact q _ _ _ ((S.trans s3).trans (Za3 hp4 _)) (Zf4 (R:=some .first) (on:=none) (ls:=[(i:Int)]) hp4 (hw.keep (s2.trans s3)) (hb.keep s3.keepT) rfl Za2 hl (S.free hp3)) ⟨⟨rfl,oki.ok.w,oki.ok.wl,⟨oki.ok.g,exk.1⟩,by show 1+li.g.parts+ex.parts≤100;omega,by show 1≤100;decide⟩,good1 (show sortedT li.ws from G.sorted hli) rfl rfl hi hli rfl (fun t ht=>.inl ht)⟩
  rintro σ7 H7 ⟨rfl,rfl⟩
  refine Za7 (fun σ' H'=>σ'=[some (.ref a),some (.int c),some (.int (i:Nat)),some (.int (j:Nat)),some ev,some (.ref wi),some gi,some (.int (c % 6)),none,none]∧H'=H7) ?_ ?_
  rotate_left
  · intro C hC
    walk_at "rdx_1"
    refine ite2 (fun _=>?_) (fun _=>hC _ _ ⟨rfl,rfl⟩)
    refine⟨by decide,fun p hp=>?_⟩
    have s1:=Za3 hp (HO.lst [ev])
    refine⟨yi,s1 _ _ i2,_,Za2,Nat.le_of_lt (Zb3 (by show yi.length+1≤1000;omega)),fun p1 hp1=>Zg4 hp1 (Za6 s1.keepT i3) (.cons (hE.keep s1.keepT) .nil) oki.ok.w exk.w (by show li.ws.length+1 < 64;omega) fun r H' e fr hw=>⟨by decide,fun p2 hp2=>⟨by decide,fun p3 hp3=>⟨by decide,fun p4 hp4=>?_⟩⟩⟩⟩
    have S:=s1.trans e
    have okc:Okw (norm (li.ws++[ex])):=Zf8 (Zg0 oki.ok.w exk.w)
    have s2:=Za3 hp2 (HO.tup [V.str "one",ev,gi])
    have s3:=Za3 hp3 (HO.lst [V.int (i:Nat)])
    have hb:IsT K (upd H' p2 (HO.tup [V.str "one",ev,gi])) (.ref p2) (.nd .one ex li.g):=isT_nd.mpr ⟨p2,ev,gi,rfl,.inl (.inl Za2),hE.keep (S.trans s2).keepT,i4.keep (S.trans s2).keepT⟩
    have gp1:=oki.g40
    have gp2:=exk.2
    exact q _ _ _ (((S.trans s2).trans s3).trans (Za3 hp4 _)) (Zf4 (R:=some .second) (on:=none) (ls:=[(i:Int)]) hp4 (hw.keep (s2.trans s3)) (hb.keep s3.keepT) rfl Za2 (s1.free fr) ((S.trans s2).free hp3)) ⟨⟨rfl,okc,by have:=Zd7 li.ws [ex];rw[List.length_singleton] at this;show (norm (li.ws++[ex])).length≤60;omega,⟨exk.1,oki.ok.g⟩,by show 1+ex.parts+li.g.parts≤100;omega,by show 1≤100;decide⟩,good1 (Zd0 _) rfl rfl hi hli rfl (fun t ht=>.inl (Zf2 ht))⟩
  rintro σ8 H8 ⟨rfl,rfl⟩
  refine Za7 (fun σ' H'=>∃ v o,σ'=[some (.ref a),some (.int c),some (.int (i:Nat)),some (.int (j:Nat)),some ev,some (.ref wi),some gi,some (.int (c % 6)),none,some v]∧Same H8 H'∧IsT K H' v o∧S40 o) ?_ ?_
  rotate_left
  · intro C hC
    walk_at "rdx_1"
    refine⟨⟨by decide,by decide⟩,wi,_,ev,yi,li.ws,ex,rfl,i2,i3,oki.ok.w,hE,fun r t H' e hr ht=>hC _ _ ⟨r,t,rfl,e,hr,?_⟩⟩
    rcases ht with rfl | ht
    · exact exk
    · exact oki.s40 t ht
  rintro σ9 H9 ⟨v,o,rfl,e9,hv,ok40⟩
  walk_at "rdx_1"
  refine⟨⟨_,SqL.of (e9 _ _ i2)⟩,fun acc hacc=>?_⟩
  refine Zf7 (fun t=>decide (t≠o)) (e9 _ _ i2) (Za6 e9.keepT i3) (by omega) hacc (fun v'=>Ze8 (i:=0) rfl) (fun v' t H' ys N htm e hT h hlen hy hn=>?_) (fun H' ys e h hP=>?_)
  · walk_at "rdx_1"
    have okt:=oki.ok.w t htm
    refine⟨t.data,hT,o.data,hv.keep e.keepT,t.lay okt.1,o.lay ok40.1,Nat.le_trans (Nat.min_le_left _ _) (by rw[Tm.depth];have:=okt.2;have:=Zd2 t;omega),?_⟩
    rw[Tm.eqv]
    by_cases hto:t=o
    · rw[if_neg (by rw[if_pos trivial,decide_eq_true hto];exact Bool.false_ne_true)]
      exact hn (decide_eq_false (fun z=>z hto)) _ (Same.refl _)
    · rw[if_pos (by rw[if_pos trivial,decide_eq_false hto];rfl)]
      exact⟨ys,h,Zb3 (by omega),hy (decide_eq_true hto) _ (Same.refl _) h⟩
  · refine⟨by decide,fun p2 hp2=>⟨by decide,fun p3 hp3=>⟨by decide,fun p4 hp4=>?_⟩⟩⟩
    have S:=e9.trans e
    have s2:=Za3 hp2 (HO.tup [V.str "then",v,gi])
    have s3:=Za3 hp3 (HO.lst [V.int (i:Nat)])
    have hb:IsT K (upd H' p2 (HO.tup [V.str "then",v,gi])) (.ref p2) (.nd .thn o li.g):=isT_nd.mpr ⟨p2,v,gi,rfl,.inl (.inl Za2),hv.keep (e.trans s2).keepT,i4.keep (S.trans s2).keepT⟩
    have hw:IsW K H' acc (rem li.ws o):=⟨⟨ys,h,hP⟩,sorted_rem (G.sorted hli)⟩
    have gp1:=oki.g40
    have gp2:=ok40.2
    have lr:(rem li.ws o).length≤li.ws.length:=List.length_filter_le _ _
    exact q _ _ _ (((S.trans s2).trans s3).trans (Za3 hp4 _)) (Zf4 (R:=some .thn) (on:=none) (ls:=[(i:Int)]) hp4 (hw.keep (s2.trans s3)) (hb.keep s3.keepT) rfl Za2 (e9.free hacc) ((S.trans s2).free hp3)) ⟨⟨rfl,fun t ht=>oki.ok.w t (mem_rem.mp ht).1,by show (rem li.ws o).length≤60;omega,⟨ok40.1,oki.ok.g⟩,by show 1+o.parts+li.g.parts≤100;omega,by show 1≤100;decide⟩,good1 (show sortedT (rem li.ws o) from sorted_rem (G.sorted hli)) rfl rfl hi hli rfl (fun t ht=>by
      by_cases hto:t=o
      · exact .inl (Zd4 (List.mem_singleton.mpr hto))
      · exact .inr (mem_rem.mpr ⟨ht,hto⟩))⟩
end
noncomputable abbrev s_ac0:Stmt:=top 50
theorem sc_ac0:FnScope ["_law_lines","_law_cell_here","_law_here","_law_one","_law_other","_law_extra","_law_wishes","_law_goal","_law_form","_law_on","_law_first","_law_some","_law_longer","_law_second","_law_kept"] ["_law_lines","_law_cell_here","_law_here","_law_one","_law_other","_law_extra"] (defScope s_ac0):=⟨rfl,rfl,rfl,by decide +kernel,rfl,by decide +kernel,by decide +kernel⟩
section
variable {P:Program} {w:World} {K:PySem.W.Frag} {mg:Str→Option Value} {base:Heap}
theorem ok_ac0 {k:Nat} {f_ac0:Addr} {fd_ac0:FuncData} (F_ac0:Fun K "_law_by_if" "_law_by_if" s_ac0 f_ac0 fd_ac0) {f_an0:Addr} {fd_an0:FuncData} (G_an0:FnOk P w K mg base CX0 k f_an0 fd_an0 ["_law_some","_law_cell_here","_law_other"] (sp_pick K)) (m_an0:mg "_law_pick"=some (.ref f_an0)) (k_an0:PySem.W.keepIn K (.ref f_an0)=true) (b_an0:Binds K fd_an0 ["_law_some","_law_cell_here","_law_other"] []) {f_al0:Addr} {fd_al0:FuncData} (G_al0:FnOk P w K mg base CX0 k f_al0 fd_al0 ["_law_some"] (sp_onceL K)) (m_al0:mg "_law_once"=some (.ref f_al0)) (k_al0:PySem.W.keepIn K (.ref f_al0)=true) (b_al0:Binds K fd_al0 ["_law_some"] []) {f_ag0:Addr} {fd_ag0:FuncData} (G_ag0:FnOk P w K mg base CX0 k f_ag0 fd_ag0 ["_law_wishes","_law_on","_law_more"] (sp_changedL K)) (m_ag0:mg "_law_changed"=some (.ref f_ag0)) (k_ag0:PySem.W.keepIn K (.ref f_ag0)=true) (b_ag0:Binds K fd_ag0 ["_law_wishes","_law_on","_law_more"] []) (m_len:mg "len"=none):FnOk P w K mg base CX0 (k+1) f_ac0 fd_ac0 ["_law_lines","_law_cell_here","_law_here","_law_one","_law_other","_law_extra"] (sp_byif K):=by
  refine F_ac0.ok sc_ac0 (fun vs H Q E h=>?_) (fun cdv A outer s H vs Q E hr h=>?_)
  · obtain⟨a,us,L,c,i,v1,v2,ev,o1,o2,ex,rfl,_⟩:=h
    rfl
  obtain⟨a,us,L,c,i,v1,v2,ev,o1,o2,ex,rfl,ha,hL,G,hi,h1,h2,hE,k1,k2,exk,exp,q⟩:=h
  refine⟨_,(Za4 (Zb2 (i:=6) sc_ac0.nd rfl (Or.inl rfl) (Zb6 Zb7 (Zb6 Zd5 (pv 0) (pv 2) (fun _ _=>rfl)) Za5 (fun _ _=>rfl)))
  (Za4 (Zb2 (i:=7) sc_ac0.nd rfl (Or.inl rfl) (Zb6 Zb7 (Zb6 Zd5 (pv 0) (pv 2) (fun _ _=>rfl)) Za5 (fun _ _=>rfl)))
  (Za4 (Zb2 (i:=8) sc_ac0.nd rfl (Or.inl rfl) (Zc0 Ze5 (pv 1) Za5))
  (Za4 (Zd9 (Zb0 (Zg2) (pv 8) Za5 (Zb8 _))
    (Za4 (Zb2 (i:=9) sc_ac0.nd rfl (Or.inr rfl) (Za9 G_an0 hr (by exact rfl) m_an0 k_an0 b_an0 .nil Zc2 (Za0 (pe_lcG (blk0 (N':=["_law_wish"]) (by decide +kernel) (by decide +kernel) rfl (by decide +kernel)) rfl (Ze4 (pv 6)) (fun _ _ _ _=>(Zb5 (i:=0) (show (["_law_wish"]:List Str).Nodup from by decide +kernel) rfl (Or.inl rfl))) (fun _ _=>Zg6 (tg2:=(.Name "" ⟨0,0,0,0⟩)) (iter2:=(.Name "" ⟨0,0,0,0⟩))) (fun _ _ _ _ _=>(Zg7 (Zb0 (Zg2) (Zb6 (ix_tupK (K:=K) rfl) (pv 0) Za5 (fun _ _=>rfl)) Zb9 (Zb8 _)) (Zf1 (pv 0))))) (Za0 (Zc0 Ze0 (pv 1) Za5) (Za0 (Zc1 (Za0 Zb9 (Za0 (pv 3) (Za0 (pv 4) Za1)))) Za1)))))
  (Za4 (Zd9 (Zb0 (Zg2) (Zc0 Ze5 (Zc0 Ze0 (pv 1) Za5) Za5) Za5 (Zb8 _))
    (Za8 (Zb2 (i:=9) sc_ac0.nd rfl (Or.inr rfl) (Zc1 (Za0 Zb9 (Za0 (pv 3) (Za0 (pv 4) Za1))))))
    Zc4)
  (Za8 (Zb4 (Zc1 (Za0 Zb9 (Za0 (Za9 G_al0 hr (by exact rfl) m_al0 k_al0 b_al0 .nil Zc2 (Za0 (Zc0 Zh1 (pe_lcG (blkC (N':=["_law_wish","_law_on"]) (nt:=1) (ci:=[9]) ["_law_lines","_law_cell_here","_law_here","_law_one","_law_other","_law_extra","_law_wishes","_law_goal","_law_form","_law_on","_law_first","_law_some","_law_longer","_law_second","_law_kept"] (defScope s_ac0) rfl rfl (by decide +kernel) rfl (by decide +kernel) (by decide +kernel) rfl (by decide +kernel)) rfl (Ze4 (pv 6)) (fun _ _ _ _=>(Zb5 (i:=0) (show (["_law_wish","_law_on"]:List Str).Nodup from by decide +kernel) rfl (Or.inl rfl))) (fun _ _=>Zg6 (tg2:=(.Name "" ⟨0,0,0,0⟩)) (iter2:=(.Name "" ⟨0,0,0,0⟩))) (fun _ _ _ _ _=>(Zg7 (Zb0 (Zh5 (K:=K) rfl (Zg1 hr)) (pv 0) (Zb6 (ix_tupK (K:=K) rfl) (pv 1) Za5 (fun _ _=>rfl)) (Zb8 _)) (Zf1 (pv 0))))) (Zc5 (Za0 (Zb6 Zb7 (pv 9) Za5 (fun _ _=>rfl)) (Za0 (pv 9) Za1)))) Za1)) (Za0 (pv 7) (Za0 (pv 9) (Za0 (Zc5 (Za0 (pv 2) Za1)) Za1))))))))))
    Zc4)
  (Za4 (Zd9 (Zb0 (Zg2) (pv 8) Za5 (Zb8 _))
    (Za4 (Zb2 (i:=9) sc_ac0.nd rfl (Or.inr rfl) (Zc1 (Za0 Zb9 (Za0 (Zc1 (Za0 Zb9 Za1)) (Za0 (pv 5) Za1)))))
  (Za8 (Zb4 (Zc1 (Za0 Zb9 (Za0 (Za9 G_al0 hr (by exact rfl) m_al0 k_al0 b_al0 .nil Zc2 (Za0 (Zc0 Zh1 (pv 6) (Zc5 (Za0 (pv 9) Za1))) Za1)) (Za0 (pv 7) (Za0 (pv 9) (Za0 (Zc5 (Za0 (pv 2) Za1)) Za1)))))))))
    Zc4)
  (Za4 (Zb2 (i:=10) sc_ac0.nd rfl (Or.inr rfl) (Zc1 (Za0 Zb9 (Za0 (pv 3) (Za0 (Zc1 (Za0 Zb9 (Za0 (pv 4) (Za0 (pv 5) Za1)))) Za1)))))
  (Za4 (ps_setLCG (i:=11) sc_ac0.nd rfl (Or.inl rfl) (blk0 (N':=["_law_wish"]) (by decide +kernel) (by decide +kernel) rfl (by decide +kernel)) rfl (Ze4 (pv 6)) (fun _ _ _ _=>(Zb5 (i:=0) (show (["_law_wish"]:List Str).Nodup from by decide +kernel) rfl (Or.inl rfl))) (fun _ _=>Zg6 (tg2:=(.Name "" ⟨0,0,0,0⟩)) (iter2:=(.Name "" ⟨0,0,0,0⟩))) (fun _ _ _ _ _=>(Zg7 (Zb0 (Zg2) (Zb6 (ix_tupK (K:=K) rfl) (pv 0) Za5 (fun _ _=>rfl)) Zb9 (Zb8 _)) (Zf1 (pv 0)))) rfl)
  (Za4 (Zd9 (Zb0 (Zg2) (pv 8) Za5 (Zb8 _))
    (Za4 (ps_setLCG (i:=12) sc_ac0.nd rfl (Or.inl rfl) (blk0 (N':=["_law_wish"]) (by decide +kernel) (by decide +kernel) rfl (by decide +kernel)) rfl (Ze4 (pv 11)) (fun _ _ _ _=>(Zb5 (i:=0) (show (["_law_wish"]:List Str).Nodup from by decide +kernel) rfl (Or.inl rfl))) (fun _ _=>Zg6 (tg2:=(.Name "" ⟨0,0,0,0⟩)) (iter2:=(.Name "" ⟨0,0,0,0⟩))) (fun _ _ _ _ _=>(Zg7 (Zb0 (Zg2) (Zb6 (ix_tupK (K:=K) rfl) (Zb6 (ix_tupK (K:=K) rfl) (pv 0) Za5 (fun _ _=>rfl)) Za5 (fun _ _=>rfl)) Zb9 (Zb8 _)) (Zf1 (pv 0)))) rfl)
  (Za4 (Zd9 (Zb0 (op_neD (Zg1 hr)) (pv 12) (Zc5 Za1) (Zb8 _))
    (Za8 (Zb2 (i:=10) sc_ac0.nd rfl (Or.inr rfl) (Zb6 Zd5 (pv 12) (Zc0 Ze5 (Zc0 Ze0 (pv 1) Za5) (Zd1 Zc3 (by exact rfl) m_len Ken.boot_len (Za0 (pv 12) Za1))) (fun _ _=>rfl))))
    Zc4)
  (Za4 (Zb2 (i:=9) sc_ac0.nd rfl (Or.inr rfl) (Zc1 (Za0 Zb9 (Za0 (Zc1 (Za0 Zb9 (Za0 (Zb6 Zb7 (pv 10) Za5 (fun _ _=>rfl)) (Za0 (Zb6 Zb7 (Zb6 Zb7 (pv 10) Za5 (fun _ _=>rfl)) Za5 (fun _ _=>rfl)) Za1)))) (Za0 (Zb6 Zb7 (Zb6 Zb7 (pv 10) Za5 (fun _ _=>rfl)) Za5 (fun _ _=>rfl)) Za1)))))
  (Za8 (Zb4 (Zc1 (Za0 Zb9 (Za0 (Za9 G_ag0 hr (by exact rfl) m_ag0 k_ag0 b_ag0 .nil Zc2 (Za0 (pv 6) (Za0 (pv 10) (Za0 (Zc5 (Za0 (pv 9) Za1)) Za1)))) (Za0 (pv 7) (Za0 (pv 9) (Za0 (Zc5 (Za0 (pv 2) Za1)) Za1)))))))))))
    Zc4)
  (Za4 (Zb2 (i:=10) sc_ac0.nd rfl (Or.inr rfl) (Za9 G_an0 hr (by exact rfl) m_an0 k_an0 b_an0 .nil Zc2 (Za0 (pv 11) (Za0 (Zc0 Ze0 (pv 1) Za5) (Za0 (Zc1 (Za0 Zb9 (Za0 (pv 3) (Za0 (pv 5) Za1)))) Za1)))))
  (Za4 (Zb2 (i:=13) sc_ac0.nd rfl (Or.inr rfl) (Zc1 (Za0 Zb9 (Za0 (pv 4) (Za0 (Zb6 Zb7 (pv 10) Za5 (fun _ _=>rfl)) Za1)))))
  (Za4 (Zb2 (i:=9) sc_ac0.nd rfl (Or.inr rfl) (Zc1 (Za0 Zb9 (Za0 (Zc1 (Za0 Zb9 (Za0 (Zb6 Zb7 (pv 10) Za5 (fun _ _=>rfl)) (Za0 (pv 4) Za1)))) (Za0 (Zb6 Zb7 (pv 10) Za5 (fun _ _=>rfl)) Za1)))))
  (Za4 (ps_setLCG (i:=14) sc_ac0.nd rfl (Or.inl rfl) (blkC (N':=["_law_wish","_law_first","_law_second"]) (nt:=1) (ci:=[10,13]) ["_law_lines","_law_cell_here","_law_here","_law_one","_law_other","_law_extra","_law_wishes","_law_goal","_law_form","_law_on","_law_first","_law_some","_law_longer","_law_second","_law_kept"] (defScope s_ac0) rfl rfl (by decide +kernel) rfl (by decide +kernel) (by decide +kernel) rfl (by decide +kernel)) rfl (Ze4 (pv 6)) (fun _ _ _ _=>(Zb5 (i:=0) (show (["_law_wish","_law_first","_law_second"]:List Str).Nodup from by decide +kernel) rfl (Or.inl rfl))) (fun _ _=>Zg6 (tg2:=(.Name "" ⟨0,0,0,0⟩)) (iter2:=(.Name "" ⟨0,0,0,0⟩))) (fun _ _ _ _ _=>(Zg7 ((pw_and (Zb0 (Zh5 (K:=K) rfl (Zg1 hr)) (pv 0) (pv 1) (Zb8 _)) (pw_and1 (Zb0 (Zh5 (K:=K) rfl (Zg1 hr)) (pv 0) (pv 2) (Zb8 _))))).pt (Zf1 (pv 0)))) rfl)
  (Za8 (Zb4 (Zc1 (Za0 Zb9 (Za0 (Za9 G_al0 hr (by exact rfl) m_al0 k_al0 b_al0 .nil Zc2 (Za0 (Zc0 Zh1 (pv 14) (Zc5 (Za0 (pv 9) Za1))) Za1)) (Za0 (pv 7) (Za0 (pv 9) (Za0 (Zc5 (Za0 (pv 2) Za1)) Za1)))))))))))))))))))),?_⟩
  have lu:us.length=L.length:=Paired.length hL
  have hiu:i < us.length:=by omega
  obtain⟨li,hli,hvi⟩:=paired_get hL (List.getElem?_eq_getElem hiu)
  have oki:=G.ok li (List.mem_of_getElem? hli)
  obtain⟨pi,wi,ai,gi,oi,yi,evi,i1,i2,i3,i4,i5,i6⟩:=hvi
  have lyi:yi.length=li.ws.length:=Paired.length i3
  have w9:=oki.w9
  have srt:=G.sorted hli
  have gp1:=oki.g40
  refine Za7 (fun σ' H'=>σ'=[some (.ref a),some (.int c),some (.int (i:Nat)),some v1,some v2,some ev,some (.ref wi),none,none,none,none,none,none,none,none]∧H'=H) ?_ ?_
  rotate_left
  · intro C hC
    walk_at "rdx_1"
    exact⟨us,SqL.of ha,_,Zd6 (List.getElem?_eq_getElem hiu),pi,evi,_,i1,_,rfl,hC _ _ ⟨rfl,rfl⟩⟩
  rintro σ1 H1 ⟨rfl,rfl⟩
  refine Za7 (fun σ' H'=>σ'=[some (.ref a),some (.int c),some (.int (i:Nat)),some v1,some v2,some ev,some (.ref wi),some gi,none,none,none,none,none,none,none]∧H'=H1) ?_ ?_
  rotate_left
  · intro C hC
    walk_at "rdx_1"
    exact⟨us,SqL.of ha,_,Zd6 (List.getElem?_eq_getElem hiu),pi,evi,_,i1,_,rfl,hC _ _ ⟨rfl,rfl⟩⟩
  rintro σ2 H2 ⟨rfl,rfl⟩
  refine Za7 (fun σ' H'=>σ'=[some (.ref a),some (.int c),some (.int (i:Nat)),some v1,some v2,some ev,some (.ref wi),some gi,some (.int (c % 4)),none,none,none,none,none,none]∧H'=H2) ?_ ?_
  rotate_left
  · intro C hC
    walk_at "rdx_1"
    exact⟨by decide,hC _ _ ⟨rfl,rfl⟩⟩
  rintro σ3 H3 ⟨rfl,rfl⟩
  have thenT:∀ (H':Hp) (v:V) (t:Tm),IsT K H' v t→∃ p xs,v=.ref p∧SqT K H' p (.str (headS t) :: xs):=fun _ _ _ h=>isT_headS h
  refine Za7 (fun σ' H'=>σ'=[some (.ref a),some (.int c),some (.int (i:Nat)),some v1,some v2,some ev,some (.ref wi),some gi,some (.int (c % 4)),none,none,none,none,none,none]∧H'=H3) ?_ ?_
  rotate_left
  · intro C hC
    walk_at "rdx_3"
    refine ite2 (fun _=>?_) (fun _=>hC _ _ ⟨rfl,rfl⟩)
    refine Za7 (fun σ' H'=>∃ ov b d,σ'=[some (.ref a),some (.int c),some (.int (i:Nat)),some v1,some v2,some ev,some (.ref wi),some gi,some (.int (c % 4)),some ov,none,none,none,none,none]∧Same H3 H'∧IsT K H' ov (.nd .thn b d)∧(Tm.nd .thn b d).ok∧(Tm.nd .thn b d).parts≤81) ?_ ?_
    rotate_left
    · intro C hC
      walk_at "rdx_1"
      refine⟨⟨_,SqL.of i2⟩,fun acc hacc=>?_⟩
      refine Zf7 (fun t=>decide (headS t="then")) i2 i3 (by omega) hacc (fun v'=>Ze8 (i:=0) rfl) (fun v' t H' ys N htm e hT h hlen hy hn=>?_) (fun H' ys e h hP=>?_)
      · walk_at "rdx_1"
        obtain⟨p,xs,rfl,hs⟩:=isT_headS hT
        refine⟨p,rfl,_,hs,_,at0 _ _,Ze2 _ _,?_⟩
        by_cases hc:headS t="then"
        · rw[if_pos (by rw[hc])]
          exact⟨ys,h,Zb3 (by omega),hy (decide_eq_true hc) _ (Same.refl _) h⟩
        · rw[if_neg (fun z=>hc (V.str.inj z))]
          exact hn (decide_eq_false hc) _ (Same.refl _)
      · refine⟨⟨by decide,by decide⟩,by decide,fun p hp=>?_⟩
        have s1:=Za3 hp (HO.tup [V.str "then",v1,v2])
        have S:=e.trans s1
        have hd:IsT K (upd H' p (HO.tup [V.str "then",v1,v2])) (.ref p) (.nd .thn o1 o2):=isT_nd.mpr ⟨p,v1,v2,rfl,.inl (.inl Za2),h1.keep S.keepT,h2.keep S.keepT⟩
        refine⟨acc,_,.ref p,ys,_,.nd .thn o1 o2,rfl,s1 _ _ h,Za6 s1.keepT hP,fun t ht=>oki.ok.w t (List.mem_filter.mp ht).1,hd,fun r t H'' e2 hr ht=>?_⟩
        rcases ht with rfl | ht
        · exact hC _ _ ⟨r,o1,o2,rfl,S.trans e2,hr,⟨k1.1,k2.1⟩,by have:=k1.2;have:=k2.2;show 1+o1.parts+o2.parts≤81;omega⟩
        · obtain⟨hm,hh⟩:=List.mem_filter.mp ht
          obtain⟨b,d,rfl⟩:=headS_thn (of_decide_eq_true hh)
          exact hC _ _ ⟨r,b,d,rfl,S.trans e2,hr,(oki.ok.w _ hm).1,by have:=oki.w40 _ hm;omega⟩
    rintro σ4 H4 ⟨ov,b,d,rfl,e4,hov,ook,opp⟩
    refine Za7 (fun σ' H'=>∃ ov b d,σ'=[some (.ref a),some (.int c),some (.int (i:Nat)),some v1,some v2,some ev,some (.ref wi),some gi,some (.int (c % 4)),some ov,none,none,none,none,none]∧Same H3 H'∧IsT K H' ov (.nd .thn b d)∧(Tm.nd .thn b d).ok∧(Tm.nd .thn b d).parts≤81) ?_ ?_
    rotate_left
    · intro C hC
      walk_at "rdx_1"
      refine⟨⟨by decide,by decide⟩,by decide,ite2 (fun _=>⟨by decide,fun p hp=>?_⟩) (fun _=>hC _ _ ⟨ov,b,d,rfl,e4,hov,ook,opp⟩)⟩
      have s1:=Za3 hp (HO.tup [V.str "then",v1,v2])
      have S:=e4.trans s1
      exact hC _ _ ⟨_,o1,o2,rfl,S,isT_nd.mpr ⟨p,v1,v2,rfl,.inl (.inl Za2),h1.keep S.keepT,h2.keep S.keepT⟩,⟨k1.1,k2.1⟩,by have:=k1.2;have:=k2.2;show 1+o1.parts+o2.parts≤81;omega⟩
    rintro σ5 H5 ⟨ov,b,d,rfl,e5,hov,ook,opp⟩
    obtain⟨p,x,y,rfl,hs,hx,hy⟩:=isT_nd.mp hov
    walk_at "rdx_1"
    refine⟨⟨_,SqL.of (e5 _ _ i2)⟩,fun acc hacc=>?_⟩
    refine Zf7 (fun t=>decide (t≠d)) (e5 _ _ i2) (Za6 e5.keepT i3) (by omega) hacc (fun v'=>Ze8 (i:=0) rfl) (fun v' t H' ys N htm e hT h hlen hy' hn=>?_) (fun H' ys e h hP=>?_)
    · walk_at "rdx_1"
      have okt:=oki.ok.w t htm
      refine⟨_,e.sqt hs,_,rfl,t.data,hT,d.data,hy.keep e.keepT,t.lay okt.1,d.lay ook.2,Nat.le_trans (Nat.min_le_left _ _) (by rw[Tm.depth];have:=okt.2;have:=Zd2 t;omega),?_⟩
      rw[Tm.eqv]
      by_cases hto:t=d
      · rw[if_neg (by rw[if_pos trivial,decide_eq_true hto];exact Bool.false_ne_true)]
        exact hn (decide_eq_false (fun z=>z hto)) _ (Same.refl _)
      · rw[if_pos (by rw[if_pos trivial,decide_eq_false hto];rfl)]
        exact⟨ys,h,Zb3 (by omega),hy' (decide_eq_true hto) _ (Same.refl _) h⟩
    · have lys:ys.length=(rem li.ws d).length:=Paired.length hP
      have lr:(rem li.ws d).length≤li.ws.length:=List.length_filter_le _ _
      have pp:1+b.parts+d.parts≤81:=opp
      refine⟨_,e.sqt hs,_,rfl,by decide,fun p1 hp1=>?_⟩
      have s1:=Za3 hp1 (HO.lst [x,V.ref p])
      have S:=(e5.trans e).trans s1
      have okl2:Okw [b,.nd .thn b d]:=fun t ht=>by
        rcases List.mem_cons.mp ht with rfl | ht
        · exact⟨ook.1,by omega⟩
        · rw[List.mem_singleton.mp ht];exact⟨ook,by omega⟩
      have okr:Okw (rem li.ws d):=fun t ht=>oki.ok.w t (mem_rem.mp ht).1
      refine⟨ys,s1 _ _ h,_,Za2,Nat.le_of_lt (Zb3 (by show ys.length+2≤1000;omega)),fun p2 hp2=>Zg4 hp2 (Za6 s1.keepT hP) (.cons (hx.keep (e.trans s1).keepT) (.cons (hov.keep (e.trans s1).keepT) .nil)) okr okl2 (by show (rem li.ws d).length+2 < 64;omega) fun r H6 e6 fr hw=>⟨by decide,fun p3 hp3=>⟨by decide,fun p4 hp4=>?_⟩⟩⟩
      have s2:=Za3 hp3 (HO.lst [V.int (i:Nat)])
      have SS:=(S.trans e6).trans s2
      have okc:Okw (norm (rem li.ws d++[b,.nd .thn b d])):=Zf8 (Zg0 okr okl2)
      have on_in:Tm.nd .thn b d∈norm (rem li.ws d++[b,.nd .thn b d]):=Zd4 (by simp)
      have b_in:b∈norm (rem li.ws d++[b,.nd .thn b d]):=Zd4 (by simp)
      exact q _ _ _ (SS.trans (Za3 hp4 _)) (Zf4 (R:=some .known) (on:=some (.nd .thn b d)) (ls:=[(i:Int)]) hp4 (hw.keep s2) (i4.keep SS.keepT) ⟨hov.keep (((e.trans s1).trans e6).trans s2).keepT,ook,by omega⟩ Za2 (S.free fr) ((S.trans e6).free hp3)) ⟨⟨rfl,okc,by have:=Zd7 (rem li.ws d) [b,.nd .thn b d];rw[show [b,Tm.nd .thn b d].length=2 from rfl] at this;show (norm (rem li.ws d++[b,.nd .thn b d])).length≤60;omega,oki.ok.g,oki.ok.gp,by show 1≤100;decide⟩,good1 (Zd0 _) (by
        show (if Tm.nd .thn b d∈norm (rem li.ws d++[b,.nd .thn b d]) then (if b∈norm (rem li.ws d++[b,.nd .thn b d]) then some [_] else none) else none)=_
        rw[if_pos on_in,if_pos b_in]) rfl hi hli rfl (fun t ht=>by
        by_cases htd:t=d
        · exact .inl (Zd4 (List.mem_singleton.mpr htd))
        · exact .inr (Zf2 (mem_rem.mpr ⟨ht,htd⟩)))⟩
  rintro σ4 H4 ⟨rfl,rfl⟩
  refine Za7 (fun σ' H'=>σ'=[some (.ref a),some (.int c),some (.int (i:Nat)),some v1,some v2,some ev,some (.ref wi),some gi,some (.int (c % 4)),none,none,none,none,none,none]∧H'=H4) ?_ ?_
  rotate_left
  · intro C hC
    walk_at "rdx_1"
    refine ite2 (fun _=>?_) (fun _=>hC _ _ ⟨rfl,rfl⟩)
    refine⟨by decide,fun p0 hp0=>⟨by decide,fun p hp=>⟨by decide,fun p1 hp1=>?_⟩⟩⟩
    have s0:=Za3 hp0 (HO.tup [V.str "low"])
    have hlow:IsT K (upd H4 p0 (HO.tup [V.str "low"])) (.ref p0) .low:=isT_low.mpr ⟨p0,rfl,.inl (.inl Za2)⟩
    have s1:=Za3 hp (HO.tup [V.str "then",V.ref p0,ev])
    have hon:IsT K (upd (upd H4 p0 (HO.tup [V.str "low"])) p (HO.tup [V.str "then",V.ref p0,ev])) (.ref p) (.nd .thn .low ex):=isT_nd.mpr ⟨p,_,ev,rfl,.inl (.inl Za2),hlow.keep s1.keepT,hE.keep (s0.trans s1).keepT⟩
    have s2:=Za3 hp1 (HO.lst [V.ref p])
    have S:=(s0.trans s1).trans s2
    have okon:(Tm.nd .thn .low ex).ok:=⟨trivial,exk⟩
    have pon:(Tm.nd .thn .low ex).parts≤100:=by show 1+1+ex.parts≤100;omega
    refine⟨yi,S _ _ i2,_,Za2,Nat.le_of_lt (Zb3 (by show yi.length+1≤1000;omega)),fun p2 hp2=>Zg4 hp2 (Za6 S.keepT i3) (.cons (hon.keep s2.keepT) .nil) oki.ok.w (Zf0 okon pon) (by show li.ws.length+1 < 64;omega) fun r H' e fr hw=>⟨by decide,fun p3 hp3=>⟨by decide,fun p4 hp4=>?_⟩⟩⟩
    have s3:=Za3 hp3 (HO.lst [V.int (i:Nat)])
    have SS:=(S.trans e).trans s3
    have okc:Okw (norm (li.ws++[.nd .thn .low ex])):=Zf8 (Zg0 oki.ok.w (Zf0 okon pon))
    exact q _ _ _ (SS.trans (Za3 hp4 _)) (Zf4 (R:=some .idle) (on:=some (.nd .thn .low ex)) (ls:=[(i:Int)]) hp4 (hw.keep s3) (i4.keep SS.keepT) ⟨hon.keep ((s2.trans e).trans s3).keepT,okon,pon⟩ Za2 (S.free fr) ((S.trans e).free hp3)) ⟨⟨rfl,okc,by have:=Zd7 li.ws [.nd .thn .low ex];rw[List.length_singleton] at this;show (norm (li.ws++[.nd .thn .low ex])).length≤60;omega,oki.ok.g,oki.ok.gp,by show 1≤100;decide⟩,good1 (Zd0 _) (by
      show (if Tm.nd .thn .low ex∈norm (li.ws++[.nd .thn .low ex]) then some [_] else none)=_
      rw[if_pos (Zd4 (List.mem_singleton.mpr rfl))]) rfl hi hli rfl (fun t ht=>.inr (Zf2 ht))⟩
  rintro σ5 H5 ⟨rfl,rfl⟩
  refine Za7 (fun σ' H'=>∃ fv,σ'=[some (.ref a),some (.int c),some (.int (i:Nat)),some v1,some v2,some ev,some (.ref wi),some gi,some (.int (c % 4)),none,some fv,none,none,none,none]∧Same H5 H'∧IsT K H' fv (.nd .thn o1 (.nd .thn o2 ex))) ?_ ?_
  rotate_left
  · intro C hC
    walk_at "rdx_1"
    refine⟨by decide,fun p hp=>⟨by decide,fun p1 hp1=>?_⟩⟩
    have s0:=Za3 hp (HO.tup [V.str "then",v2,ev])
    have s1:=Za3 hp1 (HO.tup [V.str "then",v1,V.ref p])
    have hin:IsT K (upd H5 p (HO.tup [V.str "then",v2,ev])) (.ref p) (.nd .thn o2 ex):=isT_nd.mpr ⟨p,v2,ev,rfl,.inl (.inl Za2),h2.keep s0.keepT,hE.keep s0.keepT⟩
    exact hC _ _ ⟨_,rfl,s0.trans s1,isT_nd.mpr ⟨p1,v1,_,rfl,.inl (.inl Za2),h1.keep (s0.trans s1).keepT,hin.keep s1.keepT⟩⟩
  rintro σ6 H6 ⟨fv,rfl,e6,hf6⟩
  refine Za7 (fun σ' H'=>∃ sa sus,σ'=[some (.ref a),some (.int c),some (.int (i:Nat)),some v1,some v2,some ev,some (.ref wi),some gi,some (.int (c % 4)),none,some fv,some (.ref sa),none,none,none]∧Same H5 H'∧IsT K H' fv (.nd .thn o1 (.nd .thn o2 ex))∧H' sa=some (.lst sus)∧Paired (IsT K H') sus (li.ws.filter fun t=>decide (headS t="then"))) ?_ ?_
  rotate_left
  · intro C hC
    walk_at "rdx_1"
    refine⟨⟨_,SqL.of (e6 _ _ i2)⟩,fun acc hacc=>?_⟩
    refine Zf7 (fun t=>decide (headS t="then")) (e6 _ _ i2) (Za6 e6.keepT i3) (by omega) hacc (fun v'=>Ze8 (i:=0) rfl) (fun v' t H' ys N htm e hT h hlen hy hn=>?_) (fun H' ys e h hP=>?_)
    · walk_at "rdx_1"
      obtain⟨p,xs,rfl,hs⟩:=isT_headS hT
      refine⟨p,rfl,_,hs,_,at0 _ _,Ze2 _ _,?_⟩
      by_cases hc:headS t="then"
      · rw[if_pos (by rw[hc])]
        exact⟨ys,h,Zb3 (by omega),hy (decide_eq_true hc) _ (Same.refl _) h⟩
      · rw[if_neg (fun z=>hc (V.str.inj z))]
        exact hn (decide_eq_false hc) _ (Same.refl _)
    · exact hC _ _ ⟨acc,ys,rfl,e6.trans e,hf6.keep e.keepT,h,hP⟩
  rintro σ7 H7 ⟨sa,sus,rfl,e7,hf7,hsa,hsus⟩
  have lsus:sus.length=(li.ws.filter fun t=>decide (headS t="then")).length:=Paired.length hsus
  have lflt:(li.ws.filter fun t=>decide (headS t="then")).length≤li.ws.length:=List.length_filter_le _ _
  refine Za7 (fun σ' H'=>σ'=[some (.ref a),some (.int c),some (.int (i:Nat)),some v1,some v2,some ev,some (.ref wi),some gi,some (.int (c % 4)),none,some fv,some (.ref sa),none,none,none]∧H'=H7) ?_ ?_
  rotate_left
  · intro C hC
    walk_at "rdx_3"
    refine ite2 (fun _=>?_) (fun _=>hC _ _ ⟨rfl,rfl⟩)
    refine Za7 (fun σ' H'=>∃ la lus,σ'=[some (.ref a),some (.int c),some (.int (i:Nat)),some v1,some v2,some ev,some (.ref wi),some gi,some (.int (c % 4)),none,some fv,some (.ref sa),some (.ref la),none,none]∧Same H5 H'∧IsT K H' fv (.nd .thn o1 (.nd .thn o2 ex))∧H' la=some (.lst lus)∧Paired (IsT K H') lus ((li.ws.filter fun t=>decide (headS t="then")).filter longB)) ?_ ?_
    rotate_left
    · intro C hC
      walk_at "rdx_1"
      refine⟨⟨_,SqL.of hsa⟩,fun acc hacc=>?_⟩
      refine Zf7 longB hsa hsus (by omega) hacc (fun v'=>Ze8 (i:=0) rfl) (fun v' t H' ys N htm e hT h hlen hy hn=>?_) (fun H' ys e h hP=>?_)
      · obtain⟨b,d,rfl⟩:=headS_thn (of_decide_eq_true (List.mem_filter.mp htm).2)
        obtain⟨p,x,y,rfl,hs,hx,hy2⟩:=isT_nd.mp hT
        obtain⟨p2,xs,rfl,hs2⟩:=isT_headS hy2
        walk_at "rdx_1"
        refine⟨_,hs,_,rfl,p2,rfl,_,hs2,_,at0 _ _,Ze2 _ _,?_⟩
        by_cases hc:headS d="then"
        · rw[if_pos (by rw[hc])]
          exact⟨ys,h,Zb3 (by omega),hy (decide_eq_true hc) _ (Same.refl _) h⟩
        · rw[if_neg (fun z=>hc (V.str.inj z))]
          exact hn (decide_eq_false hc) _ (Same.refl _)
      · exact hC _ _ ⟨acc,ys,rfl,e7.trans e,hf7.keep e.keepT,h,hP⟩
    rintro σ8 H8 ⟨la,lus,rfl,e8,hf8,hla,hlus⟩
    refine Za7 (fun σ' H'=>∃ fv b d g,σ'=[some (.ref a),some (.int c),some (.int (i:Nat)),some v1,some v2,some ev,some (.ref wi),some gi,some (.int (c % 4)),none,some fv,some (.ref sa),some (.ref la),none,none]∧Same H5 H'∧IsT K H' fv (.nd .thn b (.nd .thn d g))∧(Tm.nd .thn b (.nd .thn d g)).ok∧(Tm.nd .thn b (.nd .thn d g)).parts≤85) ?_ ?_
    rotate_left
    · intro C hC
      walk_at "rdx_1"
      refine⟨by decide,fun p hp=>?_⟩
      have sp:=Za3 hp (HO.lst [])
      have hlus1:=Za6 sp.keepT hlus
      have hla1:=sp _ _ hla
      have hp1:upd H8 p (HO.lst []) p=some (.lst []):=Za2
      have oke:∀ t∈(li.ws.filter fun t=>decide (headS t="then")).filter longB,t.ok:=fun t h=>(oki.ok.w t (List.mem_filter.mp (List.mem_filter.mp h).1).1).1
      have S:=e8.trans sp
      generalize upd H8 p (HO.lst [])=H9 at sp hlus1 hla1 hp1 S ⊢
      refine⟨.list (((li.ws.filter fun t=>decide (headS t="then")).filter longB).map Tm.data),?_,.list [],?_,tms_lay oke,rfl,Nat.le_trans (Nat.min_le_right _ _) (by decide),?_⟩
      · rw[Dn];exact⟨la,lus,rfl,SqL.of hla1,tms_dn hlus1⟩
      · rw[Dn];exact⟨p,[],rfl,SqL.of hp1,by rw[DnAll]⟩
      rw[if_pos trivial]
      have llus:lus.length=((li.ws.filter fun t=>decide (headS t="then")).filter longB).length:=Paired.length hlus
      cases hcs:(li.ws.filter fun t=>decide (headS t="then")).filter longB with
      | nil =>
        rw[if_neg (by decide)]
        exact hC _ _ ⟨fv,o1,o2,ex,rfl,S,hf8.keep sp.keepT,⟨k1.1,k2.1,exk⟩,by have:=k1.2;have:=k2.2;show 1+o1.parts+(1+o2.parts+ex.parts)≤85;omega⟩
      | cons t0 ts =>
        rw[if_pos (by rfl)]
        rw[hcs] at llus
        have hpos:0 < lus.length:=by rw[llus];exact Nat.succ_pos _
        obtain⟨v,hv,hat⟩:=at_list (xs:=lus) (i:=c / 4 % ((lus.length:Nat):Int)) (Int.emod_nonneg _ (by omega)) (Int.emod_lt_of_pos _ (by omega))
        obtain⟨j,hj,ej⟩:=List.getElem_of_mem hv
        obtain⟨t,ht,hvt⟩:=paired_get hlus1 (List.getElem?_eq_getElem hj)
        rw[ej] at hvt
        obtain⟨hm1,hm2⟩:=List.mem_filter.mp (List.mem_of_getElem? ht)
        obtain⟨hm3,hm4⟩:=List.mem_filter.mp hm1
        obtain⟨b,d,rfl⟩:=headS_thn (of_decide_eq_true hm4)
        obtain⟨d,g,rfl⟩:=headS_thn (of_decide_eq_true (show decide (headS d="then")=true from hm2))
        refine⟨⟨by decide,by decide⟩,lus,.inl (SqL.of hla1),by omega,lus,SqL.of hla1,v,hat,hC _ _ ⟨v,b,d,g,rfl,S,hvt,(oki.ok.w _ hm3).1,by have:=oki.w40 _ hm3;omega⟩⟩
    rintro σ9 H9 ⟨fv,b,d,g,rfl,e9,hf,fok,fpp⟩
    obtain⟨p,x,y,rfl,hs,hx,hy⟩:=isT_nd.mp hf
    obtain⟨p2,x2,y2,rfl,hs2,hx2,hy2⟩:=isT_nd.mp hy
    have fp2:1+b.parts+(1+d.parts+g.parts)≤85:=fpp
    refine Za7 (fun σ' H'=>∃ ov,σ'=[some (.ref a),some (.int c),some (.int (i:Nat)),some v1,some v2,some ev,some (.ref wi),some gi,some (.int (c % 4)),some ov,some (.ref p),some (.ref sa),some (.ref la),none,none]∧Same H9 H'∧IsT K H' ov (.nd .thn (.nd .both b d) g)) ?_ ?_
    rotate_left
    · intro C hC
      walk_at "rdx_1"
      refine⟨_,hs,_,rfl,_,hs,_,rfl,p2,rfl,_,hs2,_,rfl,by decide,fun p3 hp3=>?_⟩
      have s1:=Za3 hp3 (HO.tup [V.str "both",x,x2])
      have hb:IsT K (upd H9 p3 (HO.tup [V.str "both",x,x2])) (.ref p3) (.nd .both b d):=isT_nd.mpr ⟨p3,x,x2,rfl,.inl (.inl Za2),hx.keep s1.keepT,hx2.keep s1.keepT⟩
      refine⟨_,s1.sqt hs,_,rfl,p2,rfl,_,s1.sqt hs2,_,rfl,by decide,fun p4 hp4=>?_⟩
      have s2:=Za3 hp4 (HO.tup [V.str "then",V.ref p3,y2])
      exact hC _ _ ⟨_,rfl,s1.trans s2,isT_nd.mpr ⟨p4,_,y2,rfl,.inl (.inl Za2),hb.keep s2.keepT,hy2.keep (s1.trans s2).keepT⟩⟩
    rintro σ10 H10 ⟨ov,rfl,e10,hov⟩
    have S10:=e9.trans e10
    have onok:(Tm.nd .thn (.nd .both b d) g).ok:=⟨⟨fok.1,fok.2.1⟩,fok.2.2⟩
    have onp:(Tm.nd .thn (.nd .both b d) g).parts≤100:=by show 1+(1+b.parts+d.parts)+g.parts≤100;omega
    walk_at "rdx_1"
    refine⟨by decide,fun p3 hp3=>?_⟩
    have s1:=Za3 hp3 (HO.lst [ov])
    refine⟨wi,p3,.ref p,.nd .thn b (.nd .thn d g),li.ws,[ov],[.nd .thn (.nd .both b d) g],rfl,⟨⟨yi,(S10.trans s1) _ _ i2,Za6 (S10.trans s1).keepT i3⟩,srt⟩,hf.keep (e10.trans s1).keepT,fok,by omega,Za2,.cons (hov.keep s1.keepT) .nil,oki.ok.w,Zf0 onok onp,by show li.ws.length+1 < 64;omega,fun r H11 e11 fr hw=>⟨by decide,fun p4 hp4=>⟨by decide,fun p5 hp5=>?_⟩⟩⟩
    have s2:=Za3 hp4 (HO.lst [V.int (i:Nat)])
    have SS:=((S10.trans s1).trans e11).trans s2
    have okr:Okw (rem li.ws (.nd .thn b (.nd .thn d g))):=fun t ht=>oki.ok.w t (mem_rem.mp ht).1
    have lr:(rem li.ws (.nd .thn b (.nd .thn d g))).length≤li.ws.length:=List.length_filter_le _ _
    have okc:=Zf8 (Zg0 okr (Zf0 onok onp))
    exact q _ _ _ (SS.trans (Za3 hp5 _)) (Zf4 (R:=some .curried) (on:=some (.nd .thn (.nd .both b d) g)) (ls:=[(i:Int)]) hp5 (hw.keep s2) (i4.keep SS.keepT) ⟨hov.keep ((s1.trans e11).trans s2).keepT,onok,onp⟩ Za2 ((S10.trans s1).free fr) (((S10.trans s1).trans e11).free hp4)) ⟨⟨rfl,okc,by have:=Zd7 (rem li.ws (.nd .thn b (.nd .thn d g))) [.nd .thn (.nd .both b d) g];rw[List.length_singleton] at this;show (norm (rem li.ws (.nd .thn b (.nd .thn d g))++[.nd .thn (.nd .both b d) g])).length≤60;omega,oki.ok.g,oki.ok.gp,by show 1≤100;decide⟩,good1 (Zd0 _) (by
      show (if Tm.nd .thn (.nd .both b d) g∈norm (rem li.ws (.nd .thn b (.nd .thn d g))++[.nd .thn (.nd .both b d) g]) then some [_] else none)=_
      rw[if_pos (Zd4 (List.mem_singleton.mpr rfl))]) rfl hi hli rfl (fun t ht=>by
      by_cases htd:t=.nd .thn b (.nd .thn d g)
      · exact .inl (Zd4 (List.mem_singleton.mpr htd))
      · exact .inr (Zf2 (mem_rem.mpr ⟨ht,htd⟩)))⟩
  rintro σ8 H8 ⟨rfl,rfl⟩
  clear hf7
  refine Za7 (fun σ' H'=>∃ fv b d,σ'=[some (.ref a),some (.int c),some (.int (i:Nat)),some v1,some v2,some ev,some (.ref wi),some gi,some (.int (c % 4)),none,some fv,some (.ref sa),none,none,none]∧Same H5 H'∧IsT K H' fv (.nd .thn b d)∧(Tm.nd .thn b d).ok∧(Tm.nd .thn b d).parts≤44) ?_ ?_
  rotate_left
  · intro C hC
    walk_at "rdx_1"
    refine⟨⟨by decide,by decide⟩,by decide,fun p hp=>?_⟩
    have s1:=Za3 hp (HO.tup [V.str "then",v1,ev])
    have S:=e7.trans s1
    have hd:IsT K (upd H8 p (HO.tup [V.str "then",v1,ev])) (.ref p) (.nd .thn o1 ex):=isT_nd.mpr ⟨p,v1,ev,rfl,.inl (.inl Za2),h1.keep S.keepT,hE.keep S.keepT⟩
    refine⟨sa,_,.ref p,sus,_,.nd .thn o1 ex,rfl,s1 _ _ hsa,Za6 s1.keepT hsus,fun t ht=>oki.ok.w t (List.mem_filter.mp ht).1,hd,fun r t H'' e2 hr ht=>?_⟩
    rcases ht with rfl | ht
    · exact hC _ _ ⟨r,o1,ex,rfl,S.trans e2,hr,⟨k1.1,exk⟩,by have:=k1.2;show 1+o1.parts+ex.parts≤44;omega⟩
    · obtain⟨hm,hh⟩:=List.mem_filter.mp ht
      obtain⟨b,d,rfl⟩:=headS_thn (of_decide_eq_true hh)
      exact hC _ _ ⟨r,b,d,rfl,S.trans e2,hr,(oki.ok.w _ hm).1,by have:=oki.w40 _ hm;omega⟩
  rintro σ9 H9 ⟨fv,b,d,rfl,e9,hf,fok,fpp⟩
  obtain⟨p,x,y,rfl,hs,hx,hy⟩:=isT_nd.mp hf
  have fp2:1+b.parts+d.parts≤44:=fpp
  have kp2:=k2.2
  refine Za7 (fun σ' H'=>∃ sv,σ'=[some (.ref a),some (.int c),some (.int (i:Nat)),some v1,some v2,some ev,some (.ref wi),some gi,some (.int (c % 4)),none,some (.ref p),some (.ref sa),none,some sv,none]∧Same H9 H'∧IsT K H' sv (.nd .thn o2 d)) ?_ ?_
  rotate_left
  · intro C hC
    walk_at "rdx_1"
    refine⟨_,hs,_,rfl,by decide,fun p3 hp3=>?_⟩
    have s1:=Za3 hp3 (HO.tup [V.str "then",v2,y])
    exact hC _ _ ⟨_,rfl,s1,isT_nd.mpr ⟨p3,v2,y,rfl,.inl (.inl Za2),h2.keep (e9.trans s1).keepT,hy.keep s1.keepT⟩⟩
  rintro σ10 H10 ⟨sv,rfl,e10,hsv⟩
  refine Za7 (fun σ' H'=>∃ ov,σ'=[some (.ref a),some (.int c),some (.int (i:Nat)),some v1,some v2,some ev,some (.ref wi),some gi,some (.int (c % 4)),some ov,some (.ref p),some (.ref sa),none,some sv,none]∧Same H9 H'∧IsT K H' sv (.nd .thn o2 d)∧IsT K H' ov (.nd .thn (.nd .one b o2) d)) ?_ ?_
  rotate_left
  · intro C hC
    walk_at "rdx_1"
    refine⟨_,e10.sqt hs,_,rfl,by decide,fun p3 hp3=>?_⟩
    have s1:=Za3 hp3 (HO.tup [V.str "one",x,v2])
    have hb:IsT K (upd H10 p3 (HO.tup [V.str "one",x,v2])) (.ref p3) (.nd .one b o2):=isT_nd.mpr ⟨p3,x,v2,rfl,.inl (.inl Za2),hx.keep (e10.trans s1).keepT,h2.keep ((e9.trans e10).trans s1).keepT⟩
    refine⟨_,(e10.trans s1).sqt hs,_,rfl,by decide,fun p4 hp4=>?_⟩
    have s2:=Za3 hp4 (HO.tup [V.str "then",V.ref p3,y])
    exact hC _ _ ⟨_,rfl,(e10.trans s1).trans s2,hsv.keep (s1.trans s2).keepT,isT_nd.mpr ⟨p4,_,y,rfl,.inl (.inl Za2),hb.keep s2.keepT,hy.keep ((e10.trans s1).trans s2).keepT⟩⟩
  rintro σ11 H11 ⟨ov,rfl,e11,hsv1,hov⟩
  have secok:(Tm.nd .thn o2 d).ok:=⟨k2.1,fok.2⟩
  have onok:(Tm.nd .thn (.nd .one b o2) d).ok:=⟨⟨fok.1,k2.1⟩,fok.2⟩
  have onp:(Tm.nd .thn (.nd .one b o2) d).parts≤100:=by show 1+(1+b.parts+o2.parts)+d.parts≤100;omega
  refine Za7 (fun σ' H'=>∃ ka kus,σ'=[some (.ref a),some (.int c),some (.int (i:Nat)),some v1,some v2,some ev,some (.ref wi),some gi,some (.int (c % 4)),some ov,some (.ref p),some (.ref sa),none,some sv,some (.ref ka)]∧Same H11 H'∧H' ka=some (.lst kus)∧Paired (IsT K H') kus (li.ws.filter fun t=>decide (t≠.nd .thn b d)&&decide (t≠.nd .thn o2 d))) ?_ ?_
  rotate_left
  · intro C hC
    walk_at "rdx_1"
    have S:=e9.trans e11
    refine⟨⟨_,SqL.of (S _ _ i2)⟩,fun acc hacc=>?_⟩
    refine Zf7 (fun t=>decide (t≠.nd .thn b d)&&decide (t≠.nd .thn o2 d)) (S _ _ i2) (Za6 S.keepT i3) (by omega) hacc (fun v'=>Ze8 (i:=0) rfl) (fun v' t H' ys N htm e hT h hlen hy' hn=>?_) (fun H' ys e h hP=>?_)
    · walk_at "rdx_1"
      have okt:=oki.ok.w t htm
      have dep:∀ u:Tm,min t.data.depth u.data.depth≤150:=fun u=>Nat.le_trans (Nat.min_le_left _ _) (by rw[Tm.depth];have:=okt.2;have:=Zd2 t;omega)
      refine⟨t.data,hT,(Tm.nd .thn b d).data,hf.keep (e11.trans e).keepT,t.lay okt.1,Tm.lay _ fok,dep _,?_⟩
      rw[Tm.eqv]
      by_cases hto:t=.nd .thn b d
      · rw[if_neg (by rw[if_pos trivial,decide_eq_true hto];exact Bool.false_ne_true),if_neg Bool.false_ne_true]
        exact hn (by rw[decide_eq_false (fun z=>z hto)];rfl) _ (Same.refl _)
      · rw[if_pos (by rw[if_pos trivial,decide_eq_false hto];rfl)]
        refine⟨t.data,hT,(Tm.nd .thn o2 d).data,hsv1.keep e.keepT,t.lay okt.1,Tm.lay _ secok,dep _,?_⟩
        rw[Tm.eqv]
        by_cases hto2:t=.nd .thn o2 d
        · rw[if_neg (by rw[if_pos trivial,decide_eq_true hto2];exact Bool.false_ne_true)]
          exact hn (by rw[decide_eq_true hto,Bool.true_and];exact decide_eq_false (fun z=>z hto2)) _ (Same.refl _)
        · rw[if_pos (by rw[if_pos trivial,decide_eq_false hto2];rfl)]
          exact⟨ys,h,Zb3 (by omega),hy' (by rw[decide_eq_true hto,decide_eq_true hto2];rfl) _ (Same.refl _) h⟩
    · exact hC _ _ ⟨acc,ys,rfl,e,h,hP⟩
  rintro σ12 H12 ⟨ka,kus,rfl,e12,hka,hkus⟩
  have S12:=(e9.trans e11).trans e12
  have okr:Okw (li.ws.filter fun t=>decide (t≠.nd .thn b d)&&decide (t≠.nd .thn o2 d)):=fun t ht=>oki.ok.w t (List.mem_filter.mp ht).1
  have lr:(li.ws.filter fun t=>decide (t≠.nd .thn b d)&&decide (t≠.nd .thn o2 d)).length≤li.ws.length:=List.length_filter_le _ _
  have lkus:=Paired.length hkus
  walk_at "rdx_1"
  refine⟨by decide,fun p3 hp3=>?_⟩
  have s1:=Za3 hp3 (HO.lst [ov])
  refine⟨kus,s1 _ _ hka,_,Za2,Nat.le_of_lt (Zb3 (by show kus.length+1≤1000;omega)),fun p4 hp4=>Zg4 hp4 (Za6 s1.keepT hkus) (.cons (hov.keep (e12.trans s1).keepT) .nil) okr (Zf0 onok onp) (by rw[List.length_singleton];omega) fun r H13 e13 fr hw=>⟨by decide,fun p5 hp5=>⟨by decide,fun p6 hp6=>?_⟩⟩⟩
  have s2:=Za3 hp5 (HO.lst [V.int (i:Nat)])
  have SS:=((S12.trans s1).trans e13).trans s2
  have okc:=Zf8 (Zg0 okr (Zf0 onok onp))
  exact q _ _ _ (SS.trans (Za3 hp6 _)) (Zf4 (R:=some .either) (on:=some (.nd .thn (.nd .one b o2) d)) (ls:=[(i:Int)]) hp6 (hw.keep s2) (i4.keep SS.keepT) ⟨hov.keep (((e12.trans s1).trans e13).trans s2).keepT,onok,onp⟩ Za2 ((S12.trans s1).free fr) (((S12.trans s1).trans e13).free hp5)) ⟨⟨rfl,okc,by have:=Zd7 (li.ws.filter fun t=>decide (t≠.nd .thn b d)&&decide (t≠.nd .thn o2 d)) [.nd .thn (.nd .one b o2) d];rw[List.length_singleton] at this;exact Nat.le_trans this (by omega),oki.ok.g,oki.ok.gp,by show 1≤100;decide⟩,good1 (Zd0 _) (by
    show (if Tm.nd .thn (.nd .one b o2) d∈norm (_++[.nd .thn (.nd .one b o2) d]) then some [_] else none)=_
    rw[if_pos (Zd4 (List.mem_singleton.mpr rfl))]) rfl hi hli rfl (fun t ht=>by
    by_cases ht1:t=.nd .thn b d
    · exact .inl (Zd4 (by rw[ht1];simp))
    · by_cases ht2:t=.nd .thn o2 d
      · exact .inl (Zd4 (by rw[ht2];simp))
      · exact .inr (Zf2 (List.mem_filter.mpr ⟨ht,by rw[decide_eq_true ht1,decide_eq_true ht2];rfl⟩)))⟩
end
noncomputable abbrev s_ae0:Stmt:=top 51
theorem sc_ae0:FnScope ["_law_lines","_law_cell_here","_law_here","_law_there","_law_one","_law_extra","_law_wishes","_law_goal","_law_form","_law_other","_law_on","_law_kept","_law_more","_law_first","_law_told","_law_less"] ["_law_lines","_law_cell_here","_law_here","_law_there","_law_one","_law_extra"] (defScope s_ae0):=⟨rfl,rfl,rfl,by decide +kernel,rfl,by decide +kernel,by decide +kernel⟩
section
variable {P:Program} {w:World} {K:PySem.W.Frag} {mg:Str→Option Value} {base:Heap}
theorem ok_ae0 {k:Nat} {f_ae0:Addr} {fd_ae0:FuncData} (F_ae0:Fun K "_law_by_two" "_law_by_two" s_ae0 f_ae0 fd_ae0) {f_an0:Addr} {fd_an0:FuncData} (G_an0:FnOk P w K mg base CX0 k f_an0 fd_an0 ["_law_some","_law_cell_here","_law_other"] (sp_pick K)) (m_an0:mg "_law_pick"=some (.ref f_an0)) (k_an0:PySem.W.keepIn K (.ref f_an0)=true) (b_an0:Binds K fd_an0 ["_law_some","_law_cell_here","_law_other"] []) {f_ai0:Addr} {fd_ai0:FuncData} (G_ai0:FnOk P w K mg base CX0 k f_ai0 fd_ai0 ["_law_lines","_law_start","_law_goal","_law_form"] (sp_found K)) (m_ai0:mg "_law_found"=some (.ref f_ai0)) (k_ai0:PySem.W.keepIn K (.ref f_ai0)=true) (b_ai0:Binds K fd_ai0 ["_law_lines","_law_start","_law_goal","_law_form"] []) {f_al0:Addr} {fd_al0:FuncData} (G_al0:FnOk P w K mg base CX0 k f_al0 fd_al0 ["_law_some"] (sp_onceL K)) (m_al0:mg "_law_once"=some (.ref f_al0)) (k_al0:PySem.W.keepIn K (.ref f_al0)=true) (b_al0:Binds K fd_al0 ["_law_some"] []):FnOk P w K mg base CX0 (k+1) f_ae0 fd_ae0 ["_law_lines","_law_cell_here","_law_here","_law_there","_law_one","_law_extra"] (sp_bytwo K):=by
  refine F_ae0.ok sc_ae0 (fun vs H Q E h=>?_) (fun cdv A outer s H vs Q E hr h=>?_)
  · obtain⟨a,us,L,c,i,j,v1,ev,o1,ex,rfl,_⟩:=h
    rfl
  obtain⟨a,us,L,c,i,j,v1,ev,o1,ex,rfl,ha,hL,G,hi,hj,h1,hE,k1,exk,q⟩:=h
  refine⟨_,(Za4 (Zb2 (i:=6) sc_ae0.nd rfl (Or.inl rfl) (Zb6 Zb7 (Zb6 Zd5 (pv 0) (pv 2) (fun _ _=>rfl)) Za5 (fun _ _=>rfl)))
  (Za4 (Zb2 (i:=7) sc_ae0.nd rfl (Or.inl rfl) (Zb6 Zb7 (Zb6 Zd5 (pv 0) (pv 2) (fun _ _=>rfl)) Za5 (fun _ _=>rfl)))
  (Za4 (Zb2 (i:=8) sc_ae0.nd rfl (Or.inl rfl) (Zc0 Ze5 (pv 1) Za5))
  (Za4 (Zd9 (Zb0 (Zg2) (pv 8) Za5 (Zb8 _))
    (Za4 (Zb2 (i:=9) sc_ae0.nd rfl (Or.inr rfl) (Za9 G_an0 hr (by exact rfl) m_an0 k_an0 b_an0 .nil Zc2 (Za0 (pv 6) (Za0 (Zc0 Ze0 (pv 1) Za5) (Za0 (pv 5) Za1)))))
  (Za4 (Zb2 (i:=10) sc_ae0.nd rfl (Or.inr rfl) (Za9 G_an0 hr (by exact rfl) m_an0 k_an0 b_an0 .nil Zc2 (Za0 (pe_lcG (blk0 (N':=["_law_wish"]) (by decide +kernel) (by decide +kernel) rfl (by decide +kernel)) rfl (Ze4 (pv 6)) (fun _ _ _ _=>(Zb5 (i:=0) (show (["_law_wish"]:List Str).Nodup from by decide +kernel) rfl (Or.inl rfl))) (fun _ _=>Zg6 (tg2:=(.Name "" ⟨0,0,0,0⟩)) (iter2:=(.Name "" ⟨0,0,0,0⟩))) (fun _ _ _ _ _=>(Zg7 (Zb0 (Zg2) (Zb6 (ix_tupK (K:=K) rfl) (pv 0) Za5 (fun _ _=>rfl)) Zb9 (Zb8 _)) (Zf1 (pv 0))))) (Za0 (Zc0 Ze0 (pv 1) Za5) (Za0 (Zc1 (Za0 Zb9 (Za0 (pv 4) (Za0 (pv 9) Za1)))) Za1)))))
  (Za4 (ps_setLCG (i:=11) sc_ae0.nd rfl (Or.inl rfl) (blkC (N':=["_law_wish","_law_on"]) (nt:=1) (ci:=[10]) ["_law_lines","_law_cell_here","_law_here","_law_there","_law_one","_law_extra","_law_wishes","_law_goal","_law_form","_law_other","_law_on","_law_kept","_law_more","_law_first","_law_told","_law_less"] (defScope s_ae0) rfl rfl (by decide +kernel) rfl (by decide +kernel) (by decide +kernel) rfl (by decide +kernel)) rfl (Ze4 (pv 6)) (fun _ _ _ _=>(Zb5 (i:=0) (show (["_law_wish","_law_on"]:List Str).Nodup from by decide +kernel) rfl (Or.inl rfl))) (fun _ _=>Zg6 (tg2:=(.Name "" ⟨0,0,0,0⟩)) (iter2:=(.Name "" ⟨0,0,0,0⟩))) (fun _ _ _ _ _=>(Zg7 ((pw_and (Zb0 (Zh5 (K:=K) rfl (Zg1 hr)) (pv 0) (Zb6 (ix_tupK (K:=K) rfl) (pv 1) Za5 (fun _ _=>rfl)) (Zb8 _)) (pw_and1 (Zb0 (Zh5 (K:=K) rfl (Zg1 hr)) (pv 0) (Zb6 (ix_tupK (K:=K) rfl) (pv 1) Za5 (fun _ _=>rfl)) (Zb8 _))))).pt (Zf1 (pv 0)))) rfl)
  (Za8 (Zb4 (Zc1 (Za0 Zb9 (Za0 (Za9 G_al0 hr (by exact rfl) m_al0 k_al0 b_al0 .nil Zc2 (Za0 (Zc0 Zh1 (pv 11) (Zc5 (Za0 (pv 10) Za1))) Za1)) (Za0 (pv 7) (Za0 (pv 10) (Za0 (Zc5 (Za0 (pv 2) Za1)) Za1)))))))))))
    Zc4)
  (Za4 (Zd9 (Zb0 (Zg2) (pv 8) Za5 (Zb8 _))
    (Za4 (Zb2 (i:=3) sc_ae0.nd rfl (Or.inl rfl) (Za9 G_ai0 hr (by exact rfl) m_ai0 k_ai0 b_ai0 .nil Zc2 (Za0 (pv 0) (Za0 (pv 3) (Za0 (pv 7) (Za0 Zb9 Za1))))))
  (Za4 (Zb2 (i:=12) sc_ae0.nd rfl (Or.inl rfl) (Zb6 Zb7 (Zb6 Zd5 (pv 0) (pv 3) (fun _ _=>rfl)) Za5 (fun _ _=>rfl)))
  (Za4 (Zb2 (i:=9) sc_ae0.nd rfl (Or.inr rfl) (Za9 G_an0 hr (by exact rfl) m_an0 k_an0 b_an0 .nil Zc2 (Za0 (pv 12) (Za0 (Zc0 Ze0 (pv 1) Za5) (Za0 (pv 5) Za1)))))
  (Za4 (Zb2 (i:=10) sc_ae0.nd rfl (Or.inr rfl) (Zc1 (Za0 Zb9 (Za0 (pv 4) (Za0 (pv 9) Za1)))))
  (Za4 (Zb2 (i:=11) sc_ae0.nd rfl (Or.inl rfl) (Zc0 Zh1 (pe_lcG (blkC (N':=["_law_wish","_law_one"]) (nt:=1) (ci:=[4]) ["_law_lines","_law_cell_here","_law_here","_law_there","_law_one","_law_extra","_law_wishes","_law_goal","_law_form","_law_other","_law_on","_law_kept","_law_more","_law_first","_law_told","_law_less"] (defScope s_ae0) rfl rfl (by decide +kernel) rfl (by decide +kernel) (by decide +kernel) rfl (by decide +kernel)) rfl (Ze4 (pv 6)) (fun _ _ _ _=>(Zb5 (i:=0) (show (["_law_wish","_law_one"]:List Str).Nodup from by decide +kernel) rfl (Or.inl rfl))) (fun _ _=>Zg6 (tg2:=(.Name "" ⟨0,0,0,0⟩)) (iter2:=(.Name "" ⟨0,0,0,0⟩))) (fun _ _ _ _ _=>(Zg7 (Zb0 (Zh5 (K:=K) rfl (Zg1 hr)) (pv 0) (pv 1) (Zb8 _)) (Zf1 (pv 0))))) (pe_lcG (blkC (N':=["_law_wish","_law_other"]) (nt:=1) (ci:=[9]) ["_law_lines","_law_cell_here","_law_here","_law_there","_law_one","_law_extra","_law_wishes","_law_goal","_law_form","_law_other","_law_on","_law_kept","_law_more","_law_first","_law_told","_law_less"] (defScope s_ae0) rfl rfl (by decide +kernel) rfl (by decide +kernel) (by decide +kernel) rfl (by decide +kernel)) rfl (Ze4 (pv 12)) (fun _ _ _ _=>(Zb5 (i:=0) (show (["_law_wish","_law_other"]:List Str).Nodup from by decide +kernel) rfl (Or.inl rfl))) (fun _ _=>Zg6 (tg2:=(.Name "" ⟨0,0,0,0⟩)) (iter2:=(.Name "" ⟨0,0,0,0⟩))) (fun _ _ _ _ _=>(Zg7 (Zb0 (Zh5 (K:=K) rfl (Zg1 hr)) (pv 0) (pv 1) (Zb8 _)) (Zf1 (pv 0)))))))
  (Za8 (Zb4 (Zc1 (Za0 Zb9 (Za0 (Za9 G_al0 hr (by exact rfl) m_al0 k_al0 b_al0 .nil Zc2 (Za0 (Zc0 Zh1 (pv 11) (Zc5 (Za0 (pv 10) Za1))) Za1)) (Za0 (pv 7) (Za0 (pv 10) (Za0 (Zc5 (Za0 (pv 2) (Za0 (pv 3) Za1))) Za1)))))))))))))
    Zc4)
  (Za4 (Zb2 (i:=12) sc_ae0.nd rfl (Or.inl rfl) (Zb6 Zb7 (Zb6 Zd5 (pv 0) (pv 3) (fun _ _=>rfl)) Za5 (fun _ _=>rfl)))
  (Za4 (Zb2 (i:=9) sc_ae0.nd rfl (Or.inr rfl) (Za9 G_an0 hr (by exact rfl) m_an0 k_an0 b_an0 .nil Zc2 (Za0 (pv 12) (Za0 (Zc0 Ze0 (pv 1) Za5) (Za0 (pv 5) Za1)))))
  (Za4 (ps_setLCG (i:=11) sc_ae0.nd rfl (Or.inl rfl) (blkC (N':=["_law_wish","_law_other"]) (nt:=1) (ci:=[9]) ["_law_lines","_law_cell_here","_law_here","_law_there","_law_one","_law_extra","_law_wishes","_law_goal","_law_form","_law_other","_law_on","_law_kept","_law_more","_law_first","_law_told","_law_less"] (defScope s_ae0) rfl rfl (by decide +kernel) rfl (by decide +kernel) (by decide +kernel) rfl (by decide +kernel)) rfl (Ze4 (pv 12)) (fun _ _ _ _=>(Zb5 (i:=0) (show (["_law_wish","_law_other"]:List Str).Nodup from by decide +kernel) rfl (Or.inl rfl))) (fun _ _=>Zg6 (tg2:=(.Name "" ⟨0,0,0,0⟩)) (iter2:=(.Name "" ⟨0,0,0,0⟩))) (fun _ _ _ _ _=>(Zg7 (Zb0 (Zh5 (K:=K) rfl (Zg1 hr)) (pv 0) (pv 1) (Zb8 _)) (Zf1 (pv 0)))) rfl)
  (Za4 (Zb2 (i:=13) sc_ae0.nd rfl (Or.inl rfl) (Za9 G_ai0 hr (by exact rfl) m_ai0 k_ai0 b_ai0 .nil Zc2 (Za0 (pv 0) (Za0 (pv 2) (Za0 Ze3 (Za0 Zb9 Za1))))))
  (Za4 (Zd9 ((pw_and (Zb0 (Zg2) (pv 8) Za5 (Zb8 _)) (pw_and1 (Zb0 (op_notN) (pv 13) Ze3 (Zb8 _))))).pt
    (Za4 (Zb2 (i:=14) sc_ae0.nd rfl (Or.inr rfl) (Zb6 Zb7 (Zb6 Zd5 (pv 0) (pv 13) (fun _ _=>rfl)) Za5 (fun _ _=>rfl)))
  (Za4 (Zb2 (i:=10) sc_ae0.nd rfl (Or.inr rfl) (Zc1 (Za0 Zb9 (Za0 (pv 14) (Za0 (pv 9) Za1)))))
  (Za4 (ps_setLCG (i:=15) sc_ae0.nd rfl (Or.inl rfl) (blkC (N':=["_law_wish","_law_other","_law_told"]) (nt:=1) (ci:=[9,14]) ["_law_lines","_law_cell_here","_law_here","_law_there","_law_one","_law_extra","_law_wishes","_law_goal","_law_form","_law_other","_law_on","_law_kept","_law_more","_law_first","_law_told","_law_less"] (defScope s_ae0) rfl rfl (by decide +kernel) rfl (by decide +kernel) (by decide +kernel) rfl (by decide +kernel)) rfl (Ze4 (Zb6 Zb7 (Zb6 Zd5 (pv 0) (pv 13) (fun _ _=>rfl)) Za5 (fun _ _=>rfl))) (fun _ _ _ _=>(Zb5 (i:=0) (show (["_law_wish","_law_other","_law_told"]:List Str).Nodup from by decide +kernel) rfl (Or.inl rfl))) (fun _ _=>Zg6 (tg2:=(.Name "" ⟨0,0,0,0⟩)) (iter2:=(.Name "" ⟨0,0,0,0⟩))) (fun _ _ _ _ _=>(Zg7 (Zb0 (Zh5 (K:=K) rfl (Zg1 hr)) (pv 0) (Zc1 (Za0 Zb9 (Za0 (Zb6 (ix_tupK (K:=K) rfl) (pv 2) Za5 (fun _ _=>rfl)) (Za0 (pv 1) Za1)))) (Zb8 _)) (Zf1 (pv 0)))) rfl)
  (Za8 (Zb4 (Zc1 (Za0 Zb9 (Za0 (Za9 G_al0 hr (by exact rfl) m_al0 k_al0 b_al0 .nil Zc2 (Za0 (Zc0 Zh1 (Zc0 Zh1 (pv 15) (pv 11)) (Zc5 (Za0 (pv 10) Za1))) Za1)) (Za0 (Zb6 Zb7 (Zb6 Zd5 (pv 0) (pv 3) (fun _ _=>rfl)) Za5 (fun _ _=>rfl)) (Za0 (pv 10) (Za0 (Zc5 (Za0 (pv 13) (Za0 (pv 3) Za1))) Za1)))))))))))
    Zc4)
  (Za4 (Zb2 (i:=10) sc_ae0.nd rfl (Or.inr rfl) (Zc1 (Za0 Zb9 (Za0 (pv 7) (Za0 (pv 9) Za1)))))
  (Za8 (Zb4 (Zc1 (Za0 Zb9 (Za0 (Za9 G_al0 hr (by exact rfl) m_al0 k_al0 b_al0 .nil Zc2 (Za0 (Zc0 Zh1 (Zc0 Zh1 (pv 6) (pv 11)) (Zc5 (Za0 (pv 10) Za1))) Za1)) (Za0 (Zb6 Zb7 (Zb6 Zd5 (pv 0) (pv 3) (fun _ _=>rfl)) Za5 (fun _ _=>rfl)) (Za0 (pv 10) (Za0 (Zc5 (Za0 (pv 2) (Za0 (pv 3) Za1))) Za1))))))))))))))))))),?_⟩
  have lu:us.length=L.length:=Paired.length hL
  have hiu:i < us.length:=by omega
  have hju:j < us.length:=by omega
  obtain⟨li,hli,hvi⟩:=paired_get hL (List.getElem?_eq_getElem hiu)
  obtain⟨lj,hlj,hvj⟩:=paired_get hL (List.getElem?_eq_getElem hju)
  have oki:=G.ok li (List.mem_of_getElem? hli)
  have okj:=G.ok lj (List.mem_of_getElem? hlj)
  obtain⟨pi,wi,ai,gi,oi,yi,evi,i1,i2,i3,i4,i5,i6⟩:=hvi
  obtain⟨pj,wj,aj,gj,oj,yj,evj,j1,j2,j3,j4,j5,j6⟩:=hvj
  have w9:=oki.w9
  have w9j:=okj.w9
  have gp1:=oki.g40
  have kp1:=k1.2
  have okls:∀ l∈L,OkLn l:=fun l hl=>(G.ok l hl).ok
  have ln:=G.len
  have rem_len:∀ (l:List Tm) (o:Tm),(rem l o).length≤l.length:=fun l o=>List.length_filter_le _ _
  refine Za7 (fun σ' H'=>σ'=[some (.ref a),some (.int c),some (.int (i:Nat)),some (.int (j:Nat)),some v1,some ev,some (.ref wi),none,none,none,none,none,none,none,none,none]∧H'=H) ?_ ?_
  rotate_left
  · intro C hC
    walk_at "rdx_1"
    exact⟨us,SqL.of ha,_,Zd6 (List.getElem?_eq_getElem hiu),pi,evi,_,i1,_,rfl,hC _ _ ⟨rfl,rfl⟩⟩
  rintro σ1 H1 ⟨rfl,rfl⟩
  refine Za7 (fun σ' H'=>σ'=[some (.ref a),some (.int c),some (.int (i:Nat)),some (.int (j:Nat)),some v1,some ev,some (.ref wi),some gi,none,none,none,none,none,none,none,none]∧H'=H1) ?_ ?_
  rotate_left
  · intro C hC
    walk_at "rdx_1"
    exact⟨us,SqL.of ha,_,Zd6 (List.getElem?_eq_getElem hiu),pi,evi,_,i1,_,rfl,hC _ _ ⟨rfl,rfl⟩⟩
  rintro σ2 H2 ⟨rfl,rfl⟩
  refine Za7 (fun σ' H'=>σ'=[some (.ref a),some (.int c),some (.int (i:Nat)),some (.int (j:Nat)),some v1,some ev,some (.ref wi),some gi,some (.int (c % 4)),none,none,none,none,none,none,none]∧H'=H2) ?_ ?_
  rotate_left
  · intro C hC
    walk_at "rdx_1"
    exact⟨by decide,hC _ _ ⟨rfl,rfl⟩⟩
  rintro σ3 H3 ⟨rfl,rfl⟩
  refine Za7 (fun σ' H'=>σ'=[some (.ref a),some (.int c),some (.int (i:Nat)),some (.int (j:Nat)),some v1,some ev,some (.ref wi),some gi,some (.int (c % 4)),none,none,none,none,none,none,none]∧H'=H3) ?_ ?_
  rotate_left
  · intro C hC
    walk_at "rdx_3"
    refine ite2 (fun _=>?_) (fun _=>hC _ _ ⟨rfl,rfl⟩)
    refine Za7 (fun σ' H'=>∃ xv o2,σ'=[some (.ref a),some (.int c),some (.int (i:Nat)),some (.int (j:Nat)),some v1,some ev,some (.ref wi),some gi,some (.int (c % 4)),some xv,none,none,none,none,none,none]∧Same H3 H'∧IsT K H' xv o2∧S40 o2) ?_ ?_
    rotate_left
    · intro C hC
      walk_at "rdx_1"
      refine⟨⟨by decide,by decide⟩,wi,_,ev,yi,li.ws,ex,rfl,i2,i3,oki.ok.w,hE,fun r t H' e hr ht=>hC _ _ ⟨r,t,rfl,e,hr,?_⟩⟩
      rcases ht with rfl | ht
      · exact exk
      · exact oki.s40 t ht
    rintro σ4 H4 ⟨xv,o2,rfl,e4,hx4,k2⟩
    have kp2:=k2.2
    refine Za7 (fun σ' H'=>∃ ov b d,σ'=[some (.ref a),some (.int c),some (.int (i:Nat)),some (.int (j:Nat)),some v1,some ev,some (.ref wi),some gi,some (.int (c % 4)),some xv,some ov,none,none,none,none,none]∧Same H3 H'∧IsT K H' ov (.nd .both b d)∧(Tm.nd .both b d).ok∧(Tm.nd .both b d).parts≤81) ?_ ?_
    rotate_left
    · intro C hC
      walk_at "rdx_1"
      refine⟨⟨_,SqL.of (e4 _ _ i2)⟩,fun acc hacc=>?_⟩
      refine Zf7 (fun t=>decide (headS t="both")) (e4 _ _ i2) (Za6 e4.keepT i3) (by omega) hacc (fun v'=>Ze8 (i:=0) rfl) (fun v' t H' ys N htm e hT h hlen hy hn=>?_) (fun H' ys e h hP=>?_)
      · walk_at "rdx_1"
        obtain⟨p,xs,rfl,hs⟩:=isT_headS hT
        refine⟨p,rfl,_,hs,_,at0 _ _,Ze2 _ _,?_⟩
        by_cases hc:headS t="both"
        · rw[if_pos (by rw[hc])]
          exact⟨ys,h,Zb3 (by omega),hy (decide_eq_true hc) _ (Same.refl _) h⟩
        · rw[if_neg (fun z=>hc (V.str.inj z))]
          exact hn (decide_eq_false hc) _ (Same.refl _)
      · refine⟨⟨by decide,by decide⟩,by decide,fun p hp=>?_⟩
        have s1:=Za3 hp (HO.tup [V.str "both",v1,xv])
        have S:=(e4.trans e).trans s1
        have hd:IsT K (upd H' p (HO.tup [V.str "both",v1,xv])) (.ref p) (.nd .both o1 o2):=isT_nd.mpr ⟨p,v1,xv,rfl,.inl (.inl Za2),h1.keep S.keepT,hx4.keep (e.trans s1).keepT⟩
        refine⟨acc,_,.ref p,ys,_,.nd .both o1 o2,rfl,s1 _ _ h,Za6 s1.keepT hP,fun t ht=>oki.ok.w t (List.mem_filter.mp ht).1,hd,fun r t H'' e2 hr ht=>?_⟩
        rcases ht with rfl | ht
        · exact hC _ _ ⟨r,o1,o2,rfl,S.trans e2,hr,⟨k1.1,k2.1⟩,by show 1+o1.parts+o2.parts≤81;omega⟩
        · obtain⟨hm,hh⟩:=List.mem_filter.mp ht
          obtain⟨b,d,rfl⟩:=headS_both (of_decide_eq_true hh)
          exact hC _ _ ⟨r,b,d,rfl,S.trans e2,hr,(oki.ok.w _ hm).1,by have:=oki.w40 _ hm;omega⟩
    rintro σ5 H5 ⟨ov,b,d,rfl,e5,hov,ook,opp⟩
    obtain⟨p,x,y,rfl,hs,hx,hy⟩:=isT_nd.mp hov
    refine Za7 (fun σ' H'=>∃ ka kus,σ'=[some (.ref a),some (.int c),some (.int (i:Nat)),some (.int (j:Nat)),some v1,some ev,some (.ref wi),some gi,some (.int (c % 4)),some xv,some (.ref p),some (.ref ka),none,none,none,none]∧Same H5 H'∧H' ka=some (.lst kus)∧Paired (IsT K H') kus (li.ws.filter fun t=>decide (t≠b)&&decide (t≠d))) ?_ ?_
    rotate_left
    · intro C hC
      walk_at "rdx_1"
      refine⟨⟨_,SqL.of (e5 _ _ i2)⟩,fun acc hacc=>?_⟩
      refine Zf7 (fun t=>decide (t≠b)&&decide (t≠d)) (e5 _ _ i2) (Za6 e5.keepT i3) (by omega) hacc (fun v'=>Ze8 (i:=0) rfl) (fun v' t H' ys N htm e hT h hlen hy' hn=>?_) (fun H' ys e h hP=>?_)
      · walk_at "rdx_1"
        have okt:=oki.ok.w t htm
        have dep:∀ u:Tm,min t.data.depth u.data.depth≤150:=fun u=>Nat.le_trans (Nat.min_le_left _ _) (by rw[Tm.depth];have:=okt.2;have:=Zd2 t;omega)
        refine⟨_,e.sqt hs,_,rfl,t.data,hT,b.data,hx.keep e.keepT,t.lay okt.1,b.lay ook.1,dep _,?_⟩
        rw[Tm.eqv]
        by_cases hto:t=b
        · rw[if_neg (by rw[if_pos trivial,decide_eq_true hto];exact Bool.false_ne_true),if_neg Bool.false_ne_true]
          exact hn (by rw[decide_eq_false (fun z=>z hto)];rfl) _ (Same.refl _)
        · rw[if_pos (by rw[if_pos trivial,decide_eq_false hto];rfl)]
          refine⟨_,e.sqt hs,_,rfl,t.data,hT,d.data,hy.keep e.keepT,t.lay okt.1,d.lay ook.2,dep _,?_⟩
          rw[Tm.eqv]
          by_cases hto2:t=d
          · rw[if_neg (by rw[if_pos trivial,decide_eq_true hto2];exact Bool.false_ne_true)]
            exact hn (by rw[decide_eq_true hto,Bool.true_and];exact decide_eq_false (fun z=>z hto2)) _ (Same.refl _)
          · rw[if_pos (by rw[if_pos trivial,decide_eq_false hto2];rfl)]
            exact⟨ys,h,Zb3 (by omega),hy' (by rw[decide_eq_true hto,decide_eq_true hto2];rfl) _ (Same.refl _) h⟩
      · exact hC _ _ ⟨acc,ys,rfl,e,h,hP⟩
    rintro σ6 H6 ⟨ka,kus,rfl,e6,hka,hkus⟩
    have S6:=e5.trans e6
    have okr:Okw (li.ws.filter fun t=>decide (t≠b)&&decide (t≠d)):=fun t ht=>oki.ok.w t (List.mem_filter.mp ht).1
    have lr:(li.ws.filter fun t=>decide (t≠b)&&decide (t≠d)).length≤li.ws.length:=List.length_filter_le _ _
    have lkus:=Paired.length hkus
    have onp:(Tm.nd .both b d).parts≤100:=by omega
    walk_at "rdx_1"
    refine⟨by decide,fun p3 hp3=>?_⟩
    have s1:=Za3 hp3 (HO.lst [V.ref p])
    refine⟨kus,s1 _ _ hka,_,Za2,Nat.le_of_lt (Zb3 (by show kus.length+1≤1000;omega)),fun p4 hp4=>Zg4 hp4 (Za6 s1.keepT hkus) (.cons (hov.keep (e6.trans s1).keepT) .nil) okr (Zf0 ook onp) (by rw[List.length_singleton];omega) fun r H13 e13 fr hw=>⟨by decide,fun p5 hp5=>⟨by decide,fun p6 hp6=>?_⟩⟩⟩
    have s2:=Za3 hp5 (HO.lst [V.int (i:Nat)])
    have SS:=((S6.trans s1).trans e13).trans s2
    have okc:=Zf8 (Zg0 okr (Zf0 ook onp))
    exact q _ _ _ (SS.trans (Za3 hp6 _)) (Zf4 (R:=some .parts) (on:=some (.nd .both b d)) (ls:=[(i:Int)]) hp6 (hw.keep s2) (i4.keep SS.keepT) ⟨hov.keep (((e6.trans s1).trans e13).trans s2).keepT,ook,onp⟩ Za2 ((S6.trans s1).free fr) (((S6.trans s1).trans e13).free hp5)) ⟨⟨rfl,okc,by have:=Zd7 (li.ws.filter fun t=>decide (t≠b)&&decide (t≠d)) [.nd .both b d];rw[List.length_singleton] at this;exact Nat.le_trans this (by omega),oki.ok.g,oki.ok.gp,by show 1≤100;decide⟩,good1 (Zd0 _) (by
      show (if Tm.nd .both b d∈norm (_++[.nd .both b d]) then some [_] else none)=_
      rw[if_pos (Zd4 (List.mem_singleton.mpr rfl))]) rfl hi hli rfl (fun t ht=>by
      by_cases ht1:t=b
      · exact .inl (Zd4 (by rw[ht1];simp))
      · by_cases ht2:t=d
        · exact .inl (Zd4 (by rw[ht2];simp))
        · exact .inr (Zf2 (List.mem_filter.mpr ⟨ht,by rw[decide_eq_true ht1,decide_eq_true ht2];rfl⟩)))⟩
  rintro σ4 H4 ⟨rfl,rfl⟩
  refine Za7 (fun σ' H'=>σ'=[some (.ref a),some (.int c),some (.int (i:Nat)),some (.int (j:Nat)),some v1,some ev,some (.ref wi),some gi,some (.int (c % 4)),none,none,none,none,none,none,none]∧H'=H4) ?_ ?_
  rotate_left
  · intro C hC
    walk_at "rdx_3"
    refine ite2 (fun _=>?_) (fun _=>hC _ _ ⟨rfl,rfl⟩)
    refine Za7 (fun σ' H'=>∃ n lm,σ'=[some (.ref a),some (.int c),some (.int (i:Nat)),some (.int (n:Nat)),some v1,some ev,some (.ref wi),some gi,some (.int (c % 4)),none,none,none,none,none,none,none]∧Same H4 H'∧L[n]?=some lm∧lm.g=li.g) ?_ ?_
    rotate_left
    · intro C hC
      walk_at "rdx_1"
      exact⟨a,us,L,_,gi,some li.g,_,rfl,ha,hL,okls,by omega,⟨i4,oki.ok.g,oki.ok.gp⟩,fun hno=>absurd rfl (hno li (List.mem_of_getElem? hli)),fun n l hl hf H' e=>hC _ _ ⟨n,l,rfl,e,hl,hf⟩⟩
    rintro σ5 H5 ⟨n,lm,rfl,e5,hlm,hgm⟩
    have hnl:n < L.length:=(List.getElem?_eq_some_iff.mp hlm).1
    have hnu:n < us.length:=by omega
    have okm:=G.ok lm (List.mem_of_getElem? hlm)
    obtain⟨lm',hlm',hvm⟩:=paired_get hL (List.getElem?_eq_getElem hnu)
    rw[hlm] at hlm'
    cases hlm'
    obtain⟨pm,wm,am,gm,om,ym,evm,m1,m2,m3,m4,m5,m6⟩:=hvm
    have w9m:=okm.w9
    refine Za7 (fun σ' H'=>σ'=[some (.ref a),some (.int c),some (.int (i:Nat)),some (.int (n:Nat)),some v1,some ev,some (.ref wi),some gi,some (.int (c % 4)),none,none,none,some (.ref wm),none,none,none]∧H'=H5) ?_ ?_
    rotate_left
    · intro C hC
      walk_at "rdx_1"
      exact⟨us,SqL.of (e5 _ _ ha),_,Zd6 (List.getElem?_eq_getElem hnu),pm,evm,_,e5.sqt m1,_,rfl,hC _ _ ⟨rfl,rfl⟩⟩
    rintro σ6 H6 ⟨rfl,rfl⟩
    refine Za7 (fun σ' H'=>∃ xv o2,σ'=[some (.ref a),some (.int c),some (.int (i:Nat)),some (.int (n:Nat)),some v1,some ev,some (.ref wi),some gi,some (.int (c % 4)),some xv,none,none,some (.ref wm),none,none,none]∧Same H4 H'∧IsT K H' xv o2∧S40 o2) ?_ ?_
    rotate_left
    · intro C hC
      walk_at "rdx_1"
      refine⟨⟨by decide,by decide⟩,wm,_,ev,ym,lm.ws,ex,rfl,e5 _ _ m2,Za6 e5.keepT m3,okm.ok.w,hE.keep e5.keepT,fun r t H' e hr ht=>hC _ _ ⟨r,t,rfl,e5.trans e,hr,?_⟩⟩
      rcases ht with rfl | ht
      · exact exk
      · exact okm.s40 t ht
    rintro σ7 H7 ⟨xv,o2,rfl,e7,hx7,k2⟩
    have kp2:=k2.2
    refine Za7 (fun σ' H'=>∃ ov,σ'=[some (.ref a),some (.int c),some (.int (i:Nat)),some (.int (n:Nat)),some v1,some ev,some (.ref wi),some gi,some (.int (c % 4)),some xv,some ov,none,some (.ref wm),none,none,none]∧Same H7 H'∧IsT K H' ov (.nd .one o1 o2)) ?_ ?_
    rotate_left
    · intro C hC
      walk_at "rdx_1"
      refine⟨by decide,fun p3 hp3=>?_⟩
      have s1:=Za3 hp3 (HO.tup [V.str "one",v1,xv])
      exact hC _ _ ⟨_,rfl,s1,isT_nd.mpr ⟨p3,v1,xv,rfl,.inl (.inl Za2),h1.keep (e7.trans s1).keepT,hx7.keep s1.keepT⟩⟩
    rintro σ8 H8 ⟨ov,rfl,e8,hov⟩
    have S8:=e7.trans e8
    have onok:(Tm.nd .one o1 o2).ok:=⟨k1.1,k2.1⟩
    have onp:(Tm.nd .one o1 o2).parts≤100:=by show 1+o1.parts+o2.parts≤100;omega
    have lr1:=rem_len li.ws o1
    have lr2:=rem_len lm.ws o2
    refine Za7 (fun σ' H'=>∃ ka kus,σ'=[some (.ref a),some (.int c),some (.int (i:Nat)),some (.int (n:Nat)),some v1,some ev,some (.ref wi),some gi,some (.int (c % 4)),some xv,some ov,some (.ref ka),some (.ref wm),none,none,none]∧Same H8 H'∧H' ka=some (.lst kus)∧Paired (IsT K H') kus (rem li.ws o1++rem lm.ws o2)) ?_ ?_
    rotate_left
    · intro C hC
      walk_at "rdx_1"
      refine⟨⟨_,SqL.of (S8 _ _ i2)⟩,fun acc hacc=>?_⟩
      refine comp_ne (S8 _ _ i2) (Za6 S8.keepT i3) (by omega) hacc oki.ok.w (h1.keep S8.keepT) k1.1 fun H' ys e h hP=>?_
      refine⟨⟨_,SqL.of ((S8.trans e) _ _ m2)⟩,fun acc2 hacc2=>?_⟩
      refine comp_ne ((S8.trans e) _ _ m2) (Za6 (S8.trans e).keepT m3) (by omega) hacc2 okm.ok.w (hx7.keep (e8.trans e).keepT) k2.1 fun H'' ys2 e2 h2 hP2=>?_
      have l1:=Paired.length hP
      have l2:=Paired.length hP2
      refine⟨ys,e2 _ _ h,ys2,h2,Nat.le_of_lt (Zb3 (by omega)),fun p hp=>?_⟩
      have s1:=Za3 hp (HO.lst (ys++ys2))
      exact hC _ _ ⟨p,_,rfl,(e.trans e2).trans s1,Za2,Zd3 (Za6 (e2.trans s1).keepT hP) (Za6 s1.keepT hP2)⟩
    rintro σ9 H9 ⟨ka,kus,rfl,e9,hka,hkus⟩
    have lkus:=Paired.length hkus
    have ll:(rem li.ws o1++rem lm.ws o2).length≤18:=by rw[List.length_append];omega
    have okr:Okw (rem li.ws o1++rem lm.ws o2):=Zg0 (fun t ht=>oki.ok.w t (mem_rem.mp ht).1) (fun t ht=>okm.ok.w t (mem_rem.mp ht).1)
    walk_at "rdx_1"
    refine⟨by decide,fun p3 hp3=>?_⟩
    have s1:=Za3 hp3 (HO.lst [ov])
    refine⟨kus,s1 _ _ hka,_,Za2,Nat.le_of_lt (Zb3 (by show kus.length+1≤1000;omega)),fun p4 hp4=>Zg4 hp4 (Za6 s1.keepT hkus) (.cons (hov.keep (e9.trans s1).keepT) .nil) okr (Zf0 onok onp) (by rw[List.length_singleton];omega) fun r H13 e13 fr hw=>⟨by decide,fun p5 hp5=>⟨by decide,fun p6 hp6=>?_⟩⟩⟩
    have s2:=Za3 hp5 (HO.lst [V.int (i:Nat),V.int (n:Nat)])
    have SS:=(((S8.trans e9).trans s1).trans e13).trans s2
    have okc:=Zf8 (Zg0 okr (Zf0 onok onp))
    exact q _ _ _ (SS.trans (Za3 hp6 _)) (Zf4 (R:=some .cases) (on:=some (.nd .one o1 o2)) (ls:=[(i:Int),(n:Int)]) hp6 (hw.keep s2) (i4.keep SS.keepT) ⟨hov.keep (((e9.trans s1).trans e13).trans s2).keepT,onok,onp⟩ Za2 (((S8.trans e9).trans s1).free fr) ((((S8.trans e9).trans s1).trans e13).free hp5)) ⟨⟨rfl,okc,by have:=Zd7 (rem li.ws o1++rem lm.ws o2) [.nd .one o1 o2];rw[List.length_singleton] at this;exact Nat.le_trans this (by omega),oki.ok.g,oki.ok.gp,by show 2≤100;decide⟩,good2 (Zd0 _) (by
      show (if Tm.nd .one o1 o2∈norm (_++[.nd .one o1 o2]) then some [_,_] else none)=_
      rw[if_pos (Zd4 (List.mem_singleton.mpr rfl))]) rfl hi hli rfl (fun t ht=>by
      by_cases ht1:t=o1
      · exact .inl (Zd4 (List.mem_singleton.mpr ht1))
      · exact .inr (Zf2 (List.mem_append.mpr (.inl (mem_rem.mpr ⟨ht,ht1⟩))))) hnl hlm hgm (fun t ht=>by
      by_cases ht1:t=o2
      · exact .inl (Zd4 (List.mem_singleton.mpr ht1))
      · exact .inr (Zf2 (List.mem_append.mpr (.inr (mem_rem.mpr ⟨ht,ht1⟩)))))⟩
  rintro σ5 H5 ⟨rfl,rfl⟩
  refine Za7 (fun σ' H'=>σ'=[some (.ref a),some (.int c),some (.int (i:Nat)),some (.int (j:Nat)),some v1,some ev,some (.ref wi),some gi,some (.int (c % 4)),none,none,none,some (.ref wj),none,none,none]∧H'=H5) ?_ ?_
  rotate_left
  · intro C hC
    walk_at "rdx_1"
    exact⟨us,SqL.of ha,_,Zd6 (List.getElem?_eq_getElem hju),pj,evj,_,j1,_,rfl,hC _ _ ⟨rfl,rfl⟩⟩
  rintro σ6 H6 ⟨rfl,rfl⟩
  refine Za7 (fun σ' H'=>∃ xv o2,σ'=[some (.ref a),some (.int c),some (.int (i:Nat)),some (.int (j:Nat)),some v1,some ev,some (.ref wi),some gi,some (.int (c % 4)),some xv,none,none,some (.ref wj),none,none,none]∧Same H6 H'∧IsT K H' xv o2∧S40 o2) ?_ ?_
  rotate_left
  · intro C hC
    walk_at "rdx_1"
    refine⟨⟨by decide,by decide⟩,wj,_,ev,yj,lj.ws,ex,rfl,j2,j3,okj.ok.w,hE,fun r t H' e hr ht=>hC _ _ ⟨r,t,rfl,e,hr,?_⟩⟩
    rcases ht with rfl | ht
    · exact exk
    · exact okj.s40 t ht
  rintro σ7 H7 ⟨xv,o2,rfl,e7,hx7,k2⟩
  have kp2:=k2.2
  refine Za7 (fun σ' H'=>∃ ka kus,σ'=[some (.ref a),some (.int c),some (.int (i:Nat)),some (.int (j:Nat)),some v1,some ev,some (.ref wi),some gi,some (.int (c % 4)),some xv,none,some (.ref ka),some (.ref wj),none,none,none]∧Same H6 H'∧IsT K H' xv o2∧H' ka=some (.lst kus)∧Paired (IsT K H') kus (rem lj.ws o2)) ?_ ?_
  rotate_left
  · intro C hC
    walk_at "rdx_1"
    refine⟨⟨_,SqL.of (e7 _ _ j2)⟩,fun acc hacc=>?_⟩
    exact comp_ne (e7 _ _ j2) (Za6 e7.keepT j3) (by omega) hacc okj.ok.w hx7 k2.1 fun H' ys e h hP=>hC _ _ ⟨acc,ys,rfl,e7.trans e,hx7.keep e.keepT,h,hP⟩
  rintro σ8 H8 ⟨ka,kus,rfl,e8,hx8,hka,hkus⟩
  have lk:=rem_len lj.ws o2
  have lkus:=Paired.length hkus
  have okk:Okw (rem lj.ws o2):=fun t ht=>okj.ok.w t (mem_rem.mp ht).1
  refine Za7 (fun σ' H'=>∃ fv,σ'=[some (.ref a),some (.int c),some (.int (i:Nat)),some (.int (j:Nat)),some v1,some ev,some (.ref wi),some gi,some (.int (c % 4)),some xv,none,some (.ref ka),some (.ref wj),some fv,none,none]∧Same H8 H'∧(fv=.non∨∃ n lf b d,fv=.int (n:Nat)∧L[n]?=some lf∧lf.g=.nd .thn b d)) ?_ ?_
  rotate_left
  · intro C hC
    walk_at "rdx_1"
    refine⟨a,us,L,_,.non,none,_,rfl,e8 _ _ ha,IsLns.keep e8 hL,okls,by omega,rfl,fun _ H' e=>hC _ _ ⟨_,rfl,e,.inl rfl⟩,fun n l hl hf H' e=>?_⟩
    obtain⟨b,d,hg⟩:=headS_thn hf
    exact hC _ _ ⟨_,rfl,e,.inr ⟨n,l,b,d,rfl,hl,hg⟩⟩
  rintro σ9 H9 ⟨fv,rfl,e9,hfv⟩
  have S9:=e8.trans e9
  refine Za7 (fun σ' H'=>σ'=[some (.ref a),some (.int c),some (.int (i:Nat)),some (.int (j:Nat)),some v1,some ev,some (.ref wi),some gi,some (.int (c % 4)),some xv,none,some (.ref ka),some (.ref wj),some fv,none,none]∧H'=H9) ?_ ?_
  rotate_left
  · intro C hC
    walk_at "rdx_3"
    refine ite2 (fun _=>?_) (fun _=>?_)
    · rcases hfv with rfl | ⟨n,lf,b,d,rfl,hlf,hgf⟩
      · rw[if_neg (by rw[decide_eq_true rfl];decide)]
        exact hC _ _ ⟨rfl,rfl⟩
      rw[if_pos (by rw[decide_eq_false (fun z=>nomatch z)];rfl)]
      have hnl:n < L.length:=(List.getElem?_eq_some_iff.mp hlf).1
      have hnu:n < us.length:=by omega
      have okf:=G.ok lf (List.mem_of_getElem? hlf)
      obtain⟨lf',hlf',hvf⟩:=paired_get hL (List.getElem?_eq_getElem hnu)
      rw[hlf] at hlf'
      cases hlf'
      obtain⟨pf,wf,af,gf,of,yf,evf,f1,f2,f3,f4,f5,f6⟩:=hvf
      have w9f:=okf.w9
      have gfp:=okf.g40
      have gfo:=okf.ok.g
      rw[hgf] at f4 gfp gfo
      have gfp2:1+b.parts+d.parts≤40:=gfp
      obtain⟨pg,xg,yg,rfl,hsg,hxg,hyg⟩:=isT_nd.mp f4
      refine Za7 (fun σ' H'=>σ'=[some (.ref a),some (.int c),some (.int (i:Nat)),some (.int (j:Nat)),some v1,some ev,some (.ref wi),some gi,some (.int (c % 4)),some xv,none,some (.ref ka),some (.ref wj),some (.int (n:Nat)),some (.ref pg),none]∧H'=H9) ?_ ?_
      rotate_left
      · intro C hC
        walk_at "rdx_1"
        exact⟨us,SqL.of (S9 _ _ ha),_,Zd6 (List.getElem?_eq_getElem hnu),pf,evf,_,S9.sqt f1,_,rfl,hC _ _ ⟨rfl,rfl⟩⟩
      rintro σ10 H10 ⟨rfl,rfl⟩
      refine Za7 (fun σ' H'=>∃ ov,σ'=[some (.ref a),some (.int c),some (.int (i:Nat)),some (.int (j:Nat)),some v1,some ev,some (.ref wi),some gi,some (.int (c % 4)),some xv,some ov,some (.ref ka),some (.ref wj),some (.int (n:Nat)),some (.ref pg),none]∧Same H10 H'∧IsT K H' ov (.nd .thn (.nd .thn b d) o2)) ?_ ?_
      rotate_left
      · intro C hC
        walk_at "rdx_1"
        refine⟨by decide,fun p3 hp3=>?_⟩
        have s1:=Za3 hp3 (HO.tup [V.str "then",V.ref pg,xv])
        exact hC _ _ ⟨_,rfl,s1,isT_nd.mpr ⟨p3,_,xv,rfl,.inl (.inl Za2),f4.keep (S9.trans s1).keepT,hx8.keep (e9.trans s1).keepT⟩⟩
      rintro σ11 H11 ⟨ov,rfl,e11,hov⟩
      have S11:=S9.trans e11
      have onok:(Tm.nd .thn (.nd .thn b d) o2).ok:=⟨gfo,k2.1⟩
      have onp:(Tm.nd .thn (.nd .thn b d) o2).parts≤100:=by show 1+(1+b.parts+d.parts)+o2.parts≤100;omega
      have scok:(Tm.nd .thn d o2).ok:=⟨gfo.2,k2.1⟩
      refine Za7 (fun σ' H'=>∃ sa sus,σ'=[some (.ref a),some (.int c),some (.int (i:Nat)),some (.int (j:Nat)),some v1,some ev,some (.ref wi),some gi,some (.int (c % 4)),some xv,some ov,some (.ref ka),some (.ref wj),some (.int (n:Nat)),some (.ref pg),some (.ref sa)]∧Same H11 H'∧H' sa=some (.lst sus)∧Paired (IsT K H') sus (rem lf.ws (.nd .thn d o2))) ?_ ?_
      rotate_left
      · intro C hC
        walk_at "rdx_1"
        refine⟨us,SqL.of (S11 _ _ ha),_,Zd6 (List.getElem?_eq_getElem hnu),pf,evf,_,S11.sqt f1,_,rfl,wf,rfl,⟨_,SqL.of (S11 _ _ f2)⟩,fun acc hacc=>?_⟩
        refine Zf7 (fun t=>decide (t≠.nd .thn d o2)) (S11 _ _ f2) (Za6 S11.keepT f3) (by omega) hacc (fun v'=>Ze8 (i:=0) rfl) (fun v' t H' ys N htm e hT h hlen hy' hn=>?_) (fun H' ys e h hP=>?_)
        · walk_at "rdx_1"
          have okt:=okf.ok.w t htm
          refine⟨_,(S11.trans e).sqt hsg,_,rfl,by decide,fun p3 hp3=>?_⟩
          have s1:=Za3 hp3 (HO.tup [V.str "then",yg,xv])
          have hsec:IsT K (upd H' p3 (HO.tup [V.str "then",yg,xv])) (.ref p3) (.nd .thn d o2):=isT_nd.mpr ⟨p3,yg,xv,rfl,.inl (.inl Za2),hyg.keep ((S11.trans e).trans s1).keepT,hx8.keep (((e9.trans e11).trans e).trans s1).keepT⟩
          refine⟨t.data,hT.keep s1.keepT,(Tm.nd .thn d o2).data,hsec,t.lay okt.1,Tm.lay _ scok,Nat.le_trans (Nat.min_le_left _ _) (by rw[Tm.depth];have:=okt.2;have:=Zd2 t;omega),?_⟩
          rw[Tm.eqv]
          by_cases hto:t=.nd .thn d o2
          · rw[if_neg (by rw[if_pos trivial,decide_eq_true hto];exact Bool.false_ne_true)]
            exact hn (decide_eq_false (fun z=>z hto)) _ s1
          · rw[if_pos (by rw[if_pos trivial,decide_eq_false hto];rfl)]
            exact⟨ys,s1 _ _ h,Zb3 (by omega),hy' (decide_eq_true hto) _ s1 (s1 _ _ h)⟩
        · exact hC _ _ ⟨acc,ys,rfl,e,h,hP⟩
      rintro σ12 H12 ⟨sa,sus,rfl,e12,hsa,hsus⟩
      have S12:=S11.trans e12
      have lr1:=rem_len lf.ws (.nd .thn d o2)
      have lsus:=Paired.length hsus
      have okr:Okw (rem lf.ws (.nd .thn d o2)++rem lj.ws o2):=Zg0 (fun t ht=>okf.ok.w t (mem_rem.mp ht).1) okk
      have ll:(rem lf.ws (.nd .thn d o2)++rem lj.ws o2).length≤18:=by rw[List.length_append];omega
      have ek:=(e9.trans e11).trans e12
      walk_at "rdx_1"
      refine⟨sus,hsa,kus,ek _ _ hka,Nat.le_of_lt (Zb3 (by omega)),fun p2 hp2=>⟨by decide,fun p3 hp3=>?_⟩⟩
      have s0:=Za3 hp2 (HO.lst (sus++kus))
      have s1:=Za3 hp3 (HO.lst [ov])
      have s01:=s0.trans s1
      refine⟨sus++kus,s1 _ _ Za2,_,Za2,Nat.le_of_lt (Zb3 (by rw[List.length_append,List.length_singleton];omega)),fun p4 hp4=>Zg4 hp4 (Zd3 (Za6 s01.keepT hsus) (Za6 (ek.trans s01).keepT hkus)) (.cons (hov.keep (e12.trans s01).keepT) .nil) okr (Zf0 onok onp) (by rw[List.length_singleton];omega) fun r H13 e13 fr hw=>?_⟩
      have S13:=(S12.trans s01).trans e13
      refine⟨us,SqL.of (S13 _ _ ha),_,Zd6 (List.getElem?_eq_getElem hju),pj,evj,_,S13.sqt j1,_,rfl,by decide,fun p5 hp5=>⟨by decide,fun p6 hp6=>?_⟩⟩
      have s2:=Za3 hp5 (HO.lst [V.int (n:Nat),V.int (j:Nat)])
      have SS:=S13.trans s2
      have okc:=Zf8 (Zg0 okr (Zf0 onok onp))
      have gjp:=okj.ok.gp
      exact q _ _ _ (SS.trans (Za3 hp6 _)) (Zf4 (R:=some .chain) (on:=some (.nd .thn (.nd .thn b d) o2)) (ls:=[(n:Int),(j:Int)]) hp6 (hw.keep s2) (j4.keep SS.keepT) ⟨hov.keep (((e12.trans s01).trans e13).trans s2).keepT,onok,onp⟩ Za2 ((S12.trans s01).free fr) (S13.free hp5)) ⟨⟨rfl,okc,by have:=Zd7 (rem lf.ws (.nd .thn d o2)++rem lj.ws o2) [.nd .thn (.nd .thn b d) o2];rw[List.length_singleton] at this;exact Nat.le_trans this (by omega),okj.ok.g,gjp,by show 2≤100;decide⟩,good2 (Zd0 _) (by
        show (if Tm.nd .thn (.nd .thn b d) o2∈norm (_++[.nd .thn (.nd .thn b d) o2]) then some [_,_] else none)=_
        rw[if_pos (Zd4 (List.mem_singleton.mpr rfl))]) rfl hnl hlf hgf (fun t ht=>by
        by_cases ht1:t=.nd .thn d o2
        · exact .inl (Zd4 (List.mem_singleton.mpr ht1))
        · exact .inr (Zf2 (List.mem_append.mpr (.inl (mem_rem.mpr ⟨ht,ht1⟩))))) hj hlj rfl (fun t ht=>by
        by_cases ht1:t=o2
        · exact .inl (Zd4 (List.mem_singleton.mpr ht1))
        · exact .inr (Zf2 (List.mem_append.mpr (.inr (mem_rem.mpr ⟨ht,ht1⟩)))))⟩
    · rw[if_neg Bool.false_ne_true]
      exact hC _ _ ⟨rfl,rfl⟩
  rintro σ10 H10 ⟨rfl,rfl⟩
  refine Za7 (fun σ' H'=>∃ ov,σ'=[some (.ref a),some (.int c),some (.int (i:Nat)),some (.int (j:Nat)),some v1,some ev,some (.ref wi),some gi,some (.int (c % 4)),some xv,some ov,some (.ref ka),some (.ref wj),some fv,none,none]∧Same H10 H'∧IsT K H' ov (.nd .thn li.g o2)) ?_ ?_
  rotate_left
  · intro C hC
    walk_at "rdx_1"
    refine⟨by decide,fun p3 hp3=>?_⟩
    have s1:=Za3 hp3 (HO.tup [V.str "then",gi,xv])
    exact hC _ _ ⟨_,rfl,s1,isT_nd.mpr ⟨p3,gi,xv,rfl,.inl (.inl Za2),i4.keep (S9.trans s1).keepT,hx8.keep (e9.trans s1).keepT⟩⟩
  rintro σ11 H11 ⟨ov,rfl,e11,hov⟩
  have onok:(Tm.nd .thn li.g o2).ok:=⟨oki.ok.g,k2.1⟩
  have onp:(Tm.nd .thn li.g o2).parts≤100:=by show 1+li.g.parts+o2.parts≤100;omega
  walk_at "rdx_1"
  have S11:=S9.trans e11
  have lyi:=Paired.length i3
  have okr:Okw (li.ws++rem lj.ws o2):=Zg0 oki.ok.w okk
  have ll:(li.ws++rem lj.ws o2).length≤18:=by rw[List.length_append];omega
  have ek:=e9.trans e11
  refine⟨yi,S11 _ _ i2,kus,ek _ _ hka,Nat.le_of_lt (Zb3 (by omega)),fun p2 hp2=>⟨by decide,fun p3 hp3=>?_⟩⟩
  have s0:=Za3 hp2 (HO.lst (yi++kus))
  have s1:=Za3 hp3 (HO.lst [ov])
  have s01:=s0.trans s1
  refine⟨yi++kus,s1 _ _ Za2,_,Za2,Nat.le_of_lt (Zb3 (by rw[List.length_append,List.length_singleton];omega)),fun p4 hp4=>Zg4 hp4 (Zd3 (Za6 (S11.trans s01).keepT i3) (Za6 (ek.trans s01).keepT hkus)) (.cons (hov.keep s01.keepT) .nil) okr (Zf0 onok onp) (by rw[List.length_singleton];omega) fun r H13 e13 fr hw=>?_⟩
  have S13:=(S11.trans s01).trans e13
  refine⟨us,SqL.of (S13 _ _ ha),_,Zd6 (List.getElem?_eq_getElem hju),pj,evj,_,S13.sqt j1,_,rfl,by decide,fun p5 hp5=>⟨by decide,fun p6 hp6=>?_⟩⟩
  have s2:=Za3 hp5 (HO.lst [V.int (i:Nat),V.int (j:Nat)])
  have SS:=S13.trans s2
  have okc:=Zf8 (Zg0 okr (Zf0 onok onp))
  exact q _ _ _ (SS.trans (Za3 hp6 _)) (Zf4 (R:=some .use) (on:=some (.nd .thn li.g o2)) (ls:=[(i:Int),(j:Int)]) hp6 (hw.keep s2) (j4.keep SS.keepT) ⟨hov.keep ((s01.trans e13).trans s2).keepT,onok,onp⟩ Za2 ((S11.trans s01).free fr) (S13.free hp5)) ⟨⟨rfl,okc,by have:=Zd7 (li.ws++rem lj.ws o2) [.nd .thn li.g o2];rw[List.length_singleton] at this;exact Nat.le_trans this (by omega),okj.ok.g,okj.ok.gp,by show 2≤100;decide⟩,good2 (Zd0 _) (by
    show (if Tm.nd .thn li.g o2∈norm (_++[.nd .thn li.g o2]) then some [_,_] else none)=_
    rw[if_pos (Zd4 (List.mem_singleton.mpr rfl))]) rfl hi hli rfl (fun t ht=>.inr (Zf2 (List.mem_append.mpr (.inl ht)))) hj hlj rfl (fun t ht=>by
    by_cases ht1:t=o2
    · exact .inl (Zd4 (List.mem_singleton.mpr ht1))
    · exact .inr (Zf2 (List.mem_append.mpr (.inr (mem_rem.mpr ⟨ht,ht1⟩)))))⟩
end
noncomputable abbrev s_ak0:Stmt:=top 52
theorem sc_ak0:FnScope ["_law_lines","_law_cell_here","_law_words_here","_law_here","_law_there","_law_extra","_law_one","_law_other","_law_form","_law_line","_law_sizes"] ["_law_lines","_law_cell_here","_law_words_here"] (defScope s_ak0):=⟨rfl,rfl,rfl,by decide +kernel,rfl,by decide +kernel,by decide +kernel⟩
section
variable {P:Program} {w:World} {K:PySem.W.Frag} {mg:Str→Option Value} {base:Heap}
theorem ok_ak0 {k:Nat} {f_ak0:Addr} {fd_ak0:FuncData} (F_ak0:Fun K "_law_next" "_law_next" s_ak0 f_ak0 fd_ak0) {f_ao0:Addr} {fd_ao0:FuncData} (G_ao0:FnOk P w K mg base CX0 k f_ao0 fd_ao0 ["_law_cell_here","_law_many","_law_words_here"] (sp_stm21 K 2)) (m_ao0:mg "_law_statement"=some (.ref f_ao0)) (k_ao0:PySem.W.keepIn K (.ref f_ao0)=true) (b_ao0:Binds K fd_ao0 ["_law_cell_here","_law_many","_law_words_here"] []) {f_an0:Addr} {fd_an0:FuncData} (G_an0:FnOk P w K mg base CX0 k f_an0 fd_an0 ["_law_some","_law_cell_here","_law_other"] (sp_pick K)) (m_an0:mg "_law_pick"=some (.ref f_an0)) (k_an0:PySem.W.keepIn K (.ref f_an0)=true) (b_an0:Binds K fd_an0 ["_law_some","_law_cell_here","_law_other"] []) {f_aj0:Addr} {fd_aj0:FuncData} (G_aj0:FnOk P w K mg base CX0 k f_aj0 fd_aj0 ["_law_cell_here","_law_k"] (sp_mix)) (m_aj0:mg "_law_mix"=some (.ref f_aj0)) (k_aj0:PySem.W.keepIn K (.ref f_aj0)=true) (b_aj0:Binds K fd_aj0 ["_law_cell_here","_law_k"] []) {f_ab0:Addr} {fd_ab0:FuncData} (G_ab0:FnOk P w K mg base CX0 k f_ab0 fd_ab0 ["_law_lines","_law_cell_here","_law_here","_law_there","_law_extra"] (sp_bygoal K)) (m_ab0:mg "_law_by_goal"=some (.ref f_ab0)) (k_ab0:PySem.W.keepIn K (.ref f_ab0)=true) (b_ab0:Binds K fd_ab0 ["_law_lines","_law_cell_here","_law_here","_law_there","_law_extra"] []) {f_ac0:Addr} {fd_ac0:FuncData} (G_ac0:FnOk P w K mg base CX0 k f_ac0 fd_ac0 ["_law_lines","_law_cell_here","_law_here","_law_one","_law_other","_law_extra"] (sp_byif K)) (m_ac0:mg "_law_by_if"=some (.ref f_ac0)) (k_ac0:PySem.W.keepIn K (.ref f_ac0)=true) (b_ac0:Binds K fd_ac0 ["_law_lines","_law_cell_here","_law_here","_law_one","_law_other","_law_extra"] []) {f_ae0:Addr} {fd_ae0:FuncData} (G_ae0:FnOk P w K mg base CX0 k f_ae0 fd_ae0 ["_law_lines","_law_cell_here","_law_here","_law_there","_law_one","_law_extra"] (sp_bytwo K)) (m_ae0:mg "_law_by_two"=some (.ref f_ae0)) (k_ae0:PySem.W.keepIn K (.ref f_ae0)=true) (b_ae0:Binds K fd_ae0 ["_law_lines","_law_cell_here","_law_here","_law_there","_law_one","_law_extra"] []) {f_am0:Addr} {fd_am0:FuncData} (G_am0:FnOk P w K mg base CX0 k f_am0 fd_am0 ["_law_statement_here"] (sp_partsL K 101)) (m_am0:mg "_law_parts"=some (.ref f_am0)) (k_am0:PySem.W.keepIn K (.ref f_am0)=true) (b_am0:Binds K fd_am0 ["_law_statement_here"] []) (m_len:mg "len"=none) (m_max:mg "max"=none):FnOk P w K mg base CX0 (k+1) f_ak0 fd_ak0 ["_law_lines","_law_cell_here","_law_words_here"] (sp_next K):=by
  refine F_ak0.ok sc_ak0 (fun vs H Q E h=>?_) (fun cdv A outer s H vs Q E hr h=>?_)
  · obtain⟨a,wa,us,L,c,ws,rfl,_⟩:=h
    rfl
  obtain⟨a,wa,us,L,c,ws,rfl,ha,hL,G,hne,hc,hW,hw,q⟩:=h
  refine⟨_,(Za4 (Zb2 (i:=3) sc_ak0.nd rfl (Or.inl rfl) (Zc0 Ze5 (Za9 G_aj0 hr (by exact rfl) m_aj0 k_aj0 b_aj0 .nil Zc2 (Za0 (pv 1) (Za0 Za5 Za1))) (Zd1 Zc3 (by exact rfl) m_len Ken.boot_len (Za0 (pv 0) Za1))))
  (Za4 (Zb2 (i:=4) sc_ak0.nd rfl (Or.inl rfl) (Zc0 Ze5 (Za9 G_aj0 hr (by exact rfl) m_aj0 k_aj0 b_aj0 .nil Zc2 (Za0 (pv 1) (Za0 Za5 Za1))) (Zd1 Zc3 (by exact rfl) m_len Ken.boot_len (Za0 (pv 0) Za1))))
  (Za4 (Zb2 (i:=5) sc_ak0.nd rfl (Or.inl rfl) (Za9 G_ao0 hr (by exact rfl) m_ao0 k_ao0 b_ao0 .nil Zc2 (Za0 (Za9 G_aj0 hr (by exact rfl) m_aj0 k_aj0 b_aj0 .nil Zc2 (Za0 (pv 1) (Za0 Za5 Za1))) (Za0 (Zc0 Zf3 Za5 (Zc0 op_mul Za5 (Zc0 Ze5 (pv 1) Za5))) (Za0 (pv 2) Za1)))))
  (Za4 (Zb2 (i:=6) sc_ak0.nd rfl (Or.inl rfl) (Za9 G_an0 hr (by exact rfl) m_an0 k_an0 b_an0 .nil Zc2 (Za0 (Zb6 Zb7 (Zb6 Zd5 (pv 0) (pv 3) (fun _ _=>rfl)) Za5 (fun _ _=>rfl)) (Za0 (Za9 G_aj0 hr (by exact rfl) m_aj0 k_aj0 b_aj0 .nil Zc2 (Za0 (pv 1) (Za0 Za5 Za1))) (Za0 (pv 5) Za1)))))
  (Za4 (Zb2 (i:=7) sc_ak0.nd rfl (Or.inl rfl) (Za9 G_an0 hr (by exact rfl) m_an0 k_an0 b_an0 .nil Zc2 (Za0 (Zb6 Zb7 (Zb6 Zd5 (pv 0) (pv 3) (fun _ _=>rfl)) Za5 (fun _ _=>rfl)) (Za0 (Za9 G_aj0 hr (by exact rfl) m_aj0 k_aj0 b_aj0 .nil Zc2 (Za0 (pv 1) (Za0 Za5 Za1))) (Za0 (Za9 G_ao0 hr (by exact rfl) m_ao0 k_ao0 b_ao0 .nil Zc2 (Za0 (Za9 G_aj0 hr (by exact rfl) m_aj0 k_aj0 b_aj0 .nil Zc2 (Za0 (pv 1) (Za0 Za5 Za1))) (Za0 Za5 (Za0 (pv 2) Za1)))) Za1)))))
  (Za4 (Zb2 (i:=8) sc_ak0.nd rfl (Or.inl rfl) (Zc0 Ze5 (Zc0 Ze0 (pv 1) Za5) Za5))
  (Za4 (Zd9 (Zb0 (Zg2) (pv 8) Za5 (Zb8 _))
    (Za8 (Zb2 (i:=9) sc_ak0.nd rfl (Or.inl rfl) (Za9 G_ab0 hr (by exact rfl) m_ab0 k_ab0 b_ab0 .nil Zc2 (Za0 (pv 0) (Za0 (Zc0 Ze0 (pv 1) Za5) (Za0 (pv 3) (Za0 (pv 4) (Za0 (pv 5) Za1))))))))
    (Za8 (Zd9 (Zb0 (Zg2) (pv 8) Za5 (Zb8 _))
    (Za8 (Zb2 (i:=9) sc_ak0.nd rfl (Or.inl rfl) (Za9 G_ac0 hr (by exact rfl) m_ac0 k_ac0 b_ac0 .nil Zc2 (Za0 (pv 0) (Za0 (Zc0 Ze0 (pv 1) Za5) (Za0 (pv 3) (Za0 (pv 6) (Za0 (pv 7) (Za0 (pv 5) Za1)))))))))
    (Za8 (Zb2 (i:=9) sc_ak0.nd rfl (Or.inl rfl) (Za9 G_ae0 hr (by exact rfl) m_ae0 k_ae0 b_ae0 .nil Zc2 (Za0 (pv 0) (Za0 (Zc0 Ze0 (pv 1) Za5) (Za0 (pv 3) (Za0 (pv 4) (Za0 (pv 6) (Za0 (pv 7) Za1))))))))))))
  (Za4 (Zb2 (i:=10) sc_ak0.nd rfl (Or.inl rfl) (Zc0 Zh1 (pe_lc (blk0 (N':=["_law_wish"]) (by decide +kernel) (by decide +kernel) rfl (by decide +kernel)) rfl (Ze4 (Zb6 Zb7 (pv 9) Za5 (fun _ _=>rfl))) (fun _ _ _ _=>(Zb5 (i:=0) (show (["_law_wish"]:List Str).Nodup from by decide +kernel) rfl (Or.inl rfl))) (fun _ _ _ _=>(Za9 G_am0 hr (by exact rfl) m_am0 k_am0 b_am0 .nil Zc2 (Za0 (pv 0) Za1)))) (Zc5 (Za0 (Za9 G_am0 hr (by exact rfl) m_am0 k_am0 b_am0 .nil Zc2 (Za0 (Zb6 Zb7 (pv 9) Za5 (fun _ _=>rfl)) Za1)) Za1))))
  (Za4 (Zd9 ((pw_or (Zb0 (op_gt) (Zd1 Zc3 (by exact rfl) m_len Ken.boot_len (Za0 (Zb6 Zb7 (pv 9) Za5 (fun _ _=>rfl)) Za1)) Za5 (Zb8 _)) (pw_or1 (Zb0 (op_gt) (Zd1 (call_maxL rfl) (by exact rfl) m_max Ken.boot_max (Za0 (pv 10) Za1)) Za5 (Zb8 _))))).pt
    (Za8 (Zb4 (Zc1 (Za0 Zb9 (Za0 (Zc5 (Za0 (pv 5) Za1)) (Za0 (pv 5) (Za0 Ze3 (Za0 (Zc5 Za1) Za1))))))))
    Zc4)
  (Za8 (Zb4 (pv 9)))))))))))),?_⟩
  have lu:us.length=L.length:=Paired.length hL
  have lpos:0 < L.length:=List.length_pos_iff.mpr hne
  have pick:∀ m:Int,∃ n:Nat,m % ((us.length:Nat):Int)=(n:Int)∧n < L.length:=fun m=>by
    have m0:=Int.emod_nonneg m (show ((us.length:Nat):Int)≠0 by omega)
    have m1:=Int.emod_lt_of_pos m (show 0 < ((us.length:Nat):Int) by omega)
    exact⟨(m % ((us.length:Nat):Int)).toNat,by omega,by omega⟩
  obtain⟨i,ei,hi⟩:=pick (mix c 1)
  obtain⟨j,ej,hj⟩:=pick (mix c 2)
  have hiu:i < us.length:=by omega
  obtain⟨li,hli,hvi⟩:=paired_get hL (List.getElem?_eq_getElem hiu)
  have oki:=G.ok li (List.mem_of_getElem? hli)
  obtain⟨pi,wi,ai,gi,oi,yi,evi,i1,i2,i3,i4,i5,i6⟩:=hvi
  refine Za7 (fun σ' H'=>σ'=[some (.ref a),some (.int c),some (.ref wa),some (.int (i:Nat)),none,none,none,none,none,none,none]∧H'=H) ?_ ?_
  rotate_left
  · intro C hC
    walk_at "rdx_1"
    refine⟨c,1,rfl,by decide,by decide,us,.inl (SqL.of ha),_,rfl,by omega,?_⟩
    rw[ei]
    exact hC _ _ ⟨rfl,rfl⟩
  rintro σ1 H1 ⟨rfl,rfl⟩
  refine Za7 (fun σ' H'=>σ'=[some (.ref a),some (.int c),some (.ref wa),some (.int (i:Nat)),some (.int (j:Nat)),none,none,none,none,none,none]∧H'=H1) ?_ ?_
  rotate_left
  · intro C hC
    walk_at "rdx_1"
    refine⟨c,2,rfl,by decide,by decide,us,.inl (SqL.of ha),_,rfl,by omega,?_⟩
    rw[ej]
    exact hC _ _ ⟨rfl,rfl⟩
  rintro σ2 H2 ⟨rfl,rfl⟩
  refine Za7 (fun σ' H'=>∃ ev ex,σ'=[some (.ref a),some (.int c),some (.ref wa),some (.int (i:Nat)),some (.int (j:Nat)),some ev,none,none,none,none,none]∧Same H2 H'∧IsT K H' ev ex∧ex.ok∧ex.parts≤3) ?_ ?_
  rotate_left
  · intro C hC
    walk_at "rdx_1"
    have c0:=Int.emod_nonneg c (show (2:Int)≠0 by decide)
    have c1:=Int.emod_lt_of_pos c (show (0:Int) < 2 by decide)
    refine⟨c,3,rfl,by decide,by decide,by decide,.inl ⟨by decide,by decide⟩,_,_,wa,ws,rfl,mix_nn _ _,by omega,by omega,by omega,hW,hw,fun r H' t e mt=>hC _ _ ⟨r,t,rfl,e,mt.1,mt.2.1.ok hw.2.2,by have:=mt.2.2.1;omega⟩⟩
  rintro σ3 H3 ⟨ev,ex,rfl,e3,hE,exo,exp⟩
  have ex40:S40 ex:=⟨exo,by omega⟩
  refine Za7 (fun σ' H'=>∃ v1 o1,σ'=[some (.ref a),some (.int c),some (.ref wa),some (.int (i:Nat)),some (.int (j:Nat)),some ev,some v1,none,none,none,none]∧Same H3 H'∧IsT K H' v1 o1∧S40 o1) ?_ ?_
  rotate_left
  · intro C hC
    walk_at "rdx_1"
    refine⟨us,SqL.of (e3 _ _ ha),_,Zd6 (List.getElem?_eq_getElem hiu),pi,evi,_,e3.sqt i1,_,rfl,c,4,rfl,by decide,by decide,wi,_,ev,yi,li.ws,ex,rfl,e3 _ _ i2,Za6 e3.keepT i3,oki.ok.w,hE,fun r t H' e hr ht=>hC _ _ ⟨r,t,rfl,e,hr,?_⟩⟩
    rcases ht with rfl | ht
    · exact ex40
    · exact oki.s40 t ht
  rintro σ4 H4 ⟨v1,o1,rfl,e4,h1,k1⟩
  refine Za7 (fun σ' H'=>∃ v2 o2,σ'=[some (.ref a),some (.int c),some (.ref wa),some (.int (i:Nat)),some (.int (j:Nat)),some ev,some v1,some v2,none,none,none]∧Same H4 H'∧IsT K H' v2 o2∧S40 o2) ?_ ?_
  rotate_left
  · intro C hC
    walk_at "rdx_1"
    have S4:=e3.trans e4
    refine⟨us,SqL.of (S4 _ _ ha),_,Zd6 (List.getElem?_eq_getElem hiu),pi,evi,_,S4.sqt i1,_,rfl,c,5,rfl,by decide,by decide,c,6,rfl,by decide,by decide,_,_,wa,ws,rfl,mix_nn _ _,by decide,by decide,by decide,S4.seq hW,hw,fun r H' t e mt=>⟨wi,_,r,yi,li.ws,t,rfl,(S4.trans e) _ _ i2,Za6 (S4.trans e).keepT i3,oki.ok.w,mt.1,fun r' t' H'' e' hr ht=>hC _ _ ⟨r',t',rfl,e.trans e',hr,?_⟩⟩⟩
    rcases ht with rfl | ht
    · exact⟨mt.2.1.ok hw.2.2,by have h:=mt.2.2.1;have:(1:Int).toNat=1:=rfl;omega⟩
    · exact oki.s40 _ ht
  rintro σ5 H5 ⟨v2,o2,rfl,e5,h2,k2⟩
  have S5:=(e3.trans e4).trans e5
  refine Za7 (fun σ' H'=>σ'=[some (.ref a),some (.int c),some (.ref wa),some (.int (i:Nat)),some (.int (j:Nat)),some ev,some v1,some v2,some (.int (c / 2 % 3)),none,none]∧H'=H5) ?_ ?_
  rotate_left
  · intro C hC
    walk_at "rdx_1"
    exact⟨⟨by decide,by decide⟩,by decide,hC _ _ ⟨rfl,rfl⟩⟩
  rintro σ6 H6 ⟨rfl,rfl⟩
  refine Za7 (fun σ' H'=>∃ lv l,σ'=[some (.ref a),some (.int c),some (.ref wa),some (.int (i:Nat)),some (.int (j:Nat)),some ev,some v1,some v2,some (.int (c / 2 % 3)),some lv,none]∧Same H6 H'∧IsLnF K H6 H' lv l∧NewL L l) ?_ ?_
  rotate_left
  · intro C hC
    walk_at "rdx_1"
    have hE6:=hE.keep (e4.trans e5).keepT
    have h16:=h1.keep e5.keepT
    refine ite2 (fun _=>⟨⟨by decide,by decide⟩,a,us,L,_,i,j,ev,ex,rfl,S5 _ _ ha,IsLns.keep S5 hL,G,hi,hj,hE6,ex40,fun v l H' e hv hn=>hC _ _ ⟨v,l,rfl,e,hv,hn⟩⟩) fun _=>ite2 (fun _=>⟨⟨by decide,by decide⟩,a,us,L,_,i,v1,v2,ev,o1,o2,ex,rfl,S5 _ _ ha,IsLns.keep S5 hL,G,hi,h16,h2,hE6,k1,k2,exo,exp,fun v l H' e hv hn=>hC _ _ ⟨v,l,rfl,e,hv,hn⟩⟩) fun _=>⟨⟨by decide,by decide⟩,a,us,L,_,i,j,v1,v2,o1,o2,rfl,S5 _ _ ha,IsLns.keep S5 hL,G,hi,hj,h16,h2,k1,k2,fun v l H' e hv hn=>hC _ _ ⟨v,l,rfl,e,hv,hn⟩⟩
  rintro σ7 H7 ⟨lv,l,rfl,e7,hlv,new⟩
  have S7:=S5.trans e7
  have hlv0:=hlv
  obtain⟨pl,wl,al,gl,ol,yl,rfl,l1,l2,l3,l4,l5,l6⟩:=hlv.ln
  have lyl:yl.length=l.ws.length:=Paired.length l3
  have wl60:=new.ok.wl
  refine Za7 (fun σ' H'=>∃ sa,σ'=[some (.ref a),some (.int c),some (.ref wa),some (.int (i:Nat)),some (.int (j:Nat)),some ev,some v1,some v2,some (.int (c / 2 % 3)),some (.ref pl),some (.ref sa)]∧Same H7 H'∧H' sa=some (.lst (((l.ws++[l.g]).map fun t=>((t.parts:Nat):Int)).map V.int))) ?_ ?_
  rotate_left
  · intro C hC
    walk_at "rdx_1"
    unfold tLC
    walk_at "rdx_1"
    refine⟨_,l1,_,rfl,wl,rfl,⟨_,SqL.of l2⟩,fun acc hacc=>?_⟩
    refine lcW_list (xs:=yl) (fun n ys H'=>Same H7 H'∧H' acc=some (.lst ys)∧ys=((l.ws.take n).map fun t=>((t.parts:Nat):Int)).map V.int) ⟨Za3 hacc _,Za2,rfl⟩ (fun n ys H' hn ⟨e,h,hy⟩=>⟨h,?_,SqL.of (e _ _ l2)⟩) (fun n x ys H' hx ⟨e,h,hy⟩ C' hC'=>?_) (fun ys H' ⟨e,h,hy⟩=>?_)
    · rw[hy,List.length_map,List.length_map,List.length_take]
      exact small1M (by omega)
    · obtain⟨t,ht,hxt⟩:=paired_get l3 hx
      have okt:=new.ok.w t (List.mem_of_getElem? ht)
      walk_at "rdx_1"
      refine⟨Ze8 (i:=0) rfl,x,t,rfl,hxt.keep e.keepT,by have:=Zd2 t;omega,fun H5 e5=>hC' _ _ (e5 _ _ h) ⟨(e.trans e5).write hacc,Za2,?_⟩⟩
      rw[hy,List.take_succ,ht,List.map_append,List.map_append];rfl
    · rw[lyl,List.take_length] at hy
      refine⟨_,e.sqt l1,_,rfl,gl,l.g,rfl,l4.keep e.keepT,by have:=new.ok.gp;have:=Zd2 l.g;omega,fun H5 e5=>⟨by decide,fun p hp=>?_⟩⟩
      have s1:=Za3 hp (HO.lst [V.int ((l.g.parts:Nat):Int)])
      have hl:ys.length=l.ws.length:=by rw[hy,List.length_map,List.length_map]
      refine⟨acc,rfl,ys,(e5.trans s1) _ _ h,_,Za2,Nat.le_of_lt (Zb3 (by rw[hl,List.length_singleton];omega)),fun p1 hp1=>hC _ _ ⟨p1,rfl,((e.trans e5).trans s1).trans (Za3 hp1 _),?_⟩⟩
      rw[Za2,hy,List.map_append,List.map_append];rfl
  rintro σ8 H8 ⟨sa,rfl,e8,hsa⟩
  have S8:=S7.trans e8
  refine Za7 (fun σ' H'=>σ'=[some (.ref a),some (.int c),some (.ref wa),some (.int (i:Nat)),some (.int (j:Nat)),some ev,some v1,some v2,some (.int (c / 2 % 3)),some (.ref pl),some (.ref sa)]∧H'=H8∧OkL9 l) ?_ ?_
  rotate_left
  · intro C hC
    walk_at "rdx_1"
    have fall:1≤sizeLine∧∀ p,H8 p=none→0≤sizeLine∧∀ p_1,upd H8 p (HO.lst [ev]) p_1=none→5≤sizeLine∧∀ p_2,upd (upd H8 p (HO.lst [ev])) p_1 (HO.lst []) p_2=none→Q (V.ref p_2) (upd (upd (upd H8 p (HO.lst [ev])) p_1 (HO.lst [])) p_2 (HO.tup [V.str (Str.ofString "wish"),V.ref p,ev,V.non,V.ref p_1])):=⟨by decide,fun p hp=>⟨by decide,fun p1 hp1=>⟨by decide,fun p2 hp2=>by
      have s1:=Za3 hp (HO.lst [ev])
      have s2:=Za3 hp1 (HO.lst [])
      have hE8:=hE.keep (((e4.trans e5).trans e7).trans e8).keepT
      have hw1:IsW K (upd H8 p (HO.lst [ev])) p [ex]:=⟨⟨[ev],Za2,.cons (hE8.keep s1.keepT) .nil⟩,List.pairwise_singleton _ _⟩
      have okln:OkLn ⟨"wish",some .wish,[ex],ex,none,[]⟩:=⟨rfl,ex40.w,by show 1≤60;decide,exo,by show ex.parts≤100;omega,Nat.zero_le _⟩
      exact q _ _ _ (((S8.trans s1).trans s2).trans (Za3 hp2 _)) (Zf4 (R:=some .wish) (on:=none) (ls:=[]) hp2 (hw1.keep s2) (hE8.keep (s1.trans s2).keepT) rfl Za2 (S8.free hp) ((S8.trans s1).free hp1)) ⟨okln,good0 (List.pairwise_singleton _ _) (by show (if ex∈[ex] then _ else _)=_;rw[if_pos (List.mem_singleton.mpr rfl)]) rfl⟩ ⟨okln,by show 1≤9;decide,fun t ht=>by rw[List.mem_singleton.mp ht];exact ex40.2,ex40.2⟩⟩⟩⟩
    refine⟨_,e8.sqt l1,_,rfl,wl,rfl,yl,.inl (SqL.of (e8 _ _ l2)),ite2 (fun _=>?_) fun hle=>⟨_,SqL.of hsa,by simp,fun m hm hmax=>ite2 (fun _=>fall) fun hm40=>hC _ _ ⟨rfl,rfl,?_⟩⟩⟩
    · rw[if_pos trivial]
      exact fall
    · have hall:∀ t∈l.ws++[l.g],t.parts≤40:=fun t ht=>by
        have:=hmax ((t.parts:Nat):Int) (List.mem_map_of_mem (f:=fun t:Tm=>((t.parts:Nat):Int)) ht)
        omega
      exact⟨new.ok,by omega,fun t ht=>hall t (List.mem_append.mpr (.inl ht)),hall l.g (List.mem_append.mpr (.inr (List.mem_singleton.mpr rfl)))⟩
  rintro σ9 H9 ⟨rfl,rfl,h9⟩
  walk_at "rdx_1"
  exact q _ l _ S8 ((hlv0.keep e8).mono S5) new h9
end
noncomputable abbrev s_bf0:Stmt:=top 15
theorem sc_bf0:FnScope ["wishes","goal","on"] ["wishes","goal","on"] (defScope s_bf0):=⟨rfl,rfl,rfl,by decide +kernel,rfl,by decide +kernel,by decide +kernel⟩
noncomputable abbrev s_ba0:Stmt:=top 16
theorem sc_ba0:FnScope ["wishes","goal","on"] ["wishes","goal","on"] (defScope s_ba0):=⟨rfl,rfl,rfl,by decide +kernel,rfl,by decide +kernel,by decide +kernel⟩
noncomputable abbrev s_as0:Stmt:=top 17
theorem sc_as0:FnScope ["wishes","goal","on"] ["wishes","goal","on"] (defScope s_as0):=⟨rfl,rfl,rfl,by decide +kernel,rfl,by decide +kernel,by decide +kernel⟩
noncomputable abbrev s_ax0:Stmt:=top 18
theorem sc_ax0:FnScope ["wishes","goal","on"] ["wishes","goal","on"] (defScope s_ax0):=⟨rfl,rfl,rfl,by decide +kernel,rfl,by decide +kernel,by decide +kernel⟩
noncomputable abbrev s_bc0:Stmt:=top 19
theorem sc_bc0:FnScope ["wishes","goal","on"] ["wishes","goal","on"] (defScope s_bc0):=⟨rfl,rfl,rfl,by decide +kernel,rfl,by decide +kernel,by decide +kernel⟩
noncomputable abbrev s_bd0:Stmt:=top 20
theorem sc_bd0:FnScope ["wishes","goal","on"] ["wishes","goal","on"] (defScope s_bd0):=⟨rfl,rfl,rfl,by decide +kernel,rfl,by decide +kernel,by decide +kernel⟩
noncomputable abbrev s_bb0:Stmt:=top 21
theorem sc_bb0:FnScope ["wishes","goal","on"] ["wishes","goal","on"] (defScope s_bb0):=⟨rfl,rfl,rfl,by decide +kernel,rfl,by decide +kernel,by decide +kernel⟩
noncomputable abbrev s_at0:Stmt:=top 22
theorem sc_at0:FnScope ["wishes","goal","on","others"] ["wishes","goal","on"] (defScope s_at0):=⟨rfl,rfl,rfl,by decide +kernel,rfl,by decide +kernel,by decide +kernel⟩
noncomputable abbrev s_az0:Stmt:=top 23
theorem sc_az0:FnScope ["wishes","goal","on"] ["wishes","goal","on"] (defScope s_az0):=⟨rfl,rfl,rfl,by decide +kernel,rfl,by decide +kernel,by decide +kernel⟩
noncomputable abbrev s_av0:Stmt:=top 25
theorem sc_av0:FnScope ["wishes","goal","on","one","other"] ["wishes","goal","on"] (defScope s_av0):=⟨rfl,rfl,rfl,by decide +kernel,rfl,by decide +kernel,by decide +kernel⟩
noncomputable abbrev s_aw0:Stmt:=top 26
theorem sc_aw0:FnScope ["wishes","goal","on","one","other"] ["wishes","goal","on"] (defScope s_aw0):=⟨rfl,rfl,rfl,by decide +kernel,rfl,by decide +kernel,by decide +kernel⟩
noncomputable abbrev s_ay0:Stmt:=top 27
theorem sc_ay0:FnScope ["wishes","goal","on"] ["wishes","goal","on"] (defScope s_ay0):=⟨rfl,rfl,rfl,by decide +kernel,rfl,by decide +kernel,by decide +kernel⟩
noncomputable abbrev s_au0:Stmt:=top 28
theorem sc_au0:FnScope ["wishes","goal","on","others"] ["wishes","goal","on"] (defScope s_au0):=⟨rfl,rfl,rfl,by decide +kernel,rfl,by decide +kernel,by decide +kernel⟩
noncomputable abbrev s_be0:Stmt:=top 29
theorem sc_be0:FnScope ["wishes","goal","on"] ["wishes","goal","on"] (defScope s_be0):=⟨rfl,rfl,rfl,by decide +kernel,rfl,by decide +kernel,by decide +kernel⟩
noncomputable abbrev s_bk0:Stmt:=top 24
theorem sc_bk0:FnScope ["on","kind"] ["on","kind"] (defScope s_bk0):=⟨rfl,rfl,rfl,by decide +kernel,rfl,by decide +kernel,by decide +kernel⟩
theorem isif_or (kk:Kd) (o:Tm):(∃ x y c,o=.nd .thn (.nd kk x y) c)∨((match o with | .nd .thn a _=>decide (a.spell.head?=some kk.str) | _=>false)=false∧∀ x y c,o≠.nd .thn (.nd kk x y) c):=by
  cases o with
  | low=>exact .inr ⟨rfl,fun _ _ _ z=>nomatch z⟩
  | ltr y=>exact .inr ⟨rfl,fun _ _ _ z=>nomatch z⟩
  | nd k a c =>
    cases k with
    | both=>exact .inr ⟨rfl,fun _ _ _ z=>nomatch z⟩
    | one=>exact .inr ⟨rfl,fun _ _ _ z=>nomatch z⟩
    | thn =>
      cases a with
      | low=>exact .inr ⟨by show decide (some ("low":Str)=some kk.str)=false;cases kk<;>decide,fun _ _ _ z=>nomatch z⟩
      | ltr y=>exact .inr ⟨by show decide (some ("letter":Str)=some kk.str)=false;cases kk<;>decide,fun _ _ _ z=>nomatch z⟩
      | nd k2 x y =>
        by_cases e:k2=kk
        · subst e
          exact .inl ⟨x,y,c,rfl⟩
        · refine .inr ⟨?_,fun x' y' c' z=>e (by cases z;rfl)⟩
          show decide ((Tm.nd k2 x y).spell.head?=some kk.str)=false
          rw[Zc7]
          show decide (some k2.str=some kk.str)=false
          revert e
          cases k2<;>cases kk<;>first | (intro z;exact absurd rfl z) | (intro _;decide)
section
variable {P:Program} {w:World} {K:PySem.W.Frag} {mg:Str→Option Value} {base:Heap}
theorem ok_bk0 {k:Nat} {f_bk0:Addr} {fd_bk0:FuncData} (F_bk0:Fun K "is_if" "is_if" s_bk0 f_bk0 fd_bk0):FnOk P w K mg base CX0 (k+1) f_bk0 fd_bk0 ["on","kind"] (sp_isif K):=by
  refine F_bk0.ok sc_bk0 (fun vs H Q E h=>?_) (fun cdv A outer s H vs Q E hr h=>?_)
  · obtain⟨v,t,x,rfl,_⟩:=h
    rfl
  obtain⟨v,t,x,rfl,hT,q⟩:=h
  refine⟨_,(Za8 (Zb4 (pe_and (Zh9 (Zg2) (Zb6 Zb7 (pv 0) Za5 (fun _ _=>rfl)) Zb9 (Zb8 _)) (pe_one (Zh9 (Zg2) (Zb6 Zb7 (Zb6 Zb7 (pv 0) Za5 (fun _ _=>rfl)) Za5 (fun _ _=>rfl)) (pv 1) (Zb8 _)))))),?_⟩
  walk_at "rdx_1"
  cases t with
  | low =>
    obtain⟨p,rfl,hs⟩:=isT_low.mp hT
    refine⟨p,rfl,_,hs,_,rfl,rfl,?_⟩
    rw[if_neg (by decide)]
    exact q
  | ltr y =>
    obtain⟨p,rfl,hs⟩:=isT_ltr.mp hT
    refine⟨p,rfl,_,hs,_,rfl,rfl,?_⟩
    rw[if_neg (by decide)]
    exact q
  | nd kd a b =>
    obtain⟨p,vx,vy,rfl,hs,hx,hy⟩:=isT_nd.mp hT
    refine⟨p,rfl,_,hs,_,rfl,rfl,?_⟩
    cases kd with
    | both=>rw[if_neg (by decide)];exact q
    | one=>rw[if_neg (by decide)];exact q
    | thn =>
      rw[if_pos (by rfl)]
      obtain⟨p2,c,xs,A2,rfl,hs2,sp⟩:=isT_head hx
      refine⟨p,rfl,_,hs,_,rfl,p2,rfl,_,hs2,_,at0 _ _,rfl,?_⟩
      have q0:Q (.bl (decide (a.spell.head?=some x))) H:=q
      rw[sp] at q0
      have:decide (V.str c=V.str x)=decide ((c :: A2).head?=some x):=decide_eq_decide.mpr ⟨fun z=>by cases z;rfl,fun z=>by cases z;rfl⟩
      rw[this]
      exact q0
theorem ok_bf0 {k:Nat} {f_bf0:Addr} {fd_bf0:FuncData} (F_bf0:Fun K "by_wish" "by_wish" s_bf0 f_bf0 fd_bf0) {f_aq0:Addr} {fd_aq0:FuncData} (G_aq0:FnOk P w K mg base CX0 k f_aq0 fd_aq0 ["wishes","statement"] (sp_among K)) (m_aq0:mg "among"=some (.ref f_aq0)) (k_aq0:PySem.W.keepIn K (.ref f_aq0)=true) (b_aq0:Binds K fd_aq0 ["wishes","statement"] []):FnOk P w K mg base CX0 (k+1) f_bf0 fd_bf0 ["wishes","goal","on"] (sp_by K .wish):=by
  refine F_bf0.ok sc_bf0 (fun vs H Q E h=>?_) (fun cdv A outer s H vs Q E hr h=>?_)
  · obtain⟨wa,gv,ov,ws,g,on,rfl,_⟩:=h
    rfl
  obtain⟨wa,gv,ov,ws,g,on,rfl,hW,hT,hO,hn,hok,gok,gp,hl,q1,q2⟩:=h
  refine⟨_,(Za8 (Zb4 (Zh7 (pt_val (Za9 G_aq0 hr (by exact rfl) m_aq0 k_aq0 b_aq0 .nil Zc2 (Za0 (pv 0) (Za0 (pv 1) Za1)))) (Zc5 Za1) Ze3))),?_⟩
  walk_at "rdx_1"
  obtain rfl:on=none:=by cases on with
    | none=>rfl
    | some o=>cases hn
  refine⟨wa,gv,ws,g,rfl,hW,hT,hok,gok,by omega,fun H1 e=>⟨_,rfl,?_⟩⟩
  by_cases h:g∈ws
  · rw[decide_eq_true h,if_pos rfl]
    exact⟨by decide,fun na hna=>ndsQ_nil (q2 [] (if_pos h)) e hna⟩
  · rw[decide_eq_false h,if_neg (by decide)]
    exact q1 (if_neg h) _ e
theorem ok_ba0 {k:Nat} {f_ba0:Addr} {fd_ba0:FuncData} (F_ba0:Fun K "by_low" "by_low" s_ba0 f_ba0 fd_ba0) {f_aq0:Addr} {fd_aq0:FuncData} (G_aq0:FnOk P w K mg base CX0 k f_aq0 fd_aq0 ["wishes","statement"] (sp_among K)) (m_aq0:mg "among"=some (.ref f_aq0)) (k_aq0:PySem.W.keepIn K (.ref f_aq0)=true) (b_aq0:Binds K fd_aq0 ["wishes","statement"] []) {aLOW:Addr} (m_LOW:mg "LOW"=some (.ref aLOW)) (t_LOW:∀ H,SqT K H aLOW [.str "low"]):FnOk P w K mg base CX0 (k+1) f_ba0 fd_ba0 ["wishes","goal","on"] (sp_by K .low):=by
  refine F_ba0.ok sc_ba0 (fun vs H Q E h=>?_) (fun cdv A outer s H vs Q E hr h=>?_)
  · obtain⟨wa,gv,ov,ws,g,on,rfl,_⟩:=h
    rfl
  obtain⟨wa,gv,ov,ws,g,on,rfl,hW,hT,hO,hn,hok,gok,gp,hl,q1,q2⟩:=h
  refine⟨_,(Za8 (Zb4 (Zh7 (pt_val (Za9 G_aq0 hr (by exact rfl) m_aq0 k_aq0 b_aq0 .nil Zc2 (Za0 (pv 0) (Za0 (pe_glob (v:=.ref aLOW) (by exact rfl) m_LOW (by exact rfl)) Za1)))) (Zc5 Za1) Ze3))),?_⟩
  walk_at "rdx_1"
  obtain rfl:on=none:=by cases on with
    | none=>rfl
    | some o=>cases hn
  refine⟨wa,.ref aLOW,ws,.low,rfl,hW,isT_low.mpr ⟨aLOW,rfl,t_LOW H⟩,hok,trivial,by omega,fun H1 e=>⟨_,rfl,?_⟩⟩
  by_cases h:Tm.low∈ws
  · rw[decide_eq_true h,if_pos rfl]
    exact⟨by decide,fun na hna=>ndsQ_nil (q2 [] (if_pos h)) e hna⟩
  · rw[decide_eq_false h,if_neg (by decide)]
    exact q1 (if_neg h) _ e
theorem ok_as0 {k:Nat} {f_as0:Addr} {fd_as0:FuncData} (F_as0:Fun K "by_both" "by_both" s_as0 f_as0 fd_as0) (m_list:mg "list"=none):FnOk P w K mg base CX0 (k+1) f_as0 fd_as0 ["wishes","goal","on"] (sp_by K .both):=by
  refine F_as0.ok sc_as0 (fun vs H Q E h=>?_) (fun cdv A outer s H vs Q E hr h=>?_)
  · obtain⟨wa,gv,ov,ws,g,on,rfl,_⟩:=h
    rfl
  obtain⟨wa,gv,ov,ws,g,on,rfl,hW,hT,hO,hn,hok,gok,gp,hl,q1,q2⟩:=h
  refine⟨_,(Za4 (Zd9 (Zb0 (op_ne) (Zb6 Zb7 (pv 1) Za5 (fun _ _=>rfl)) Zb9 (Zb8 _))
    (Za8 (Zb4 Ze3))
    Zc4)
  (Za8 (Zb4 (Zc5 (Za0 (Zc1 (Za0 (Ze9 Zd8 (by exact rfl) m_list Ken.boot_list (Za0 (pv 0) Za1)) (Za0 (Zb6 Zb7 (pv 1) Za5 (fun _ _=>rfl)) Za1))) (Za0 (Zc1 (Za0 (Ze9 Zd8 (by exact rfl) m_list Ken.boot_list (Za0 (pv 0) Za1)) (Za0 (Zb6 Zb7 (pv 1) Za5 (fun _ _=>rfl)) Za1))) Za1)))))),?_⟩
  walk_at "rdx_1"
  obtain rfl:on=none:=by cases on with
    | none=>rfl
    | some o=>cases hn
  rcases isT_or .both hT with ⟨a,b,p,vx,vy,rfl,rfl,hs,hx,hy⟩ | ⟨p,x,xs,rfl,hs,hne,hng⟩
  · have gk:=gok
    have pp:1+a.parts+b.parts≤100:=gp
    refine⟨p,rfl,_,hs,_,rfl,rfl,?_⟩
    rw[if_neg (by decide)]
    obtain⟨⟨us,ha,hU⟩,hR⟩:=id hW
    refine⟨us,.inl (SqL.of ha),fun l hl'=>?_⟩
    have s1:=Za3 hl' (HO.lst us)
    have w1:IsW K (upd H l (.lst us)) l ws:=⟨⟨us,Za2,Paired.mapP hU fun _ _ z=>z.keep s1.keepT⟩,hR⟩
    refine⟨p,rfl,_,s1.sqt hs,_,rfl,by decide,fun p1 hp1=>?_⟩
    have s2:=Za3 hp1 (HO.tup [V.ref l,vx])
    have S2:=s1.trans s2
    refine⟨us,.inl (SqL.of (S2 _ _ ha)),fun l2 hl2=>?_⟩
    have s3:=Za3 hl2 (HO.lst us)
    have S3:=S2.trans s3
    have w2:IsW K (upd (upd (upd H l (.lst us)) p1 (.tup [.ref l,vx])) l2 (.lst us)) l2 ws:=⟨⟨us,Za2,Paired.mapP hU fun _ _ z=>z.keep S3.keepT⟩,hR⟩
    refine⟨p,rfl,_,S3.sqt hs,_,rfl,by decide,fun p2 hp2=>⟨by decide,fun na hna=>?_⟩⟩
    exact ndsQ_two (q2 _ rfl) s1 w1 hl' (hx.keep s1.keepT) hp1 s3 w2 hl2 (hy.keep S3.keepT) hp2 hna
  · refine⟨p,rfl,_,hs,_,at0 _ _,Ze2 _ _,?_⟩
    rw[if_pos (by rw[decide_eq_false (fun z=>hne (by cases z;rfl))];rfl)]
    refine q1 ?_ _ (Same.refl _)
    clear hT
    cases g with
    | nd k a b=>cases k<;>first | rfl | exact absurd rfl (hng _ _)
    | _=>rfl
theorem ok_ax0 {k:Nat} {f_ax0:Addr} {fd_ax0:FuncData} (F_ax0:Fun K "by_first" "by_first" s_ax0 f_ax0 fd_ax0) (m_list:mg "list"=none):FnOk P w K mg base CX0 (k+1) f_ax0 fd_ax0 ["wishes","goal","on"] (sp_by K .first):=by
  refine F_ax0.ok sc_ax0 (fun vs H Q E h=>?_) (fun cdv A outer s H vs Q E hr h=>?_)
  · obtain⟨wa,gv,ov,ws,g,on,rfl,_⟩:=h
    rfl
  obtain⟨wa,gv,ov,ws,g,on,rfl,hW,hT,hO,hn,hok,gok,gp,hl,q1,q2⟩:=h
  refine⟨_,(Za8 (Zb4 (Zh7 (Zb0 (Zg2) (Zb6 Zb7 (pv 1) Za5 (fun _ _=>rfl)) Zb9 (Zb8 _)) (Zc5 (Za0 (Zc1 (Za0 (Ze9 Zd8 (by exact rfl) m_list Ken.boot_list (Za0 (pv 0) Za1)) (Za0 (Zb6 Zb7 (pv 1) Za5 (fun _ _=>rfl)) Za1))) Za1)) Ze3))),?_⟩
  walk_at "rdx_1"
  obtain rfl:on=none:=by cases on with
    | none=>rfl
    | some o=>cases hn
  rcases isT_or .one hT with ⟨a,b,p,vx,vy,rfl,rfl,hs,hx,hy⟩ | ⟨p,x,xs,rfl,hs,hne,hng⟩
  · have gk:=gok
    have pp:1+a.parts+b.parts≤100:=gp
    refine⟨p,rfl,_,hs,_,rfl,rfl,?_⟩
    rw[if_pos (by rfl)]
    obtain⟨⟨us,ha,hU⟩,hR⟩:=id hW
    refine⟨us,.inl (SqL.of ha),fun l hl'=>?_⟩
    have s1:=Za3 hl' (HO.lst us)
    have w1:IsW K (upd H l (.lst us)) l ws:=⟨⟨us,Za2,Paired.mapP hU fun _ _ z=>z.keep s1.keepT⟩,hR⟩
    refine⟨p,rfl,_,s1.sqt hs,_,rfl,by decide,fun p1 hp1=>⟨by decide,fun na hna=>?_⟩⟩
    exact Zh8 (q2 _ rfl) s1 w1 hl' (hx.keep s1.keepT) hp1 hna
  · refine⟨p,rfl,_,hs,_,at0 _ _,Ze2 _ _,?_⟩
    rw[if_neg (fun z=>hne (by cases z;rfl))]
    refine q1 ?_ _ (Same.refl _)
    clear hT
    cases g with
    | nd k a b=>cases k<;>first | rfl | exact absurd rfl (hng _ _)
    | _=>rfl
theorem ok_bc0 {k:Nat} {f_bc0:Addr} {fd_bc0:FuncData} (F_bc0:Fun K "by_second" "by_second" s_bc0 f_bc0 fd_bc0) (m_list:mg "list"=none):FnOk P w K mg base CX0 (k+1) f_bc0 fd_bc0 ["wishes","goal","on"] (sp_by K .second):=by
  refine F_bc0.ok sc_bc0 (fun vs H Q E h=>?_) (fun cdv A outer s H vs Q E hr h=>?_)
  · obtain⟨wa,gv,ov,ws,g,on,rfl,_⟩:=h
    rfl
  obtain⟨wa,gv,ov,ws,g,on,rfl,hW,hT,hO,hn,hok,gok,gp,hl,q1,q2⟩:=h
  refine⟨_,(Za8 (Zb4 (Zh7 (Zb0 (Zg2) (Zb6 Zb7 (pv 1) Za5 (fun _ _=>rfl)) Zb9 (Zb8 _)) (Zc5 (Za0 (Zc1 (Za0 (Ze9 Zd8 (by exact rfl) m_list Ken.boot_list (Za0 (pv 0) Za1)) (Za0 (Zb6 Zb7 (pv 1) Za5 (fun _ _=>rfl)) Za1))) Za1)) Ze3))),?_⟩
  walk_at "rdx_1"
  obtain rfl:on=none:=by cases on with
    | none=>rfl
    | some o=>cases hn
  rcases isT_or .one hT with ⟨a,b,p,vx,vy,rfl,rfl,hs,hx,hy⟩ | ⟨p,x,xs,rfl,hs,hne,hng⟩
  · have gk:=gok
    have pp:1+a.parts+b.parts≤100:=gp
    refine⟨p,rfl,_,hs,_,rfl,rfl,?_⟩
    rw[if_pos (by rfl)]
    obtain⟨⟨us,ha,hU⟩,hR⟩:=id hW
    refine⟨us,.inl (SqL.of ha),fun l hl'=>?_⟩
    have s1:=Za3 hl' (HO.lst us)
    have w1:IsW K (upd H l (.lst us)) l ws:=⟨⟨us,Za2,Paired.mapP hU fun _ _ z=>z.keep s1.keepT⟩,hR⟩
    refine⟨p,rfl,_,s1.sqt hs,_,rfl,by decide,fun p1 hp1=>⟨by decide,fun na hna=>?_⟩⟩
    exact Zh8 (q2 _ rfl) s1 w1 hl' (hy.keep s1.keepT) hp1 hna
  · refine⟨p,rfl,_,hs,_,at0 _ _,Ze2 _ _,?_⟩
    rw[if_neg (fun z=>hne (by cases z;rfl))]
    refine q1 ?_ _ (Same.refl _)
    clear hT
    cases g with
    | nd k a b=>cases k<;>first | rfl | exact absurd rfl (hng _ _)
    | _=>rfl
theorem ok_bd0 {k:Nat} {f_bd0:Addr} {fd_bd0:FuncData} (F_bd0:Fun K "by_then" "by_then" s_bd0 f_bd0 fd_bd0) {f_bm0:Addr} {fd_bm0:FuncData} (G_bm0:FnOk P w K mg base CX0 k f_bm0 fd_bm0 ["wishes","some"] (sp_more K)) (m_bm0:mg "more"=some (.ref f_bm0)) (k_bm0:PySem.W.keepIn K (.ref f_bm0)=true) (b_bm0:Binds K fd_bm0 ["wishes","some"] []):FnOk P w K mg base CX0 (k+1) f_bd0 fd_bd0 ["wishes","goal","on"] (sp_by K .thn):=by
  refine F_bd0.ok sc_bd0 (fun vs H Q E h=>?_) (fun cdv A outer s H vs Q E hr h=>?_)
  · obtain⟨wa,gv,ov,ws,g,on,rfl,_⟩:=h
    rfl
  obtain⟨wa,gv,ov,ws,g,on,rfl,hW,hT,hO,hn,hok,gok,gp,hl,q1,q2⟩:=h
  refine⟨_,(Za8 (Zb4 (Zh7 (Zb0 (Zg2) (Zb6 Zb7 (pv 1) Za5 (fun _ _=>rfl)) Zb9 (Zb8 _)) (Zc5 (Za0 (Zc1 (Za0 (Za9 G_bm0 hr (by exact rfl) m_bm0 k_bm0 b_bm0 .nil Zc2 (Za0 (pv 0) (Za0 (Zc5 (Za0 (Zb6 Zb7 (pv 1) Za5 (fun _ _=>rfl)) Za1)) Za1))) (Za0 (Zb6 Zb7 (pv 1) Za5 (fun _ _=>rfl)) Za1))) Za1)) Ze3))),?_⟩
  walk_at "rdx_1"
  obtain rfl:on=none:=by cases on with
    | none=>rfl
    | some o=>cases hn
  rcases isT_or .thn hT with ⟨a,b,p,vx,vy,rfl,rfl,hs,hx,hy⟩ | ⟨p,x,xs,rfl,hs,hne,hng⟩
  · have gk:=gok
    have pp:1+a.parts+b.parts≤100:=gp
    refine⟨p,rfl,_,hs,_,rfl,rfl,?_⟩
    rw[if_pos (by rfl)]
    refine⟨p,rfl,_,hs,_,rfl,by decide,fun l hl'=>?_⟩
    have s1:=Za3 hl' (HO.lst [vx])
    refine⟨wa,l,ws,[vx],[a],rfl,hW.keep s1,Za2,.cons (hx.keep s1.keepT) .nil,hok,fun t ht=>by rw[List.mem_singleton.mp ht];exact⟨gk.1,by omega⟩,by show ws.length+1≤1000;omega,fun r H1 e f hr'=>?_⟩
    have E:=s1.trans e
    refine⟨p,rfl,_,E.sqt hs,_,rfl,by decide,fun p1 hp1=>⟨by decide,fun na hna=>?_⟩⟩
    exact Zh8 (q2 _ rfl) E hr' (s1.free f) (hy.keep E.keepT) hp1 hna
  · refine⟨p,rfl,_,hs,_,at0 _ _,Ze2 _ _,?_⟩
    rw[if_neg (fun z=>hne (by cases z;rfl))]
    refine q1 ?_ _ (Same.refl _)
    clear hT
    cases g with
    | nd k a b=>cases k<;>first | rfl | exact absurd rfl (hng _ _)
    | _=>rfl
theorem ok_bb0 {k:Nat} {f_bb0:Addr} {fd_bb0:FuncData} (F_bb0:Fun K "by_parts" "by_parts" s_bb0 f_bb0 fd_bb0) {f_bm0:Addr} {fd_bm0:FuncData} (G_bm0:FnOk P w K mg base CX0 k f_bm0 fd_bm0 ["wishes","some"] (sp_more K)) (m_bm0:mg "more"=some (.ref f_bm0)) (k_bm0:PySem.W.keepIn K (.ref f_bm0)=true) (b_bm0:Binds K fd_bm0 ["wishes","some"] []) {f_br0:Addr} {fd_br0:FuncData} (G_br0:FnOk P w K mg base CX0 k f_br0 fd_br0 ["wishes","statement"] (sp_without K)) (m_br0:mg "without"=some (.ref f_br0)) (k_br0:PySem.W.keepIn K (.ref f_br0)=true) (b_br0:Binds K fd_br0 ["wishes","statement"] []):FnOk P w K mg base CX0 (k+1) f_bb0 fd_bb0 ["wishes","goal","on"] (sp_by K .parts):=by
  refine F_bb0.ok sc_bb0 (fun vs H Q E h=>?_) (fun cdv A outer s H vs Q E hr h=>?_)
  · obtain⟨wa,gv,ov,ws,g,on,rfl,_⟩:=h
    rfl
  obtain⟨wa,gv,ov,ws,g,on,rfl,hW,hT,hO,hn,hok,gok,gp,hl,q1,q2⟩:=h
  refine⟨_,(Za4 (Zd9 (Zb0 (op_ne) (Zb6 Zb7 (pv 2) Za5 (fun _ _=>rfl)) Zb9 (Zb8 _))
    (Za8 (Zb4 Ze3))
    Zc4)
  (Za8 (Zb4 (Zc5 (Za0 (Zc1 (Za0 (Za9 G_bm0 hr (by exact rfl) m_bm0 k_bm0 b_bm0 .nil Zc2 (Za0 (Za9 G_br0 hr (by exact rfl) m_br0 k_br0 b_br0 .nil Zc2 (Za0 (pv 0) (Za0 (pv 2) Za1))) (Za0 (Zc5 (Za0 (Zb6 Zb7 (pv 2) Za5 (fun _ _=>rfl)) (Za0 (Zb6 Zb7 (pv 2) Za5 (fun _ _=>rfl)) Za1))) Za1))) (Za0 (pv 1) Za1))) Za1))))),?_⟩
  walk_at "rdx_1"
  obtain⟨o,rfl⟩:∃ o,on=some o:=by cases on with
    | none=>cases hn
    | some o=>exact⟨o,rfl⟩
  obtain⟨oT,om⟩:=hO
  have oo:=hok o om
  have orw:(rem ws o).length≤900:=Nat.le_trans (List.length_filter_le _ _) hl
  have okr:Okw (rem ws o):=fun t ht=>hok t (mem_rem.mp ht).1
  rcases isT_or .both oT with ⟨a,b,p,vx,vy,rfl,rfl,hs,hx,hy⟩ | ⟨p,x,xs,rfl,hs,hne,hng⟩
  · have gk:=oo.1
    have pp:1+a.parts+b.parts≤100:=oo.2
    refine⟨p,rfl,_,hs,_,rfl,rfl,?_⟩
    rw[if_neg (by decide)]
    refine⟨wa,.ref p,ws,_,rfl,hW,oT,hok,om,by omega,fun r H1 e f hr'=>?_⟩
    refine⟨p,rfl,_,e.sqt hs,_,rfl,p,rfl,_,e.sqt hs,_,rfl,by decide,fun l hl'=>?_⟩
    have s1:=Za3 hl' (HO.lst [vx,vy])
    have E1:=e.trans s1
    refine⟨r,l,_,[vx,vy],[a,b],rfl,hr'.keep s1,Za2,.cons (hx.keep E1.keepT) (.cons (hy.keep E1.keepT) .nil),okr,fun t ht=>?_,by show _+2≤1000;omega,fun r2 H2 e2 f2 hr2=>⟨by decide,fun p1 hp1=>⟨by decide,fun na hna=>?_⟩⟩⟩
    · rcases List.mem_cons.mp ht with z | z
      · rw[z];exact⟨gk.1,by omega⟩
      · rw[List.mem_singleton.mp z];exact⟨gk.2,by omega⟩
    · exact Zh8 (q2 _ rfl) (E1.trans e2) hr2 (E1.free f2) (hT.keep (E1.trans e2).keepT) hp1 hna
  · refine⟨p,rfl,_,hs,_,at0 _ _,Ze2 _ _,?_⟩
    rw[if_pos (by rw[decide_eq_false (fun z=>hne (by cases z;rfl))];rfl)]
    refine q1 ?_ _ (Same.refl _)
    clear oT om oo orw okr
    cases o with
    | nd k a b=>cases k<;>first | rfl | exact absurd rfl (hng _ _)
    | _=>rfl
theorem ok_at0 {k:Nat} {f_at0:Addr} {fd_at0:FuncData} (F_at0:Fun K "by_cases" "by_cases" s_at0 f_at0 fd_at0) {f_bm0:Addr} {fd_bm0:FuncData} (G_bm0:FnOk P w K mg base CX0 k f_bm0 fd_bm0 ["wishes","some"] (sp_more K)) (m_bm0:mg "more"=some (.ref f_bm0)) (k_bm0:PySem.W.keepIn K (.ref f_bm0)=true) (b_bm0:Binds K fd_bm0 ["wishes","some"] []) {f_br0:Addr} {fd_br0:FuncData} (G_br0:FnOk P w K mg base CX0 k f_br0 fd_br0 ["wishes","statement"] (sp_without K)) (m_br0:mg "without"=some (.ref f_br0)) (k_br0:PySem.W.keepIn K (.ref f_br0)=true) (b_br0:Binds K fd_br0 ["wishes","statement"] []):FnOk P w K mg base CX0 (k+1) f_at0 fd_at0 ["wishes","goal","on"] (sp_by K .cases):=by
  refine F_at0.ok sc_at0 (fun vs H Q E h=>?_) (fun cdv A outer s H vs Q E hr h=>?_)
  · obtain⟨wa,gv,ov,ws,g,on,rfl,_⟩:=h
    rfl
  obtain⟨wa,gv,ov,ws,g,on,rfl,hW,hT,hO,hn,hok,gok,gp,hl,q1,q2⟩:=h
  refine⟨_,(Za4 (Zd9 (Zb0 (op_ne) (Zb6 Zb7 (pv 2) Za5 (fun _ _=>rfl)) Zb9 (Zb8 _))
    (Za8 (Zb4 Ze3))
    Zc4)
  (Za4 (Zb2 (i:=3) sc_at0.nd rfl (Or.inl rfl) (Za9 G_br0 hr (by exact rfl) m_br0 k_br0 b_br0 .nil Zc2 (Za0 (pv 0) (Za0 (pv 2) Za1))))
  (Za8 (Zb4 (Zc5 (Za0 (Zc1 (Za0 (Za9 G_bm0 hr (by exact rfl) m_bm0 k_bm0 b_bm0 .nil Zc2 (Za0 (pv 3) (Za0 (Zc5 (Za0 (Zb6 Zb7 (pv 2) Za5 (fun _ _=>rfl)) Za1)) Za1))) (Za0 (pv 1) Za1))) (Za0 (Zc1 (Za0 (Za9 G_bm0 hr (by exact rfl) m_bm0 k_bm0 b_bm0 .nil Zc2 (Za0 (pv 3) (Za0 (Zc5 (Za0 (Zb6 Zb7 (pv 2) Za5 (fun _ _=>rfl)) Za1)) Za1))) (Za0 (pv 1) Za1))) Za1))))))),?_⟩
  walk_at "rdx_1"
  obtain⟨o,rfl⟩:∃ o,on=some o:=by cases on with
    | none=>cases hn
    | some o=>exact⟨o,rfl⟩
  obtain⟨oT,om⟩:=hO
  have oo:=hok o om
  have orw:(rem ws o).length≤900:=Nat.le_trans (List.length_filter_le _ _) hl
  have okr:Okw (rem ws o):=fun t ht=>hok t (mem_rem.mp ht).1
  rcases isT_or .one oT with ⟨a,b,p,vx,vy,rfl,rfl,hs,hx,hy⟩ | ⟨p,x,xs,rfl,hs,hne,hng⟩
  · have gk:=oo.1
    have pp:1+a.parts+b.parts≤100:=oo.2
    refine⟨p,rfl,_,hs,_,rfl,rfl,?_⟩
    rw[if_neg (by decide)]
    refine⟨wa,.ref p,ws,_,rfl,hW,oT,hok,om,by omega,fun r H1 e f hr'=>?_⟩
    refine⟨p,rfl,_,e.sqt hs,_,rfl,by decide,fun l hl'=>?_⟩
    have s1:=Za3 hl' (HO.lst [vx])
    have E1:=e.trans s1
    refine⟨r,l,_,[vx],[a],rfl,hr'.keep s1,Za2,.cons (hx.keep E1.keepT) .nil,okr,fun t ht=>by rw[List.mem_singleton.mp ht];exact⟨gk.1,by omega⟩,by show _+1≤1000;omega,fun r2 H2 e2 f2 hr2=>⟨by decide,fun p1 hp1=>?_⟩⟩
    have E2:=E1.trans e2
    have s3:=Za3 hp1 (HO.tup [V.ref r2,gv])
    have E3:=E2.trans s3
    refine⟨p,rfl,_,E3.sqt hs,_,rfl,by decide,fun l2 hl2=>?_⟩
    have s4:=Za3 hl2 (HO.lst [vy])
    have E4:=E3.trans s4
    refine⟨r,l2,_,[vy],[b],rfl,hr'.keep (s1.trans (e2.trans (s3.trans s4))),Za2,.cons (hy.keep E4.keepT) .nil,okr,fun t ht=>by rw[List.mem_singleton.mp ht];exact⟨gk.2,by omega⟩,by show _+1≤1000;omega,fun r3 H5 e5 f5 hr3=>⟨by decide,fun p2 hp2=>⟨by decide,fun na hna=>?_⟩⟩⟩
    exact ndsQ_two (q2 _ rfl) E2 hr2 (E1.free f2) (hT.keep E2.keepT) hp1 (s4.trans e5) hr3 (s4.free f5) (hT.keep (E4.trans e5).keepT) hp2 hna
  · refine⟨p,rfl,_,hs,_,at0 _ _,Ze2 _ _,?_⟩
    rw[if_pos (by rw[decide_eq_false (fun z=>hne (by cases z;rfl))];rfl)]
    refine q1 ?_ _ (Same.refl _)
    clear oT om oo orw okr
    cases o with
    | nd k a b=>cases k<;>first | rfl | exact absurd rfl (hng _ _)
    | _=>rfl
theorem ok_az0 {k:Nat} {f_az0:Addr} {fd_az0:FuncData} (F_az0:Fun K "by_known" "by_known" s_az0 f_az0 fd_az0) {f_aq0:Addr} {fd_aq0:FuncData} (G_aq0:FnOk P w K mg base CX0 k f_aq0 fd_aq0 ["wishes","statement"] (sp_among K)) (m_aq0:mg "among"=some (.ref f_aq0)) (k_aq0:PySem.W.keepIn K (.ref f_aq0)=true) (b_aq0:Binds K fd_aq0 ["wishes","statement"] []) {f_bm0:Addr} {fd_bm0:FuncData} (G_bm0:FnOk P w K mg base CX0 k f_bm0 fd_bm0 ["wishes","some"] (sp_more K)) (m_bm0:mg "more"=some (.ref f_bm0)) (k_bm0:PySem.W.keepIn K (.ref f_bm0)=true) (b_bm0:Binds K fd_bm0 ["wishes","some"] []) {f_br0:Addr} {fd_br0:FuncData} (G_br0:FnOk P w K mg base CX0 k f_br0 fd_br0 ["wishes","statement"] (sp_without K)) (m_br0:mg "without"=some (.ref f_br0)) (k_br0:PySem.W.keepIn K (.ref f_br0)=true) (b_br0:Binds K fd_br0 ["wishes","statement"] []):FnOk P w K mg base CX0 (k+1) f_az0 fd_az0 ["wishes","goal","on"] (sp_by K .known):=by
  refine F_az0.ok sc_az0 (fun vs H Q E h=>?_) (fun cdv A outer s H vs Q E hr h=>?_)
  · obtain⟨wa,gv,ov,ws,g,on,rfl,_⟩:=h
    rfl
  obtain⟨wa,gv,ov,ws,g,on,rfl,hW,hT,hO,hn,hok,gok,gp,hl,q1,q2⟩:=h
  refine⟨_,(Za4 (Zd9 ((pw_or (Zb0 (op_ne) (Zb6 Zb7 (pv 2) Za5 (fun _ _=>rfl)) Zb9 (Zb8 _)) (pw_or1 (pt_not (pt_val (Za9 G_aq0 hr (by exact rfl) m_aq0 k_aq0 b_aq0 .nil Zc2 (Za0 (pv 0) (Za0 (Zb6 Zb7 (pv 2) Za5 (fun _ _=>rfl)) Za1)))))))).pt
    (Za8 (Zb4 Ze3))
    Zc4)
  (Za8 (Zb4 (Zc5 (Za0 (Zc1 (Za0 (Za9 G_bm0 hr (by exact rfl) m_bm0 k_bm0 b_bm0 .nil Zc2 (Za0 (Za9 G_br0 hr (by exact rfl) m_br0 k_br0 b_br0 .nil Zc2 (Za0 (pv 0) (Za0 (pv 2) Za1))) (Za0 (Zc5 (Za0 (Zb6 Zb7 (pv 2) Za5 (fun _ _=>rfl)) Za1)) Za1))) (Za0 (pv 1) Za1))) Za1))))),?_⟩
  walk_at "rdx_1"
  obtain⟨o,rfl⟩:∃ o,on=some o:=by cases on with
    | none=>cases hn
    | some o=>exact⟨o,rfl⟩
  obtain⟨oT,om⟩:=hO
  have oo:=hok o om
  have orw:(rem ws o).length≤900:=Nat.le_trans (List.length_filter_le _ _) hl
  have okr:Okw (rem ws o):=fun t ht=>hok t (mem_rem.mp ht).1
  rcases isT_or .thn oT with ⟨a,b,p,vx,vy,rfl,rfl,hs,hx,hy⟩ | ⟨p,x,xs,rfl,hs,hne,hng⟩
  · have gk:=oo.1
    have pp:1+a.parts+b.parts≤100:=oo.2
    refine⟨p,rfl,_,hs,_,rfl,rfl,?_⟩
    rw[if_neg (by decide)]
    refine⟨p,rfl,_,hs,_,rfl,wa,vx,ws,a,rfl,hW,hx,hok,gk.1,by omega,fun H0 e0=>⟨_,rfl,?_⟩⟩
    by_cases ha:a∈ws
    · rw[decide_eq_true ha,if_neg (by decide)]
      refine⟨wa,.ref p,ws,_,rfl,hW.keep e0,oT.keep e0.keepT,hok,om,by omega,fun r H1 e1 f hr'=>?_⟩
      have e:=e0.trans e1
      refine⟨p,rfl,_,e.sqt hs,_,rfl,by decide,fun l hl'=>?_⟩
      have s1:=Za3 hl' (HO.lst [vy])
      have E1:=e.trans s1
      refine⟨r,l,_,[vy],[b],rfl,hr'.keep s1,Za2,.cons (hy.keep E1.keepT) .nil,okr,fun t ht=>by rw[List.mem_singleton.mp ht];exact⟨gk.2,by omega⟩,by show _+1≤1000;omega,fun r2 H2 e2 f2 hr2=>⟨by decide,fun p1 hp1=>⟨by decide,fun na hna=>?_⟩⟩⟩
      exact Zh8 (q2 _ (if_pos ha)) (E1.trans e2) hr2 (E1.free f2) (hT.keep (E1.trans e2).keepT) hp1 hna
    · rw[decide_eq_false ha,if_pos (by decide)]
      exact q1 (if_neg ha) _ e0
  · refine⟨p,rfl,_,hs,_,at0 _ _,Ze2 _ _,?_⟩
    rw[if_pos (by rw[decide_eq_false (fun z=>hne (by cases z;rfl))];rfl)]
    rw[if_pos trivial]
    refine q1 ?_ _ (Same.refl _)
    clear oT om oo orw okr
    cases o with
    | nd k a b=>cases k<;>first | rfl | exact absurd rfl (hng _ _)
    | _=>rfl
theorem ok_av0 {k:Nat} {f_av0:Addr} {fd_av0:FuncData} (F_av0:Fun K "by_curried" "by_curried" s_av0 f_av0 fd_av0) {f_bk0:Addr} {fd_bk0:FuncData} (G_bk0:FnOk P w K mg base CX0 k f_bk0 fd_bk0 ["on","kind"] (sp_isif K)) (m_bk0:mg "is_if"=some (.ref f_bk0)) (k_bk0:PySem.W.keepIn K (.ref f_bk0)=true) (b_bk0:Binds K fd_bk0 ["on","kind"] []) {f_bm0:Addr} {fd_bm0:FuncData} (G_bm0:FnOk P w K mg base CX0 k f_bm0 fd_bm0 ["wishes","some"] (sp_more K)) (m_bm0:mg "more"=some (.ref f_bm0)) (k_bm0:PySem.W.keepIn K (.ref f_bm0)=true) (b_bm0:Binds K fd_bm0 ["wishes","some"] []) {f_br0:Addr} {fd_br0:FuncData} (G_br0:FnOk P w K mg base CX0 k f_br0 fd_br0 ["wishes","statement"] (sp_without K)) (m_br0:mg "without"=some (.ref f_br0)) (k_br0:PySem.W.keepIn K (.ref f_br0)=true) (b_br0:Binds K fd_br0 ["wishes","statement"] []):FnOk P w K mg base CX0 (k+1) f_av0 fd_av0 ["wishes","goal","on"] (sp_by K .curried):=by
  refine F_av0.ok sc_av0 (fun vs H Q E h=>?_) (fun cdv A outer s H vs Q E hr h=>?_)
  · obtain⟨wa,gv,ov,ws,g,on,rfl,_⟩:=h
    rfl
  obtain⟨wa,gv,ov,ws,g,on,rfl,hW,hT,hO,hn,hok,gok,gp,hl,q1,q2⟩:=h
  refine⟨_,(Za4 (Zd9 (pt_not (pt_val (Za9 G_bk0 hr (by exact rfl) m_bk0 k_bk0 b_bk0 .nil Zc2 (Za0 (pv 2) (Za0 Zb9 Za1)))))
    (Za8 (Zb4 Ze3))
    Zc4)
  (Za4 (ps_asg (Zh2 sl_tup (Zb6 Zb7 (pv 2) Za5 (fun _ _=>rfl)) (po_some Za5) po_none) (pg_tup rfl (Zc9 (Zb5 (i:=3) sc_av0.nd rfl (Or.inl rfl)) (Zc9 (Zb5 (i:=4) sc_av0.nd rfl (Or.inl rfl)) Zh4))))
  (Za8 (Zb4 (Zc5 (Za0 (Zc1 (Za0 (Za9 G_bm0 hr (by exact rfl) m_bm0 k_bm0 b_bm0 .nil Zc2 (Za0 (Za9 G_br0 hr (by exact rfl) m_br0 k_br0 b_br0 .nil Zc2 (Za0 (pv 0) (Za0 (pv 2) Za1))) (Za0 (Zc5 (Za0 (Zc1 (Za0 Zb9 (Za0 (pv 3) (Za0 (Zc1 (Za0 Zb9 (Za0 (pv 4) (Za0 (Zb6 Zb7 (pv 2) Za5 (fun _ _=>rfl)) Za1)))) Za1)))) Za1)) Za1))) (Za0 (pv 1) Za1))) Za1)))))),?_⟩
  walk_at "rdx_1"
  obtain⟨o,rfl⟩:∃ o,on=some o:=by cases on with
    | none=>cases hn
    | some o=>exact⟨o,rfl⟩
  obtain⟨oT,om⟩:=hO
  have oo:=hok o om
  have orw:(rem ws o).length≤900:=Nat.le_trans (List.length_filter_le _ _) hl
  have okr:Okw (rem ws o):=fun t ht=>hok t (mem_rem.mp ht).1
  refine⟨ov,o,_,rfl,oT,_,rfl,?_⟩
  rcases isif_or .both o with ⟨x,y,c,rfl⟩ | ⟨hf,hng⟩
  · obtain⟨p,va,vc,rfl,hs,ha,hc⟩:=isT_nd.mp oT
    have gk:=oo.1
    have pp:1+(1+x.parts+y.parts)+c.parts≤100:=oo.2
    obtain⟨p2,vx,vy,rfl,hs2,hx,hy⟩:=isT_nd.mp ha
    rw[if_neg (by show ¬ (!decide (some ("both":Str)=some ("both":Str)))=true;decide)]
    refine⟨p,rfl,_,hs,_,rfl,p2,_,rfl,hs2,fun z=>absurd z.1 (show ¬ (HT.sIx 3 0 (some 1)=0) by decide),fun p3 hp3=>?_⟩
    have s0:=Za3 hp3 (HO.tup (cutV [V.str Kd.both.str,vx,vy] (some 1) none))
    have ct:cutV [V.str Kd.both.str,vx,vy] (some 1) none=[vx,vy]:=cut_tail (by exact Nat.le_add_left _ _)
    refine⟨p3,rfl,_,.inl (.inl Za2),by rw[ct];rfl,vx,[vy],ct,vy,[],rfl,rfl,?_⟩
    refine⟨wa,.ref p,ws,_,rfl,hW.keep s0,oT.keep s0.keepT,hok,om,by omega,fun r H1 e1 f hr'=>?_⟩
    have e:=s0.trans e1
    have fr:=s0.free f
    refine⟨p,rfl,_,e.sqt hs,_,rfl,by decide,fun n1 hn1=>⟨by decide,fun n2 hn2=>⟨by decide,fun l hl'=>?_⟩⟩⟩
    have t1:=Za3 hn1 (HO.tup [V.str (Str.ofString "then"),vy,vc])
    have t2:=Za3 hn2 (HO.tup [V.str (Str.ofString "then"),vx,V.ref n1])
    have t3:=Za3 hl' (HO.lst [V.ref n2])
    have T3:=t1.trans (t2.trans t3)
    have E1:=e.trans T3
    refine⟨r,l,_,[V.ref n2],[.nd .thn x (.nd .thn y c)],rfl,hr'.keep T3,Za2,.cons (isT_nd.mpr ⟨n2,vx,.ref n1,rfl,t3.sqt (.inl (.inl Za2)),hx.keep E1.keepT,isT_nd.mpr ⟨n1,vy,vc,rfl,(t2.trans t3).sqt (.inl (.inl Za2)),hy.keep E1.keepT,hc.keep E1.keepT⟩⟩) .nil,okr,fun t ht=>by rw[List.mem_singleton.mp ht];exact⟨⟨gk.1.1,gk.1.2,gk.2⟩,by show 1+x.parts+(1+y.parts+c.parts)≤100;omega⟩,by show _+1≤1000;omega,fun r2 H2 e2 f2 hr2=>⟨by decide,fun p1 hp1=>⟨by decide,fun na hna=>?_⟩⟩⟩
    exact Zh8 (q2 _ rfl) (E1.trans e2) hr2 (E1.free f2) (hT.keep (E1.trans e2).keepT) hp1 hna
  · refine (if_pos (show (!_)=true from congrArg (!·) hf)).mpr (q1 ?_ _ (Same.refl _))
    clear oT om oo orw okr hf
    cases o with
    | nd k a c =>
      cases k with
      | thn =>
        cases a with
        | nd k2 x y=>cases k2<;>first | rfl | exact absurd rfl (hng _ _ _)
        | _=>rfl
      | _=>rfl
    | _=>rfl
theorem ok_aw0 {k:Nat} {f_aw0:Addr} {fd_aw0:FuncData} (F_aw0:Fun K "by_either" "by_either" s_aw0 f_aw0 fd_aw0) {f_bk0:Addr} {fd_bk0:FuncData} (G_bk0:FnOk P w K mg base CX0 k f_bk0 fd_bk0 ["on","kind"] (sp_isif K)) (m_bk0:mg "is_if"=some (.ref f_bk0)) (k_bk0:PySem.W.keepIn K (.ref f_bk0)=true) (b_bk0:Binds K fd_bk0 ["on","kind"] []) {f_bm0:Addr} {fd_bm0:FuncData} (G_bm0:FnOk P w K mg base CX0 k f_bm0 fd_bm0 ["wishes","some"] (sp_more K)) (m_bm0:mg "more"=some (.ref f_bm0)) (k_bm0:PySem.W.keepIn K (.ref f_bm0)=true) (b_bm0:Binds K fd_bm0 ["wishes","some"] []) {f_br0:Addr} {fd_br0:FuncData} (G_br0:FnOk P w K mg base CX0 k f_br0 fd_br0 ["wishes","statement"] (sp_without K)) (m_br0:mg "without"=some (.ref f_br0)) (k_br0:PySem.W.keepIn K (.ref f_br0)=true) (b_br0:Binds K fd_br0 ["wishes","statement"] []):FnOk P w K mg base CX0 (k+1) f_aw0 fd_aw0 ["wishes","goal","on"] (sp_by K .either):=by
  refine F_aw0.ok sc_aw0 (fun vs H Q E h=>?_) (fun cdv A outer s H vs Q E hr h=>?_)
  · obtain⟨wa,gv,ov,ws,g,on,rfl,_⟩:=h
    rfl
  obtain⟨wa,gv,ov,ws,g,on,rfl,hW,hT,hO,hn,hok,gok,gp,hl,q1,q2⟩:=h
  refine⟨_,(Za4 (Zd9 (pt_not (pt_val (Za9 G_bk0 hr (by exact rfl) m_bk0 k_bk0 b_bk0 .nil Zc2 (Za0 (pv 2) (Za0 Zb9 Za1)))))
    (Za8 (Zb4 Ze3))
    Zc4)
  (Za4 (ps_asg (Zh2 sl_tup (Zb6 Zb7 (pv 2) Za5 (fun _ _=>rfl)) (po_some Za5) po_none) (pg_tup rfl (Zc9 (Zb5 (i:=3) sc_aw0.nd rfl (Or.inl rfl)) (Zc9 (Zb5 (i:=4) sc_aw0.nd rfl (Or.inl rfl)) Zh4))))
  (Za8 (Zb4 (Zc5 (Za0 (Zc1 (Za0 (Za9 G_bm0 hr (by exact rfl) m_bm0 k_bm0 b_bm0 .nil Zc2 (Za0 (Za9 G_br0 hr (by exact rfl) m_br0 k_br0 b_br0 .nil Zc2 (Za0 (pv 0) (Za0 (pv 2) Za1))) (Za0 (Zc5 (Za0 (Zc1 (Za0 Zb9 (Za0 (pv 3) (Za0 (Zb6 Zb7 (pv 2) Za5 (fun _ _=>rfl)) Za1)))) (Za0 (Zc1 (Za0 Zb9 (Za0 (pv 4) (Za0 (Zb6 Zb7 (pv 2) Za5 (fun _ _=>rfl)) Za1)))) Za1))) Za1))) (Za0 (pv 1) Za1))) Za1)))))),?_⟩
  walk_at "rdx_1"
  obtain⟨o,rfl⟩:∃ o,on=some o:=by cases on with
    | none=>cases hn
    | some o=>exact⟨o,rfl⟩
  obtain⟨oT,om⟩:=hO
  have oo:=hok o om
  have orw:(rem ws o).length≤900:=Nat.le_trans (List.length_filter_le _ _) hl
  have okr:Okw (rem ws o):=fun t ht=>hok t (mem_rem.mp ht).1
  refine⟨ov,o,_,rfl,oT,_,rfl,?_⟩
  rcases isif_or .one o with ⟨x,y,c,rfl⟩ | ⟨hf,hng⟩
  · obtain⟨p,va,vc,rfl,hs,ha,hc⟩:=isT_nd.mp oT
    have gk:=oo.1
    have pp:1+(1+x.parts+y.parts)+c.parts≤100:=oo.2
    obtain⟨p2,vx,vy,rfl,hs2,hx,hy⟩:=isT_nd.mp ha
    rw[if_neg (by show ¬ (!decide (some ("one":Str)=some ("one":Str)))=true;decide)]
    refine⟨p,rfl,_,hs,_,rfl,p2,_,rfl,hs2,fun z=>absurd z.1 (show ¬ (HT.sIx 3 0 (some 1)=0) by decide),fun p3 hp3=>?_⟩
    have s0:=Za3 hp3 (HO.tup (cutV [V.str Kd.one.str,vx,vy] (some 1) none))
    have ct:cutV [V.str Kd.one.str,vx,vy] (some 1) none=[vx,vy]:=cut_tail (by exact Nat.le_add_left _ _)
    refine⟨p3,rfl,_,.inl (.inl Za2),by rw[ct];rfl,vx,[vy],ct,vy,[],rfl,rfl,?_⟩
    refine⟨wa,.ref p,ws,_,rfl,hW.keep s0,oT.keep s0.keepT,hok,om,by omega,fun r H1 e1 f hr'=>?_⟩
    have e:=s0.trans e1
    have fr:=s0.free f
    refine⟨p,rfl,_,e.sqt hs,_,rfl,by decide,fun n1 hn1=>?_⟩
    have t1:=Za3 hn1 (HO.tup [V.str (Str.ofString "then"),vx,vc])
    refine⟨p,rfl,_,(e.trans t1).sqt hs,_,rfl,by decide,fun n2 hn2=>⟨by decide,fun l hl'=>?_⟩⟩
    have t2:=Za3 hn2 (HO.tup [V.str (Str.ofString "then"),vy,vc])
    have t3:=Za3 hl' (HO.lst [V.ref n1,V.ref n2])
    have T3:=t1.trans (t2.trans t3)
    have E1:=e.trans T3
    refine⟨r,l,_,[V.ref n1,V.ref n2],[.nd .thn x c,.nd .thn y c],rfl,hr'.keep T3,Za2,.cons (isT_nd.mpr ⟨n1,vx,vc,rfl,(t2.trans t3).sqt (.inl (.inl Za2)),hx.keep E1.keepT,hc.keep E1.keepT⟩) (.cons (isT_nd.mpr ⟨n2,vy,vc,rfl,t3.sqt (.inl (.inl Za2)),hy.keep E1.keepT,hc.keep E1.keepT⟩) .nil),okr,fun t ht=>?_,by show _+2≤1000;omega,fun r2 H2 e2 f2 hr2=>⟨by decide,fun p1 hp1=>⟨by decide,fun na hna=>?_⟩⟩⟩
    · rcases List.mem_cons.mp ht with z | z
      · rw[z];exact⟨⟨gk.1.1,gk.2⟩,by show 1+x.parts+c.parts≤100;omega⟩
      · rw[List.mem_singleton.mp z];exact⟨⟨gk.1.2,gk.2⟩,by show 1+y.parts+c.parts≤100;omega⟩
    · exact Zh8 (q2 _ rfl) (E1.trans e2) hr2 (E1.free f2) (hT.keep (E1.trans e2).keepT) hp1 hna
  · refine (if_pos (show (!_)=true from congrArg (!·) hf)).mpr (q1 ?_ _ (Same.refl _))
    clear oT om oo orw okr hf
    cases o with
    | nd k a c =>
      cases k with
      | thn =>
        cases a with
        | nd k2 x y=>cases k2<;>first | rfl | exact absurd rfl (hng _ _ _)
        | _=>rfl
      | _=>rfl
    | _=>rfl
theorem ok_ay0 {k:Nat} {f_ay0:Addr} {fd_ay0:FuncData} (F_ay0:Fun K "by_idle" "by_idle" s_ay0 f_ay0 fd_ay0) {f_bk0:Addr} {fd_bk0:FuncData} (G_bk0:FnOk P w K mg base CX0 k f_bk0 fd_bk0 ["on","kind"] (sp_isif K)) (m_bk0:mg "is_if"=some (.ref f_bk0)) (k_bk0:PySem.W.keepIn K (.ref f_bk0)=true) (b_bk0:Binds K fd_bk0 ["on","kind"] []) {f_br0:Addr} {fd_br0:FuncData} (G_br0:FnOk P w K mg base CX0 k f_br0 fd_br0 ["wishes","statement"] (sp_without K)) (m_br0:mg "without"=some (.ref f_br0)) (k_br0:PySem.W.keepIn K (.ref f_br0)=true) (b_br0:Binds K fd_br0 ["wishes","statement"] []):FnOk P w K mg base CX0 (k+1) f_ay0 fd_ay0 ["wishes","goal","on"] (sp_by K .idle):=by
  refine F_ay0.ok sc_ay0 (fun vs H Q E h=>?_) (fun cdv A outer s H vs Q E hr h=>?_)
  · obtain⟨wa,gv,ov,ws,g,on,rfl,_⟩:=h
    rfl
  obtain⟨wa,gv,ov,ws,g,on,rfl,hW,hT,hO,hn,hok,gok,gp,hl,q1,q2⟩:=h
  refine⟨_,(Za8 (Zb4 (Zh7 (pt_val (Za9 G_bk0 hr (by exact rfl) m_bk0 k_bk0 b_bk0 .nil Zc2 (Za0 (pv 2) (Za0 Zb9 Za1)))) (Zc5 (Za0 (Zc1 (Za0 (Za9 G_br0 hr (by exact rfl) m_br0 k_br0 b_br0 .nil Zc2 (Za0 (pv 0) (Za0 (pv 2) Za1))) (Za0 (pv 1) Za1))) Za1)) Ze3))),?_⟩
  walk_at "rdx_1"
  obtain⟨o,rfl⟩:∃ o,on=some o:=by cases on with
    | none=>cases hn
    | some o=>exact⟨o,rfl⟩
  obtain⟨oT,om⟩:=hO
  have oo:=hok o om
  have orw:(rem ws o).length≤900:=Nat.le_trans (List.length_filter_le _ _) hl
  have okr:Okw (rem ws o):=fun t ht=>hok t (mem_rem.mp ht).1
  refine⟨ov,o,_,rfl,oT,_,rfl,?_⟩
  cases o with
  | low=>rw[if_neg (by show ¬ false=true;decide)];exact q1 rfl _ (Same.refl _)
  | ltr y=>rw[if_neg (by show ¬ false=true;decide)];exact q1 rfl _ (Same.refl _)
  | nd kd a c =>
    cases kd with
    | both=>rw[if_neg (by show ¬ false=true;decide)];exact q1 rfl _ (Same.refl _)
    | one=>rw[if_neg (by show ¬ false=true;decide)];exact q1 rfl _ (Same.refl _)
    | thn =>
      obtain⟨p,va,vc,rfl,hs,ha,hc⟩:=isT_nd.mp oT
      have gk:=oo.1
      cases a with
      | low =>
        rw[if_pos (by show decide (some ("low":Str)=some ("low":Str))=true;decide)]
        refine⟨wa,.ref p,ws,_,rfl,hW,oT,hok,om,by omega,fun r H1 e f hr'=>⟨by decide,fun p1 hp1=>⟨by decide,fun na hna=>?_⟩⟩⟩
        have en:rem ws (.nd .thn .low c)=norm (rem ws (.nd .thn .low c)):=norm_uniq (sorted_rem hW.rise) fun _=>Iff.rfl
        rw[en] at hr'
        exact Zh8 (q2 _ rfl) e hr' f (hT.keep e.keepT) hp1 hna
      | ltr y=>rw[if_neg (by show ¬ decide (some ("letter":Str)=some ("low":Str))=true;decide)];exact q1 rfl _ (Same.refl _)
      | nd kd2 x y =>
        cases kd2 with
        | both=>rw[if_neg (by show ¬ decide (some ("both":Str)=some ("low":Str))=true;decide)];exact q1 rfl _ (Same.refl _)
        | one=>rw[if_neg (by show ¬ decide (some ("one":Str)=some ("low":Str))=true;decide)];exact q1 rfl _ (Same.refl _)
        | thn=>rw[if_neg (by show ¬ decide (some ("then":Str)=some ("low":Str))=true;decide)];exact q1 rfl _ (Same.refl _)
theorem ok_au0 {k:Nat} {f_au0:Addr} {fd_au0:FuncData} (F_au0:Fun K "by_chain" "by_chain" s_au0 f_au0 fd_au0) {f_bk0:Addr} {fd_bk0:FuncData} (G_bk0:FnOk P w K mg base CX0 k f_bk0 fd_bk0 ["on","kind"] (sp_isif K)) (m_bk0:mg "is_if"=some (.ref f_bk0)) (k_bk0:PySem.W.keepIn K (.ref f_bk0)=true) (b_bk0:Binds K fd_bk0 ["on","kind"] []) {f_bm0:Addr} {fd_bm0:FuncData} (G_bm0:FnOk P w K mg base CX0 k f_bm0 fd_bm0 ["wishes","some"] (sp_more K)) (m_bm0:mg "more"=some (.ref f_bm0)) (k_bm0:PySem.W.keepIn K (.ref f_bm0)=true) (b_bm0:Binds K fd_bm0 ["wishes","some"] []) {f_br0:Addr} {fd_br0:FuncData} (G_br0:FnOk P w K mg base CX0 k f_br0 fd_br0 ["wishes","statement"] (sp_without K)) (m_br0:mg "without"=some (.ref f_br0)) (k_br0:PySem.W.keepIn K (.ref f_br0)=true) (b_br0:Binds K fd_br0 ["wishes","statement"] []):FnOk P w K mg base CX0 (k+1) f_au0 fd_au0 ["wishes","goal","on"] (sp_by K .chain):=by
  refine F_au0.ok sc_au0 (fun vs H Q E h=>?_) (fun cdv A outer s H vs Q E hr h=>?_)
  · obtain⟨wa,gv,ov,ws,g,on,rfl,_⟩:=h
    rfl
  obtain⟨wa,gv,ov,ws,g,on,rfl,hW,hT,hO,hn,hok,gok,gp,hl,q1,q2⟩:=h
  refine⟨_,(Za4 (Zd9 (pt_not (pt_val (Za9 G_bk0 hr (by exact rfl) m_bk0 k_bk0 b_bk0 .nil Zc2 (Za0 (pv 2) (Za0 Zb9 Za1)))))
    (Za8 (Zb4 Ze3))
    Zc4)
  (Za4 (Zb2 (i:=3) sc_au0.nd rfl (Or.inl rfl) (Za9 G_br0 hr (by exact rfl) m_br0 k_br0 b_br0 .nil Zc2 (Za0 (pv 0) (Za0 (pv 2) Za1))))
  (Za8 (Zb4 (Zc5 (Za0 (Zc1 (Za0 (Za9 G_bm0 hr (by exact rfl) m_bm0 k_bm0 b_bm0 .nil Zc2 (Za0 (pv 3) (Za0 (Zc5 (Za0 (Zc1 (Za0 Zb9 (Za0 (Zb6 Zb7 (Zb6 Zb7 (pv 2) Za5 (fun _ _=>rfl)) Za5 (fun _ _=>rfl)) (Za0 (Zb6 Zb7 (pv 2) Za5 (fun _ _=>rfl)) Za1)))) Za1)) Za1))) (Za0 (Zb6 Zb7 (pv 2) Za5 (fun _ _=>rfl)) Za1))) (Za0 (Zc1 (Za0 (Za9 G_bm0 hr (by exact rfl) m_bm0 k_bm0 b_bm0 .nil Zc2 (Za0 (pv 3) (Za0 (Zc5 (Za0 (Zb6 Zb7 (pv 2) Za5 (fun _ _=>rfl)) Za1)) Za1))) (Za0 (pv 1) Za1))) Za1))))))),?_⟩
  walk_at "rdx_1"
  obtain⟨o,rfl⟩:∃ o,on=some o:=by cases on with
    | none=>cases hn
    | some o=>exact⟨o,rfl⟩
  obtain⟨oT,om⟩:=hO
  have oo:=hok o om
  have orw:(rem ws o).length≤900:=Nat.le_trans (List.length_filter_le _ _) hl
  have okr:Okw (rem ws o):=fun t ht=>hok t (mem_rem.mp ht).1
  refine⟨ov,o,_,rfl,oT,_,rfl,?_⟩
  rcases isif_or .thn o with ⟨x,y,c,rfl⟩ | ⟨hf,hng⟩
  · obtain⟨p,va,vc,rfl,hs,ha,hc⟩:=isT_nd.mp oT
    have gk:=oo.1
    have pp:1+(1+x.parts+y.parts)+c.parts≤100:=oo.2
    obtain⟨p2,vx,vy,rfl,hs2,hx,hy⟩:=isT_nd.mp ha
    rw[if_neg (by show ¬ (!decide (some ("then":Str)=some ("then":Str)))=true;decide)]
    refine⟨wa,.ref p,ws,_,rfl,hW,oT,hok,om,by omega,fun r H1 e f hr'=>?_⟩
    refine⟨p,rfl,_,e.sqt hs,_,rfl,p2,rfl,_,e.sqt hs2,_,rfl,p,rfl,_,e.sqt hs,_,rfl,by decide,fun n1 hn1=>⟨by decide,fun l hl'=>?_⟩⟩
    have t1:=Za3 hn1 (HO.tup [V.str (Str.ofString "then"),vy,vc])
    have t2:=Za3 hl' (HO.lst [V.ref n1])
    have T2:=t1.trans t2
    have E1:=e.trans T2
    refine⟨r,l,_,[V.ref n1],[.nd .thn y c],rfl,hr'.keep T2,Za2,.cons (isT_nd.mpr ⟨n1,vy,vc,rfl,t2.sqt (.inl (.inl Za2)),hy.keep E1.keepT,hc.keep E1.keepT⟩) .nil,okr,fun t ht=>by rw[List.mem_singleton.mp ht];exact⟨⟨gk.1.2,gk.2⟩,by show 1+y.parts+c.parts≤100;omega⟩,by show _+1≤1000;omega,fun r2 H2 e2 f2 hr2=>?_⟩
    have E2:=E1.trans e2
    refine⟨p,rfl,_,E2.sqt hs,_,rfl,by decide,fun p1 hp1=>?_⟩
    have s3:=Za3 hp1 (HO.tup [V.ref r2,V.ref p2])
    have E3:=E2.trans s3
    refine⟨p,rfl,_,E3.sqt hs,_,rfl,by decide,fun l2 hl2=>?_⟩
    have s4:=Za3 hl2 (HO.lst [vc])
    have E4:=E3.trans s4
    refine⟨r,l2,_,[vc],[c],rfl,hr'.keep (T2.trans (e2.trans (s3.trans s4))),Za2,.cons (hc.keep E4.keepT) .nil,okr,fun t ht=>by rw[List.mem_singleton.mp ht];exact⟨gk.2,by omega⟩,by show _+1≤1000;omega,fun r3 H5 e5 f5 hr3=>⟨by decide,fun p4 hp4=>⟨by decide,fun na hna=>?_⟩⟩⟩
    exact ndsQ_two (q2 _ rfl) E2 hr2 (E1.free f2) (ha.keep E2.keepT) hp1 (s4.trans e5) hr3 (s4.free f5) (hT.keep (E4.trans e5).keepT) hp4 hna
  · refine (if_pos (show (!_)=true from congrArg (!·) hf)).mpr (q1 ?_ _ (Same.refl _))
    clear oT om oo orw okr hf
    cases o with
    | nd k a c =>
      cases k with
      | thn =>
        cases a with
        | nd k2 x y=>cases k2<;>first | rfl | exact absurd rfl (hng _ _ _)
        | _=>rfl
      | _=>rfl
    | _=>rfl
theorem ok_be0 {k:Nat} {f_be0:Addr} {fd_be0:FuncData} (F_be0:Fun K "by_use" "by_use" s_be0 f_be0 fd_be0) {f_bm0:Addr} {fd_bm0:FuncData} (G_bm0:FnOk P w K mg base CX0 k f_bm0 fd_bm0 ["wishes","some"] (sp_more K)) (m_bm0:mg "more"=some (.ref f_bm0)) (k_bm0:PySem.W.keepIn K (.ref f_bm0)=true) (b_bm0:Binds K fd_bm0 ["wishes","some"] []) (m_list:mg "list"=none):FnOk P w K mg base CX0 (k+1) f_be0 fd_be0 ["wishes","goal","on"] (sp_by K .use):=by
  refine F_be0.ok sc_be0 (fun vs H Q E h=>?_) (fun cdv A outer s H vs Q E hr h=>?_)
  · obtain⟨wa,gv,ov,ws,g,on,rfl,_⟩:=h
    rfl
  obtain⟨wa,gv,ov,ws,g,on,rfl,hW,hT,hO,hn,hok,gok,gp,hl,q1,q2⟩:=h
  refine⟨_,(Za4 (Zd9 (Zb0 (op_ne) (Zb6 Zb7 (pv 2) Za5 (fun _ _=>rfl)) Zb9 (Zb8 _))
    (Za8 (Zb4 Ze3))
    Zc4)
  (Za8 (Zb4 (Zc5 (Za0 (Zc1 (Za0 (Ze9 Zd8 (by exact rfl) m_list Ken.boot_list (Za0 (pv 0) Za1)) (Za0 (Zb6 Zb7 (pv 2) Za5 (fun _ _=>rfl)) Za1))) (Za0 (Zc1 (Za0 (Za9 G_bm0 hr (by exact rfl) m_bm0 k_bm0 b_bm0 .nil Zc2 (Za0 (pv 0) (Za0 (Zc5 (Za0 (Zb6 Zb7 (pv 2) Za5 (fun _ _=>rfl)) Za1)) Za1))) (Za0 (pv 1) Za1))) Za1)))))),?_⟩
  walk_at "rdx_1"
  obtain⟨o,rfl⟩:∃ o,on=some o:=by cases on with
    | none=>cases hn
    | some o=>exact⟨o,rfl⟩
  obtain⟨oT,om⟩:=hO
  have oo:=hok o om
  have orw:(rem ws o).length≤900:=Nat.le_trans (List.length_filter_le _ _) hl
  have okr:Okw (rem ws o):=fun t ht=>hok t (mem_rem.mp ht).1
  rcases isT_or .thn oT with ⟨a,b,p,vx,vy,rfl,rfl,hs,hx,hy⟩ | ⟨p,x,xs,rfl,hs,hne,hng⟩
  · have gk:=oo.1
    have pp:1+a.parts+b.parts≤100:=oo.2
    refine⟨p,rfl,_,hs,_,rfl,rfl,?_⟩
    rw[if_neg (by decide)]
    obtain⟨⟨us,ha,hU⟩,hR⟩:=id hW
    refine⟨us,.inl (SqL.of ha),fun l hl'=>?_⟩
    have s1:=Za3 hl' (HO.lst us)
    have w1:IsW K (upd H l (.lst us)) l ws:=⟨⟨us,Za2,Paired.mapP hU fun _ _ z=>z.keep s1.keepT⟩,hR⟩
    refine⟨p,rfl,_,s1.sqt hs,_,rfl,by decide,fun p1 hp1=>?_⟩
    have s2:=Za3 hp1 (HO.tup [V.ref l,vx])
    have S2:=s1.trans s2
    refine⟨p,rfl,_,S2.sqt hs,_,rfl,by decide,fun l2 hl2=>?_⟩
    have s3:=Za3 hl2 (HO.lst [vy])
    have S3:=S2.trans s3
    refine⟨wa,l2,ws,[vy],[b],rfl,hW.keep S3,Za2,.cons (hy.keep S3.keepT) .nil,hok,fun t ht=>by rw[List.mem_singleton.mp ht];exact⟨gk.2,by omega⟩,by show ws.length+1≤1000;omega,fun r2 H2 e2 f2 hr2=>⟨by decide,fun p2 hp2=>⟨by decide,fun na hna=>?_⟩⟩⟩
    exact ndsQ_two (q2 _ rfl) s1 w1 hl' (hx.keep s1.keepT) hp1 (s3.trans e2) hr2 (s3.free f2) (hT.keep (S3.trans e2).keepT) hp2 hna
  · refine⟨p,rfl,_,hs,_,at0 _ _,Ze2 _ _,?_⟩
    rw[if_pos (by rw[decide_eq_false (fun z=>hne (by cases z;rfl))];rfl)]
    refine q1 ?_ _ (Same.refl _)
    clear oT om oo orw okr
    cases o with
    | nd k a b=>cases k<;>first | rfl | exact absurd rfl (hng _ _)
    | _=>rfl
end
noncomputable abbrev s_bi0:Stmt:=top 32
theorem sc_bi0:FnScope ["rule","wishes","on"] ["rule","wishes","on"] (defScope s_bi0):=⟨rfl,rfl,rfl,by decide +kernel,rfl,by decide +kernel,by decide +kernel⟩
noncomputable abbrev s_bo0:Stmt:=top 33
theorem sc_bo0:FnScope ["rule","wishes","goal","on","deed","needed"] ["rule","wishes","goal","on"] (defScope s_bo0):=⟨rfl,rfl,rfl,by decide +kernel,rfl,by decide +kernel,by decide +kernel⟩
noncomputable def tblR (fR:Rl→Addr):List (Str×V):=all14.map fun r=>(r.str,V.ref (fR r))
theorem tblR_at (fR:Rl→Addr) (r:Rl):(tblR fR).lookup r.str=some (V.ref (fR r)):=by cases r<;>rfl
theorem tblR_no {fR:Rl→Addr} {x:Str} (h:x∈badN):(tblR fR).lookup x=none:=by
  unfold badN at h
  simp only[List.mem_cons,List.not_mem_nil,or_false] at h
  rcases h with rfl | rfl | rfl | rfl<;>rfl
theorem lenRule (r:Rl):r.str.length≤10:=by cases r<;>decide
section
variable {P:Program} {w:World} {K:PySem.W.Frag} {mg:Str→Option Value} {base:Heap}
theorem ok_bi0 {k:Nat} {f_bi0:Addr} {fd_bi0:FuncData} (F_bi0:Fun K "has_on" "has_on" s_bi0 f_bi0 fd_bi0) {f_aq0:Addr} {fd_aq0:FuncData} (G_aq0:FnOk P w K mg base CX0 k f_aq0 fd_aq0 ["wishes","statement"] (sp_among K)) (m_aq0:mg "among"=some (.ref f_aq0)) (k_aq0:PySem.W.keepIn K (.ref f_aq0)=true) (b_aq0:Binds K fd_aq0 ["wishes","statement"] []) {aWITHOUT_ON:Addr} (m_WITHOUT_ON:mg "WITHOUT_ON"=some (.ref aWITHOUT_ON)) (t_WITHOUT_ON:∀ H,SqT K H aWITHOUT_ON [.str "wish",.str "low",.str "both",.str "first",.str "second",.str "then"]):FnOk P w K mg base CX0 (k+1) f_bi0 fd_bi0 ["rule","wishes","on"] (sp_hason K):=by
  refine F_bi0.ok sc_bi0 (fun vs H Q E h=>?_) (fun cdv A outer s H vs Q E hr h=>?_)
  · obtain⟨r,wa,ov,ws,on,rfl,_⟩:=h
    rfl
  obtain⟨r,wa,ov,ws,on,rfl,hW,hO,hok,hl,q⟩:=h
  refine⟨_,(Za4 (Zd9 (Zb0 (op_in_seq) (pv 0) (pe_glob (v:=.ref aWITHOUT_ON) (by exact rfl) m_WITHOUT_ON (by exact rfl)) (by with_unfolding_all rfl))
    (Za8 (Zb4 (Zh9 (op_isN) (pv 2) Ze3 (Zb8 _))))
    Zc4)
  (Za8 (Zb4 (pe_and (Zh9 (op_notN) (pv 2) Ze3 (Zb8 _)) (pe_one (Za9 G_aq0 hr (by exact rfl) m_aq0 k_aq0 b_aq0 .nil Zc2 (Za0 (pv 1) (Za0 (pv 2) Za1)))))))),?_⟩
  walk_at "rdx_1"
  refine⟨_,.inr (t_WITHOUT_ON H),rfl,rfl,?_⟩
  rw[if_neg Bool.false_ne_true]
  by_cases hno:r.noOn=true
  · rw[if_pos (by revert hno;cases r<;>decide)]
    cases on with
    | none =>
      cases (show ov=V.non from hO)
      have:=q H (Same.refl _)
      rw[show onFit r ws none=true from hno] at this
      exact this
    | some o =>
      have hne:ov≠.non:=fun z=>by have:=hO.1;rw[z] at this;obtain⟨p,x,xs,A,e,_⟩:=isT_head this;cases e
      have:=q H (Same.refl _)
      rw[show onFit r ws (some o)=false by show (!r.noOn&&_)=false;rw[hno];rfl] at this
      rw[decide_eq_false hne]
      exact this
  · rw[if_neg (by revert hno;cases r<;>decide)]
    have hn2:r.noOn=false:=by cases h:r.noOn with | false=>rfl | true=>exact absurd h hno
    cases on with
    | none =>
      cases (show ov=V.non from hO)
      rw[if_neg (by decide)]
      have:=q H (Same.refl _)
      rw[show onFit r ws none=false from hn2] at this
      exact this
    | some o =>
      have hne:ov≠.non:=fun z=>by have:=hO.1;rw[z] at this;obtain⟨p,x,xs,A,e,_⟩:=isT_head this;cases e
      rw[if_pos (by rw[decide_eq_false hne];rfl)]
      refine⟨wa,ov,ws,o,rfl,hW,hO.1,hok,hO.2.1,hl,fun H' e=>?_⟩
      have:=q H' e
      rw[show onFit r ws (some o)=decide (o∈ws) by show (!r.noOn&&_)=_;rw[hn2];rfl] at this
      exact this
theorem ok_bo0 {k:Nat} {fR:Rl→Addr} {fdR:Rl→FuncData} {f_bo0:Addr} {fd_bo0:FuncData} (F_bo0:Fun K "needs" "needs" s_bo0 f_bo0 fd_bo0) {f_bi0:Addr} {fd_bi0:FuncData} (G_bi0:FnOk P w K mg base CX0 k f_bi0 fd_bi0 ["rule","wishes","on"] (sp_hason K)) (m_bi0:mg "has_on"=some (.ref f_bi0)) (k_bi0:PySem.W.keepIn K (.ref f_bi0)=true) (b_bi0:Binds K fd_bi0 ["rule","wishes","on"] []) {aRULES aNoRule:Addr} (m_RULES:mg "RULES"=some (.ref aRULES)) (D_RULES:KDict K w aRULES (tblR fR)) (m_NoRule:mg "NoRule"=some (.ref aNoRule)) (x_NoRule:XCls K aNoRule)
    (G_RULES:∀ r,FnOk P w K mg base CX0 k (fR r) (fdR r) ["wishes","goal","on"] (sp_by K r)) (k_RULES:∀ r,PySem.W.keepIn K (.ref (fR r))=true) (b_RULES:∀ r,Binds K (fdR r) ["wishes","goal","on"] []):FnOk P w K mg base (CXe P w) (k+1) f_bo0 fd_bo0 ["rule","wishes","goal","on"] (sp_needs K aNoRule):=by
  refine F_bo0.okX sc_bo0 (fun vs H Q E h=>?_) (fun cdv A outer s H vs Q E hr h=>?_)
  · obtain⟨x,R,wa,gv,ov,ws,g,on,rfl,_⟩:=h
    rfl
  obtain⟨x,R,wa,gv,ov,ws,g,on,rfl,hR,hW,hT,hO,hok,gok,gp,hl,q0,q1⟩:=h
  refine⟨_,(Za4 (Zd9 (pt_cmp (pc_knotin D_RULES rfl m_RULES (pv 0)) (by with_unfolding_all rfl))
    (Za8 (ps_raise xok_cxOf rfl (by exact rfl) m_NoRule x_NoRule (Za0 (pe_fstr (pf_valR (pv 0) (pf_str pf_nil))) Za1)))
    Zc4)
  (Za4 (Zd9 (pt_not (pt_val (Za9 G_bi0 hr (by exact rfl) m_bi0 k_bi0 b_bi0 .nil Zc2 (Za0 (pv 0) (Za0 (pv 1) (Za0 (pv 3) Za1))))))
    (Za8 (ps_raise xok_cxOf rfl (by exact rfl) m_NoRule x_NoRule (Za0 (pe_fstr (pf_str (pf_val (pv 0) (pf_str pf_nil)))) Za1)))
    Zc4)
  (Za4 (Zb2 (i:=4) sc_bo0.nd rfl (Or.inl rfl) (pe_kdget D_RULES rfl m_RULES (pv 0)))
  (Za4 (Zb2 (i:=5) sc_bo0.nd rfl (Or.inl rfl) (pe_callT (i:=4) G_RULES hr rfl k_RULES b_RULES (Za0 (pv 1) (Za0 (pv 2) (Za0 (pv 3) Za1)))))
  (Za4 (Zd9 (Zb0 (op_isN) (pv 5) Ze3 (Zb8 _))
    (Za8 (ps_raise xok_cxOf rfl (by exact rfl) m_NoRule x_NoRule (Za0 (pe_fstr (pf_str (pf_val (pv 0) (pf_str pf_nil)))) Za1)))
    Zc4)
  (Za8 (Zb4 (pv 5)))))))),?_⟩
  cases R with
  | none =>
    walk_at "rdx_1"
    rw[tblR_no hR]
    have h1:=bad_len hR
    have h2:Str.length (Str.empty++reprText x)≤200:=by rw[Str.length_append];show 0+_≤_;omega
    have h3:Str.length (Str.empty++reprText x++Str.ofString " is no rule")≤200:=by rw[Str.length_append,Str.length_append];show 0+_+11≤_;omega
    rw[if_pos (by rfl)]
    exact⟨Nat.le_of_lt (Zb3 (by omega)),Nat.le_of_lt (Zb3 (by omega)),Nat.le_of_lt (Zb3 (by omega)),Nat.le_of_lt (Zb3 (by omega)),by decide,fun e H' hx=>q0 (by cases on with | none=>rfl | some o=>exact ite_self none) e H' hx⟩
  | some r =>
    obtain rfl:x=r.str:=hR
    have lr:=lenRule r
    refine Za7 (fun σ' H'=>σ'=[some (.str r.str),some (.ref wa),some gv,some ov,none,none]∧Same H H') ?_ ?_
    rotate_left
    · intro C hC
      walk_at "rdx_1"
      rw[tblR_at,if_neg (by simp)]
      exact hC _ _ ⟨rfl,Same.refl _⟩
    rintro σ1 H1 ⟨rfl,e1⟩
    refine Za7 (fun σ' H'=>σ'=[some (.str r.str),some (.ref wa),some gv,some ov,none,none]∧Same H H'∧onFit r ws on=true) ?_ ?_
    rotate_left
    · intro C hC
      walk_at "rdx_1"
      refine⟨r,wa,ov,ws,on,rfl,hW.keep e1,hO.keep e1.keepT,hok,by omega,fun H' e=>⟨_,rfl,?_⟩⟩
      cases hf:onFit r ws on with
      | true =>
        rw[if_neg (by decide)]
        exact hC _ _ ⟨rfl,e1.trans e,hf⟩
      | false =>
        rw[if_pos (by decide)]
        refine⟨by decide,Nat.le_of_lt (Zb3 (by omega)),by cases r<;>decide,by cases r<;>decide,by cases r<;>decide,by decide,fun ea H3 hx=>?_⟩
        exact q0 (needX_unfit hf) ea H3 (hx.mono (e1.trans e))
    rintro σ2 H2 ⟨rfl,e2,hf⟩
    obtain⟨n1,n2,n3⟩:=needX_fit (g:=g) hf
    rw[n1] at q0 q1
    refine Za7 (fun σ' H'=>σ'=[some (.str r.str),some (.ref wa),some gv,some ov,some (.ref (fR r)),none]∧Same H H') ?_ ?_
    rotate_left
    · intro C hC
      walk_at "rdx_1"
      exact⟨_,tblR_at fR r,hC _ _ ⟨rfl,e2⟩⟩
    rintro σ3 H3 ⟨rfl,e3⟩
    walk_at "rdx_1"
    refine⟨r,rfl,wa,gv,ov,ws,g,on,rfl,hW.keep e3,hT.keep e3.keepT,?_,n2,hok,gok,gp,hl,fun hn H' e=>?_,fun nds hs na H' os e fna hnds hmap hfr hnd=>?_⟩
    · cases on with
      | none=>exact hO
      | some o=>exact⟨hO.1.keep e3.keepT,n3 o rfl⟩
    · show if V.non=V.non then _ else _
      rw[if_pos rfl]
      exact⟨by decide,Nat.le_of_lt (Zb3 (by omega)),by cases r<;>decide,by cases r<;>decide,by cases r<;>decide,by decide,fun ea H4 hx=>q0 hn ea H4 (hx.mono (e3.trans e))⟩
    · show if V.ref na=V.non then _ else _
      rw[if_neg (fun z=>nomatch z)]
      exact q1 nds hs na H' os (e3.trans e) (e3.free fna) hnds hmap (fun o ho=>e3.free (hfr o ho)) hnd
end
noncomputable abbrev s_ar0:Stmt:=top 9
theorem sc_ar0:FnScope ["some"] ["some"] (defScope s_ar0):=⟨rfl,rfl,rfl,by decide +kernel,rfl,by decide +kernel,by decide +kernel⟩
noncomputable abbrev s_bn0:Stmt:=top 35
theorem sc_bn0:FnScope ["line","rule","wishes","goal","on","leans"] ["line"] (defScope s_bn0):=⟨rfl,rfl,rfl,by decide +kernel,rfl,by decide +kernel,by decide +kernel⟩
noncomputable abbrev s_bq0:Stmt:=top 36
theorem sc_bq0:FnScope ["leaned","wishes","need","needed_wishes","needed_goal"] ["leaned","wishes","need"] (defScope s_bq0):=⟨rfl,rfl,rfl,by decide +kernel,rfl,by decide +kernel,by decide +kernel⟩
section
variable {P:Program} {w:World} {K:PySem.W.Frag} {mg:Str→Option Value} {base:Heap}
theorem ok_ar0 {k:Nat} {f_ar0:Addr} {fd_ar0:FuncData} (F_ar0:Fun K "are_wishes" "are_wishes" s_ar0 f_ar0 fd_ar0) {f_bh0:Addr} {fd_bh0:FuncData} (G_bh0:FnOk P w K mg base CX0 k f_bh0 fd_bh0 ["one","other"] (sp_compared K)) (m_bh0:mg "compared"=some (.ref f_bh0)) (k_bh0:PySem.W.keepIn K (.ref f_bh0)=true) (b_bh0:Binds K fd_bh0 ["one","other"] []) (m_all:mg "all"=none) (m_zip:mg "zip"=none):FnOk P w K mg base CX0 (k+1) f_ar0 fd_ar0 ["some"] (sp_arew K):=by
  refine F_ar0.ok sc_ar0 (fun vs H Q E h=>?_) (fun cdv A outer s H vs Q E hr h=>?_)
  · obtain⟨a,us,ts,rfl,_⟩:=h
    rfl
  obtain⟨a,us,ts,rfl,ha,hT,hok,hl,q⟩:=h
  refine⟨_,(Za8 (Zb4 (Zd1 (call_allB rfl) (by exact rfl) m_all Ken.boot_all (Za0 (pe_lc (blk0 (N':=["one","other"]) (by decide +kernel) (by decide +kernel) rfl (by decide +kernel)) rfl (pi_zip rfl m_zip (Za0 (pv 0) (Za0 (Zh2 sl_list (pv 0) (po_some Za5) po_none) Za1))) (fun _ _ _ _=>(pg_tupK (K:=K) (n:=2) rfl rfl (Zc9 (Zb5 (i:=0) (show (["one","other"]:List Str).Nodup from by decide +kernel) rfl (Or.inl rfl)) (Zc9 (Zb5 (i:=1) (show (["one","other"]:List Str).Nodup from by decide +kernel) rfl (Or.inl rfl)) Zh4)) rfl rfl)) (fun _ _ _ _=>(Zh9 (op_lt) (Za9 G_bh0 hr (by exact rfl) m_bh0 k_bh0 b_bh0 .nil Zc2 (Za0 (pv 0) (Za0 (pv 1) Za1))) Za5 (Zb8 _)))) Za1)))),?_⟩
  unfold tRet tLC
  walk_at "rdx_1"
  have lu:us.length=ts.length:=Paired.length hT
  refine⟨us,SqL.of ha,fun p hp=>?_⟩
  have ec:cutV us (some 1) none=us.drop 1:=cut_dropX us 0
  rw[ec]
  have sp:=Za3 hp (HO.lst (us.drop 1))
  refine⟨⟨_,SqL.of (sp _ _ ha)⟩,⟨_,SqL.of Za2⟩,fun acc hacc=>?_⟩
  have hT1:=Za6 sp.keepT hT
  have ha1:=sp _ _ ha
  have hp1:upd H p (HO.lst (us.drop 1)) p=some (.lst (us.drop 1)):=Za2
  generalize upd H p (HO.lst (us.drop 1))=H1 at sp hT1 ha1 hp1 hacc ⊢
  refine lcW_zipM (xs:=us) (ys:=us.drop 1) (fun i ys H'=>Same H1 H'∧H' acc=some (.lst ys)∧ys=((List.zipWith (fun a b=>decide (cmpT a b < 0)) ts ts.tail).take i).map V.bl) (ts.length - 1) (by rw[List.length_drop];omega) ⟨Za3 hacc _,Za2,by simp⟩ (fun i ys H' hi ⟨e,h,hy⟩=>⟨h,?_,SqL.of (e _ _ ha1),SqL.of (e _ _ hp1)⟩) (fun i x y ys H' T hx hy hT0 ⟨e,h,hz⟩ C' hC'=>?_) (fun ys H' ⟨e,h,hy⟩=>?_)
  · rw[hy,List.length_map,List.length_take]
    exact small1M (by omega)
  · rw[List.getElem?_drop] at hy
    obtain⟨t,ht,hxt⟩:=paired_get hT1 hx
    obtain⟨u,hu,hyu⟩:=paired_get hT1 hy
    have okt:=hok t (List.mem_of_getElem? ht)
    have oku:=hok u (List.mem_of_getElem? hu)
    have eT:Same H1 (upd H' T (.tup [x,y])):=e.trans (Za3 hT0 _)
    walk_at "rdx_1"
    refine⟨_,.inl (.inl Za2),rfl,_,_,rfl,_,_,rfl,rfl,Wk.trans (Ze8 (i:=0) rfl) (Ze8 (i:=1) rfl),x,y,t,u,rfl,hxt.keep eT.keepT,hyu.keep eT.keepT,okt.1,oku.1,by have:=okt.2;omega,fun H5 e5=>⟨_,rfl,hC' _ _ (e5 _ _ ((Za3 hT0 _) _ _ h)) ⟨(eT.trans e5).write hacc,Za2,?_⟩⟩⟩
    have hzi:(List.zipWith (fun a b=>decide (cmpT a b < 0)) ts ts.tail)[i]?=some (decide (cmpT t u < 0)):=by
      rw[List.getElem?_zipWith,ht,List.getElem?_tail,show i+1=1+i by omega,hu]
    rw[hz,List.take_succ,hzi,List.map_append];rfl
  · have hlz:(List.zipWith (fun a b=>decide (cmpT a b < 0)) ts ts.tail).length=ts.length - 1:=by rw[List.length_zipWith,List.length_tail];omega
    rw[← hlz,List.take_length] at hy
    refine⟨acc,rfl,List.zipWith (fun a b=>decide (cmpT a b < 0)) ts ts.tail,SqL.of (by rw[h,hy]),?_⟩
    rw[adjB_zip]
    exact q _ (sp.trans e)
theorem ok_bn0 {k:Nat} {f_bn0:Addr} {fd_bn0:FuncData} (F_bn0:Fun K "needed_by" "needed_by" s_bn0 f_bn0 fd_bn0) {aNoRule:Addr} {f_bo0:Addr} {fd_bo0:FuncData} (G_bo0:FnOk P w K mg base (CXe P w) k f_bo0 fd_bo0 ["rule","wishes","goal","on"] (sp_needs K aNoRule)) (m_bo0:mg "needs"=some (.ref f_bo0)) (k_bo0:PySem.W.keepIn K (.ref f_bo0)=true) (b_bo0:Binds K fd_bo0 ["rule","wishes","goal","on"] []) (m_NoRule:mg "NoRule"=some (.ref aNoRule)) (xc_NoRule:XC K aNoRule):FnOk P w K mg base CX0 (k+1) f_bn0 fd_bn0 ["line"] (sp_nby K):=by
  refine F_bn0.ok sc_bn0 (fun vs H Q E h=>?_) (fun cdv A outer s H vs Q E hr h=>?_)
  · obtain⟨v,l,rfl,_⟩:=h
    rfl
  obtain⟨v,l,rfl,hl,ok,hs,q0,q1⟩:=h
  refine⟨_,(Za4 (ps_asg (pv 0) (pg_tup rfl (Zc9 (Zb5 (i:=1) sc_bn0.nd rfl (Or.inl rfl)) (Zc9 (Zb5 (i:=2) sc_bn0.nd rfl (Or.inl rfl)) (Zc9 (Zb5 (i:=3) sc_bn0.nd rfl (Or.inl rfl)) (Zc9 (Zb5 (i:=4) sc_bn0.nd rfl (Or.inl rfl)) (Zc9 (Zb5 (i:=5) sc_bn0.nd rfl (Or.inl rfl)) Zh4)))))))
  (Za8 (ps_tryR rfl rfl rfl (by exact rfl) m_NoRule xc_NoRule (px_call G_bo0 hr (by exact rfl) m_bo0 k_bo0 b_bo0 .nil (Za0 (pv 1) (Za0 (pv 2) (Za0 (pv 3) (Za0 (pv 4) Za1)))))
    (fun ea=>(Za8 (Zb4 Ze3)))))),?_⟩
  obtain⟨p,wa,la,gv,ov,us,rfl,h1,h2,h3,h4,h5,h6⟩:=hl
  walk_at "rdx_1"
  refine⟨_,h1,rfl,_,_,rfl,_,_,rfl,_,_,rfl,_,_,rfl,_,_,rfl,rfl,l.x,l.R,wa,gv,ov,l.ws,l.g,l.on,rfl,ok.r,⟨⟨us,h2,h3⟩,hs⟩,h4,h5,ok.w,ok.g,ok.gp,by have:=ok.wl;omega,fun hn e H' hx=>?_,q1⟩
  obtain⟨T,hF⟩:=hx.2.2
  exact⟨e,T,rfl,hF,q0 hn _ hx.2.1⟩
theorem ok_bq0 {k:Nat} {f_bq0:Addr} {fd_bq0:FuncData} (F_bq0:Fun K "serves" "serves" s_bq0 f_bq0 fd_bq0) {f_bh0:Addr} {fd_bh0:FuncData} (G_bh0:FnOk P w K mg base CX0 k f_bh0 fd_bh0 ["one","other"] (sp_compared K)) (m_bh0:mg "compared"=some (.ref f_bh0)) (k_bh0:PySem.W.keepIn K (.ref f_bh0)=true) (b_bh0:Binds K fd_bh0 ["one","other"] []) {f_aq0:Addr} {fd_aq0:FuncData} (G_aq0:FnOk P w K mg base CX0 k f_aq0 fd_aq0 ["wishes","statement"] (sp_among K)) (m_aq0:mg "among"=some (.ref f_aq0)) (k_aq0:PySem.W.keepIn K (.ref f_aq0)=true) (b_aq0:Binds K fd_aq0 ["wishes","statement"] []) (m_all:mg "all"=none):FnOk P w K mg base CX0 (k+1) f_bq0 fd_bq0 ["leaned","wishes","need"] (sp_serves K):=by
  refine F_bq0.ok sc_bq0 (fun vs H Q E h=>?_) (fun cdv A outer s H vs Q E hr h=>?_)
  · obtain⟨v,nv,wa,m,ws,o,rfl,_⟩:=h
    rfl
  obtain⟨v,nv,wa,m,ws,o,rfl,hm,okm,hW,hok,hl,hN,okn,ln,go,q⟩:=h
  refine⟨_,(Za4 (ps_asg (pv 2) (pg_tup rfl (Zc9 (Zb5 (i:=3) sc_bq0.nd rfl (Or.inr rfl)) (Zc9 (Zb5 (i:=4) sc_bq0.nd rfl (Or.inl rfl)) Zh4))))
  (Za4 (Zd9 (Zb0 (op_ne) (Za9 G_bh0 hr (by exact rfl) m_bh0 k_bh0 b_bh0 .nil Zc2 (Za0 (Zb6 Zb7 (pv 0) Za5 (fun _ _=>rfl)) (Za0 (pv 4) Za1))) Za5 (Zb8 _))
    (Za8 (Zb4 pe_bl))
    Zc4)
  (Za8 (Zb4 (Zd1 (call_allB rfl) (by exact rfl) m_all Ken.boot_all (Za0 (pe_lc (blkC (N':=["wish","needed_wishes","wishes"]) (nt:=1) (ci:=[3,1]) ["leaned","wishes","need","needed_wishes","needed_goal"] (defScope s_bq0) rfl rfl (by decide +kernel) rfl (by decide +kernel) (by decide +kernel) rfl (by decide +kernel)) rfl (Ze4 (Zb6 Zb7 (pv 0) Za5 (fun _ _=>rfl))) (fun _ _ _ _=>(Zb5 (i:=0) (show (["wish","needed_wishes","wishes"]:List Str).Nodup from by decide +kernel) rfl (Or.inl rfl))) (fun _ _ _ _=>(pe_or (Za9 G_aq0 hr (by exact rfl) m_aq0 k_aq0 b_aq0 .nil Zc2 (Za0 (pv 1) (Za0 (pv 0) Za1))) (pe_one (Za9 G_aq0 hr (by exact rfl) m_aq0 k_aq0 b_aq0 .nil Zc2 (Za0 (pv 2) (Za0 (pv 0) Za1))))))) Za1)))))),?_⟩
  refine Za7 (fun σ' H'=>∃ gv,σ'=[some v,some (.ref wa),some nv,some (.ref o.1),some gv]∧IsW K H o.1 o.2.1∧IsT K H gv o.2.2∧H'=H) ?_ ?_
  rotate_left
  · intro C hC
    obtain⟨p,gv,rfl,h1,h2,h3⟩:=hN
    walk_at "rdx_1"
    exact⟨_,h1,rfl,_,_,rfl,_,_,rfl,rfl,hC _ _ ⟨gv,rfl,h2,h3,rfl⟩⟩
  rintro σ1 H1 ⟨gv,rfl,hw2,hg2,rfl⟩
  refine Za7 (fun σ' H'=>σ'=[some v,some (.ref wa),some nv,some (.ref o.1),some gv]∧Same H1 H'∧m.g=o.2.2) ?_ ?_
  rotate_left
  · intro C hC
    obtain⟨p,wa',la,gv',ov,us,rfl,h1,h2,h3,h4,h5,h6⟩:=hm
    walk_at "rdx_1"
    refine⟨_,h1,_,rfl,gv',gv,m.g,o.2.2,rfl,h4,hg2,okm.g,go,by have:=okm.gp;omega,fun H' e=>⟨scal_int _ _,?_⟩⟩
    by_cases hc:m.g=o.2.2
    · rw[decide_eq_true (by rw[(cmp_eq m.g o.2.2).mpr hc]),if_neg (by decide)]
      exact hC _ _ ⟨rfl,e,hc⟩
    · rw[decide_eq_false (fun z=>hc ((cmp_eq _ _).mp (V.int.inj z))),if_pos (by rfl)]
      have:=q _ e
      unfold servB at this
      rw[decide_eq_false hc] at this
      exact this
  rintro σ2 H2 ⟨rfl,e2,hge⟩
  obtain⟨p,wa',la,gv',ov,us,rfl,h1,h2,h3,h4,h5,h6⟩:=hm
  unfold tRet tLC
  walk_at "rdx_1"
  have lu:us.length=m.ws.length:=Paired.length h3
  refine⟨_,e2.sqt h1,_,rfl,wa',rfl,⟨_,SqL.of (e2 _ _ h2)⟩,fun acc hacc=>?_⟩
  refine lcW_list (xs:=us) (fun i ys H'=>Same H2 H'∧H' acc=some (.lst ys)∧ys=((m.ws.map fun t=>decide (t∈o.2.1)||decide (t∈ws)).take i).map V.bl) ⟨Za3 hacc _,Za2,by simp⟩ (fun i ys H' hi ⟨e,h,hy⟩=>⟨h,?_,SqL.of ((e2.trans e) _ _ h2)⟩) (fun i x ys H' hx ⟨e,h,hy⟩ C' hC'=>?_) (fun ys H' ⟨e,h,hy⟩=>?_)
  · rw[hy,List.length_map,List.length_take,List.length_map]
    exact small1M (by have:=okm.wl;omega)
  · obtain⟨t,ht,hxt⟩:=paired_get h3 hx
    have okt:=okm.w t (List.mem_of_getElem? ht)
    have hnext:∀ (b:Bool) (H5:Hp),(decide (t∈o.2.1)||decide (t∈ws))=b→Same H' H5→C' (.bl b) H5:=fun b H5 hb e5=>hC' _ _ (e5 _ _ h) ⟨(e.trans e5).write hacc,Za2,by rw[hy,List.take_succ,List.getElem?_map,ht,List.map_append,← hb];rfl⟩
    walk_at "rdx_1"
    refine⟨Ze8 (i:=0) rfl,o.1,x,o.2.1,t,rfl,hw2.keep (e2.trans e),hxt.keep (e2.trans e).keepT,okn,okt.1,by omega,fun H5 e5=>⟨_,rfl,?_⟩⟩
    by_cases hc:t∈o.2.1
    · rw[decide_eq_true hc,if_pos rfl]
      exact hnext true H5 (by rw[decide_eq_true hc];rfl) e5
    · rw[decide_eq_false hc,if_neg (by decide)]
      refine⟨wa,x,ws,t,rfl,hW.keep ((e2.trans e).trans e5),hxt.keep ((e2.trans e).trans e5).keepT,hok,okt.1,by omega,fun H6 e6=>hnext _ H6 (by rw[decide_eq_false hc];rfl) (e5.trans e6)⟩
  · have hlz:(m.ws.map fun t=>decide (t∈o.2.1)||decide (t∈ws)).length=us.length:=by rw[List.length_map,lu]
    rw[← hlz,List.take_length] at hy
    refine⟨acc,rfl,m.ws.map fun t=>decide (t∈o.2.1)||decide (t∈ws),SqL.of (by rw[h,hy]),?_⟩
    have:=q _ (e2.trans e)
    unfold servB at this
    rw[decide_eq_true hge,Bool.true_and] at this
    rw[List.all_map]
    exact this
end
noncomputable abbrev s_bj0:Stmt:=top 37
theorem sc_bj0:FnScope ["lines","number","rule","wishes","goal","on","leans","needed"] ["lines","number"] (defScope s_bj0):=⟨rfl,rfl,rfl,by decide +kernel,rfl,by decide +kernel,by decide +kernel⟩
noncomputable abbrev s_bg0:Stmt:=top 38
theorem sc_bg0:FnScope ["lines","number"] ["lines"] (defScope s_bg0):=⟨rfl,rfl,rfl,by decide +kernel,rfl,by decide +kernel,by decide +kernel⟩
section
variable {P:Program} {w:World} {K:PySem.W.Frag} {mg:Str→Option Value} {base:Heap}
theorem ok_bj0 {k:Nat} {f_bj0:Addr} {fd_bj0:FuncData} (F_bj0:Fun K "is_good" "is_good" s_bj0 f_bj0 fd_bj0) {f_ar0:Addr} {fd_ar0:FuncData} (G_ar0:FnOk P w K mg base CX0 k f_ar0 fd_ar0 ["some"] (sp_arew K)) (m_ar0:mg "are_wishes"=some (.ref f_ar0)) (k_ar0:PySem.W.keepIn K (.ref f_ar0)=true) (b_ar0:Binds K fd_ar0 ["some"] []) {f_bn0:Addr} {fd_bn0:FuncData} (G_bn0:FnOk P w K mg base CX0 k f_bn0 fd_bn0 ["line"] (sp_nby K)) (m_bn0:mg "needed_by"=some (.ref f_bn0)) (k_bn0:PySem.W.keepIn K (.ref f_bn0)=true) (b_bn0:Binds K fd_bn0 ["line"] []) {f_bq0:Addr} {fd_bq0:FuncData} (G_bq0:FnOk P w K mg base CX0 k f_bq0 fd_bq0 ["leaned","wishes","need"] (sp_serves K)) (m_bq0:mg "serves"=some (.ref f_bq0)) (k_bq0:PySem.W.keepIn K (.ref f_bq0)=true) (b_bq0:Binds K fd_bq0 ["leaned","wishes","need"] []) (m_len:mg "len"=none) (m_all:mg "all"=none) (m_zip:mg "zip"=none):FnOk P w K mg base CX0 (k+1) f_bj0 fd_bj0 ["lines","number"] (sp_isgood K):=by
  refine F_bj0.ok sc_bj0 (fun vs H Q E h=>?_) (fun cdv A outer s H vs Q E hr h=>?_)
  · obtain⟨a,us,L,i,rfl,_⟩:=h
    rfl
  obtain⟨a,us,L,i,rfl,ha,hL,hok,hi,hn,q⟩:=h
  have lu:us.length=L.length:=Paired.length hL
  have hiu:i < us.length:=by omega
  obtain⟨l,hl,hvl⟩:=paired_get hL (List.getElem?_eq_getElem hiu)
  have okl:=hok l (List.mem_of_getElem? hl)
  have eg:lineB L i=goodL L i l:=by unfold lineB;rw[hl]
  rw[eg] at q
  have hvl0:=hvl
  obtain⟨p,wa,la,gv,ov,ys,hv,h1,h2,h3,h4,h5,h6⟩:=hvl
  refine⟨_,(Za4 (ps_asg (Zb6 Zd5 (pv 0) (pv 1) (fun _ _=>rfl)) (pg_tup rfl (Zc9 (Zb5 (i:=2) sc_bj0.nd rfl (Or.inl rfl)) (Zc9 (Zb5 (i:=3) sc_bj0.nd rfl (Or.inr rfl)) (Zc9 (Zb5 (i:=4) sc_bj0.nd rfl (Or.inl rfl)) (Zc9 (Zb5 (i:=5) sc_bj0.nd rfl (Or.inl rfl)) (Zc9 (Zb5 (i:=6) sc_bj0.nd rfl (Or.inl rfl)) Zh4)))))))
  (Za4 (Zd9 (pt_not (pt_val (Za9 G_ar0 hr (by exact rfl) m_ar0 k_ar0 b_ar0 .nil Zc2 (Za0 (pv 3) Za1))))
    (Za8 (Zb4 pe_bl))
    Zc4)
  (Za4 (Zb2 (i:=7) sc_bj0.nd rfl (Or.inl rfl) (Za9 G_bn0 hr (by exact rfl) m_bn0 k_bn0 b_bn0 .nil Zc2 (Za0 (Zb6 Zd5 (pv 0) (pv 1) (fun _ _=>rfl)) Za1)))
  (Za4 (Zd9 ((pw_or (Zb0 (op_isN) (pv 7) Ze3 (Zb8 _)) (pw_or1 (Zb0 (op_ne) (Zd1 Zc3 (by exact rfl) m_len Ken.boot_len (Za0 (pv 7) Za1)) (Zd1 Zc3 (by exact rfl) m_len Ken.boot_len (Za0 (pv 6) Za1)) (Zb8 _))))).pt
    (Za8 (Zb4 pe_bl))
    Zc4)
  (Za4 (Zd9 (pt_not (pt_truth (Zd1 (call_allB rfl) (by exact rfl) m_all Ken.boot_all (Za0 (pe_lc (blkC (N':=["lean","number"]) (nt:=1) (ci:=[1]) ["lines","number","rule","wishes","goal","on","leans","needed"] (defScope s_bj0) rfl rfl (by decide +kernel) rfl (by decide +kernel) (by decide +kernel) rfl (by decide +kernel)) rfl (Ze4 (pv 6)) (fun _ _ _ _=>(Zb5 (i:=0) (show (["lean","number"]:List Str).Nodup from by decide +kernel) rfl (Or.inl rfl))) (fun _ _ _ _=>(pe_chain (op_le) (op_lt) Za5 (pv 0) (pv 1)))) Za1)) (fun _=>rfl)))
    (Za8 (Zb4 pe_bl))
    Zc4)
  (Za8 (Zb4 (Zd1 (call_allB rfl) (by exact rfl) m_all Ken.boot_all (Za0 (pe_lc (blkC (N':=["lean","need","wishes","lines"]) (nt:=2) (ci:=[3,0]) ["lines","number","rule","wishes","goal","on","leans","needed"] (defScope s_bj0) rfl rfl (by decide +kernel) rfl (by decide +kernel) (by decide +kernel) rfl (by decide +kernel)) rfl (pi_zip rfl m_zip (Za0 (pv 6) (Za0 (pv 7) Za1))) (fun _ _ _ _=>(pg_tupK (K:=K) (n:=2) rfl rfl (Zc9 (Zb5 (i:=0) (show (["lean","need","wishes","lines"]:List Str).Nodup from by decide +kernel) rfl (Or.inl rfl)) (Zc9 (Zb5 (i:=1) (show (["lean","need","wishes","lines"]:List Str).Nodup from by decide +kernel) rfl (Or.inl rfl)) Zh4)) rfl rfl)) (fun _ _ _ _=>(Za9 G_bq0 hr (by exact rfl) m_bq0 k_bq0 b_bq0 .nil Zc2 (Za0 (Zb6 (ix_listK (K:=K) rfl) (pv 3) (pv 0) (fun _ _=>rfl)) (Za0 (pv 2) (Za0 (pv 1) Za1)))))) Za1))))))))),?_⟩
  refine Za7 (fun σ' H'=>σ'=[some (.ref a),some (.int (i:Nat)),some (.str l.x),some (.ref wa),some gv,some ov,some (.ref la),none]∧H'=H) ?_ ?_
  rotate_left
  · intro C hC
    walk_at "rdx_1"
    exact⟨us,SqL.of ha,_,Zd6 (List.getElem?_eq_getElem hiu),p,hv,_,h1,rfl,_,_,rfl,_,_,rfl,_,_,rfl,_,_,rfl,_,_,rfl,rfl,hC _ _ ⟨rfl,rfl⟩⟩
  rintro σ1 H1 ⟨rfl,rfl⟩
  refine Za7 (fun σ' H'=>σ'=[some (.ref a),some (.int (i:Nat)),some (.str l.x),some (.ref wa),some gv,some ov,some (.ref la),none]∧Same H1 H'∧adjB l.ws=true) ?_ ?_
  rotate_left
  · intro C hC
    walk_at "rdx_1"
    refine⟨wa,ys,l.ws,rfl,h2,h3,okl.w,by have:=okl.wl;omega,fun H' e=>⟨_,rfl,?_⟩⟩
    cases hb:adjB l.ws with
    | true =>
      rw[if_neg (by decide)]
      exact hC _ _ ⟨rfl,e,hb⟩
    | false =>
      rw[if_pos (by decide)]
      have:=q _ e
      unfold goodL at this
      rw[hb] at this
      exact this
  rintro σ2 H2 ⟨rfl,e2,hadj⟩
  refine Za7 (fun σ' H'=>∃ nv,σ'=[some (.ref a),some (.int (i:Nat)),some (.str l.x),some (.ref wa),some gv,some ov,some (.ref la),some nv]∧Same H1 H'∧((needX l.R l.ws l.g l.on=none∧nv=.non)∨∃ nds na os,needX l.R l.ws l.g l.on=some nds∧nv=.ref na∧IsNds K H' na os∧os.map (·.2)=nds)) ?_ ?_
  rotate_left
  · intro C hC
    walk_at "rdx_1"
    refine⟨us,SqL.of (e2 _ _ ha),_,Zd6 (List.getElem?_eq_getElem hiu),us[i],l,rfl,hvl0.keep e2,okl,adjB_iff.mp hadj,fun hn H' e=>hC _ _ ⟨_,rfl,e2.trans e,.inl ⟨hn,rfl⟩⟩,fun nds hn na H' os e fr h he _ _=>hC _ _ ⟨_,rfl,e2.trans e,.inr ⟨nds,na,os,hn,rfl,h,he⟩⟩⟩
  rintro σ3 H3 ⟨nv,rfl,e3,hcase⟩
  refine Za7 (fun σ' H'=>H'=H3∧∃ nds na os,needX l.R l.ws l.g l.on=some nds∧nds.length=l.ls.length∧σ'=[some (.ref a),some (.int (i:Nat)),some (.str l.x),some (.ref wa),some gv,some ov,some (.ref la),some (.ref na)]∧IsNds K H' na os∧os.map (·.2)=nds) ?_ ?_
  rotate_left
  · intro C hC
    walk_at "rdx_1"
    rcases hcase with ⟨hn0,rfl⟩ | ⟨nds,na,os,hX,rfl,hNs,hos⟩
    · rw[if_pos rfl,if_pos trivial]
      have:=q _ e3
      unfold goodL at this
      rw[hadj,hn0] at this
      exact this
    · obtain⟨zs,hz,hZ⟩:=hNs
      have lz:zs.length=nds.length:=by rw[← hos,List.length_map];exact Paired.length hZ
      rw[if_neg (fun z=>nomatch z)]
      refine⟨na,rfl,zs,.inl (SqL.of hz),_,.inl (SqL.of (e3 _ _ h6)),?_⟩
      rw[List.length_map]
      by_cases hc:nds.length=l.ls.length
      · rw[decide_eq_true (show ((zs.length:Nat):Int)=((l.ls.length:Nat):Int) by omega),if_neg (by decide)]
        exact hC _ _ ⟨rfl,nds,na,os,hX,hc,rfl,⟨zs,hz,hZ⟩,hos⟩
      · rw[decide_eq_false (show ¬ ((zs.length:Nat):Int)=((l.ls.length:Nat):Int) by omega),if_pos (by rfl)]
        have:=q _ e3
        unfold goodL at this
        rw[hadj,hX] at this
        dsimp only at this
        rw[decide_eq_false hc] at this
        exact this
  rintro σ4 H4 ⟨rfl,nds,na,os,hX,hlen,rfl,hNs,hos⟩
  refine Za7 (fun σ' H'=>Same H1 H'∧σ'=[some (.ref a),some (.int (i:Nat)),some (.str l.x),some (.ref wa),some gv,some ov,some (.ref la),some (.ref na)]∧IsNds K H' na os∧(l.ls.all fun j=>decide (0≤j)&&decide (j < (i:Int)))=true) ?_ ?_
  rotate_left
  · intro C hC
    unfold tLC
    walk_at "rdx_1"
    refine⟨⟨_,SqL.of (e3 _ _ h6)⟩,fun acc hacc=>?_⟩
    refine lcW_list (xs:=l.ls.map V.int) (fun j ys H'=>Same H4 H'∧H' acc=some (.lst ys)∧ys=((l.ls.map fun j=>decide (0≤j)&&decide (j < (i:Int))).take j).map V.bl) ⟨Za3 hacc _,Za2,by simp⟩ (fun j ys H' hi ⟨e,h,hy⟩=>⟨h,?_,SqL.of ((e3.trans e) _ _ h6)⟩) (fun j x ys H' hx ⟨e,h,hy⟩ C' hC'=>?_) (fun ys H' ⟨e,h,hy⟩=>?_)
    · rw[hy,List.length_map,List.length_take,List.length_map]
      exact small1M (by have:=okl.ll;omega)
    · rw[List.getElem?_map] at hx
      cases hz:l.ls[j]? with
      | none=>rw[hz] at hx;cases hx
      | some z =>
      rw[hz] at hx
      cases hx
      have hnext:∀ b:Bool,(decide (0≤z)&&decide (z < (i:Int)))=b→C' (.bl b) H':=fun b hb=>hC' _ _ h ⟨e.write hacc,Za2,by rw[hy,List.take_succ,List.getElem?_map,hz,List.map_append,← hb];rfl⟩
      walk_at "rdx_1"
      refine⟨Ze8 (i:=0) rfl,?_⟩
      by_cases hc:(0:Int)≤z
      · rw[if_pos hc]
        exact hnext _ (by rw[decide_eq_true hc];rfl)
      · rw[if_neg hc]
        exact hnext _ (by rw[decide_eq_false hc];rfl)
    · have hlz:(l.ls.map fun j=>decide (0≤j)&&decide (j < (i:Int))).length=(l.ls.map V.int).length:=by rw[List.length_map,List.length_map]
      rw[← hlz,List.take_length] at hy
      refine⟨acc,rfl,l.ls.map fun j=>decide (0≤j)&&decide (j < (i:Int)),SqL.of (by rw[h,hy]),_,rfl,?_⟩
      rw[List.all_map]
      have S:=e3.trans e
      by_cases hc:(l.ls.all fun j=>decide (0≤j)&&decide (j < (i:Int)))=true
      · rw[if_neg (by rw[show (l.ls.all (id ∘ fun j=>decide (0≤j)&&decide (j < (i:Int))))=true from hc];decide)]
        exact hC _ _ ⟨S,rfl,hNs.keep e,hc⟩
      · have hc':(l.ls.all fun j=>decide (0≤j)&&decide (j < (i:Int)))=false:=by simpa using hc
        rw[if_pos (by rw[show (l.ls.all (id ∘ fun j=>decide (0≤j)&&decide (j < (i:Int))))=false from hc'];rfl)]
        have:=q _ S
        unfold goodL at this
        rw[hadj,hX] at this
        dsimp only at this
        rw[decide_eq_true hlen,hc'] at this
        exact this
  rintro σ5 H5 ⟨e5,rfl,hN5,hall⟩
  unfold tRet tLC
  walk_at "rdx_1"
  obtain⟨zs,hz,hZ⟩:=hN5
  have lz:zs.length=l.ls.length:=by rw[← hlen,← hos,List.length_map];exact Paired.length hZ
  have lo:os.length=l.ls.length:=by rw[← hlen,← hos,List.length_map]
  have hnk:=needX_ok (adjB_iff.mp hadj) okl.w ⟨okl.g,okl.gp⟩ hX
  refine⟨⟨_,SqL.of (e5 _ _ h6)⟩,⟨_,SqL.of hz⟩,fun acc hacc=>?_⟩
  refine lcW_zipM (xs:=l.ls.map V.int) (ys:=zs) (fun j ys H'=>Same H5 H'∧H' acc=some (.lst ys)∧ys=((List.zipWith (leanB L l.ws) l.ls nds).take j).map V.bl) l.ls.length (by rw[List.length_map];omega) ⟨Za3 hacc _,Za2,by simp⟩ (fun j ys H' hi ⟨e,h,hy⟩=>⟨h,?_,SqL.of ((e5.trans e) _ _ h6),SqL.of (e _ _ hz)⟩) (fun j x y ys H' T hx hy hT0 ⟨e,h,hzz⟩ C' hC'=>?_) (fun ys H' ⟨e,h,hy⟩=>?_)
  · rw[hy,List.length_map,List.length_take]
    exact small1M (by have:=okl.ll;omega)
  · rw[List.getElem?_map] at hx
    cases hj:l.ls[j]? with
    | none=>rw[hj] at hx;cases hx
    | some z =>
    rw[hj] at hx
    cases hx
    obtain⟨o,ho,hyo⟩:=paired_get hZ hy
    have hz2:=List.all_eq_true.mp hall z (List.mem_of_getElem? hj)
    simp only[Bool.and_eq_true,decide_eq_true_eq] at hz2
    obtain⟨n,rfl⟩:=Int.eq_ofNat_of_zero_le hz2.1
    have hnu:n < us.length:=by omega
    obtain⟨m,hm,hvm⟩:=paired_get hL (List.getElem?_eq_getElem hnu)
    have hnd:nds[j]?=some o.2:=by rw[← hos,List.getElem?_map,ho];rfl
    have okn:=hnk o.2 (List.mem_of_getElem? hnd)
    have eT:Same H5 (upd H' T (.tup [V.int (n:Nat),y])):=e.trans (Za3 hT0 _)
    walk_at "rdx_1"
    refine⟨_,.inl (.inl Za2),rfl,_,_,rfl,_,_,rfl,rfl,Wk.trans (Ze8 (i:=0) rfl) (Ze8 (i:=1) rfl),us,_,rfl,SqL.of ((e5.trans eT) _ _ ha),us[n],Zd6 (List.getElem?_eq_getElem hnu),us[n],y,wa,m,l.ws,o,rfl,hvm.keep (e5.trans eT),hok m (List.mem_of_getElem? hm),⟨⟨_,(e5.trans eT) _ _ h2,Za6 (e5.trans eT).keepT h3⟩,adjB_iff.mp hadj⟩,okl.w,by have:=okl.wl;omega,hyo.keep eT,okn.ok,by have:=okn.len;have:=okl.wl;omega,okn.gok.1,fun H6 e6=>hC' _ _ (e6 _ _ ((Za3 hT0 _) _ _ h)) ⟨(eT.trans e6).write hacc,Za2,?_⟩⟩
    have hzi:(List.zipWith (leanB L l.ws) l.ls nds)[j]?=some (servB m l.ws o.2):=by
      rw[List.getElem?_zipWith,hj,hnd]
      show some (leanB L l.ws ((n:Nat):Int) o.2)=_
      unfold leanB
      rw[Int.toNat_natCast,hm]
    rw[hzz,List.take_succ,hzi,List.map_append];rfl
  · have hlz:(List.zipWith (leanB L l.ws) l.ls nds).length=l.ls.length:=by rw[List.length_zipWith,hlen];omega
    rw[← hlz,List.take_length] at hy
    refine⟨acc,rfl,List.zipWith (leanB L l.ws) l.ls nds,SqL.of (by rw[h,hy]),?_⟩
    have:=q _ (e5.trans e)
    unfold goodL at this
    rw[hadj,hX] at this
    dsimp only at this
    rw[decide_eq_true hlen,hall] at this
    exact this
theorem ok_bg0 {k:Nat} {f_bg0:Addr} {fd_bg0:FuncData} (F_bg0:Fun K "check" "check" s_bg0 f_bg0 fd_bg0) {f_bj0:Addr} {fd_bj0:FuncData} (G_bj0:FnOk P w K mg base CX0 k f_bj0 fd_bj0 ["lines","number"] (sp_isgood K)) (m_bj0:mg "is_good"=some (.ref f_bj0)) (k_bj0:PySem.W.keepIn K (.ref f_bj0)=true) (b_bj0:Binds K fd_bj0 ["lines","number"] []) (m_range:mg "range"=none) (m_len:mg "len"=none):FnOk P w K mg base CX0 (k+1) f_bg0 fd_bg0 ["lines"] (sp_checkG K):=by
  refine F_bg0.ok sc_bg0 (fun vs H Q E h=>?_) (fun cdv A outer s H vs Q E hr h=>?_)
  · obtain⟨a,us,L,rfl,_⟩:=h
    rfl
  obtain⟨a,us,L,rfl,ha,hL,hok,hne,hn,hg,q⟩:=h
  have lu:us.length=L.length:=Paired.length hL
  refine⟨_,(Za4 (Zd9 (pt_not (pt_truth (pv 0) (fun _=>rfl)))
    (Za8 ps_never)
    Zc4)
  (Za4 (ps_for PassesOwn.never rfl (pi_range1 rfl m_range (Za0 (Zd1 Zc3 (by exact rfl) m_len Ken.boot_len (Za0 (pv 0) Za1)) Za1)) (Zb5 (i:=1) sc_bg0.nd rfl (Or.inl rfl))
    (Za8 (Zd9 (pt_not (pt_val (Za9 G_bj0 hr (by exact rfl) m_bj0 k_bj0 b_bj0 .nil Zc2 (Za0 (pv 0) (Za0 (pv 1) Za1)))))
    (Za8 ps_never)
    Zc4)))
  (Za8 (Zb4 pe_bl)))),?_⟩
  refine Za7 (fun σ' H'=>σ'=[some (.ref a),none]∧H'=H) ?_ ?_
  rotate_left
  · intro C hC
    walk_at "rdx_1"
    refine⟨_,.inl ⟨us,SqL.of ha,rfl⟩,?_⟩
    have hu:us.isEmpty=false:=by cases us with
      | nil=>exact absurd (List.eq_nil_of_length_eq_zero lu.symm) hne
      | cons _ _=>rfl
    rw[hu,if_neg (by decide)]
    exact hC _ _ ⟨rfl,rfl⟩
  rintro σ1 H1 ⟨rfl,rfl⟩
  refine Za7 (fun σ' H'=>∃ x1,σ'=[some (.ref a),x1]∧Same H1 H') ?_ ?_
  rotate_left
  · intro C hC
    walk_at "rdx_2"
    refine⟨_,.inl (SqL.of ha),by omega,by omega,?_⟩
    refine for_range (D:={ nx:=C,rt:=Q }) (n:=((us.length:Nat):Int).toNat) (lo:=0) (fun i σ' H'=>∃ x1,σ'=[some (.ref a),x1]∧Same H1 H') ⟨none,rfl,Same.refl _⟩ (fun i σ' H' hlt hp=>?_) (fun σ' H' ⟨x1,h1,h2⟩=>hC _ _ ⟨x1,h1,h2⟩)
    obtain⟨x1,rfl,e⟩:=hp
    walk_at "rdx_1"
    rw[show (0:Int)+(i:Int)=((i:Nat):Int) by omega]
    have hi:i < L.length:=by omega
    refine⟨a,us,L,i,rfl,e _ _ ha,IsLns.keep e hL,hok,hi,hn,fun H2 e2=>⟨_,rfl,?_⟩⟩
    rw[hg i hi,if_neg (by decide)]
    exact e.trans e2
  rintro σ2 H2 ⟨x1,rfl,e2⟩
  walk_at "rdx_1"
  exact q _ e2
end
noncomputable abbrev s_aa0:Stmt:=top 53
theorem sc_aa0:FnScope ["_law_script","_law_start","_law_most","_law_words_here","_law_first","_law_lines","_law_k"] ["_law_script","_law_start","_law_most","_law_words_here"] (defScope s_aa0):=⟨rfl,rfl,rfl,by decide +kernel,rfl,by decide +kernel,by decide +kernel⟩
noncomputable abbrev s_ah0:Stmt:=top 54
theorem sc_ah0:FnScope ["_law_lines"] ["_law_lines"] (defScope s_ah0):=⟨rfl,rfl,rfl,by decide +kernel,rfl,by decide +kernel,by decide +kernel⟩
noncomputable abbrev s_ad0:Stmt:=top 55
theorem sc_ad0:FnScope ["_law_line","_law_rule","_law_wishes","_law_goal","_law_on","_law_leans","_law_told","_law_lines","_law_some","_law_need"] ["_law_line"] (defScope s_ad0):=⟨rfl,rfl,rfl,by decide +kernel,rfl,by decide +kernel,by decide +kernel⟩
section
variable {P:Program} {w:World} {K:PySem.W.Frag} {mg:Str→Option Value} {base:Heap}
theorem ok_aa0 {k:Nat} {f_aa0:Addr} {fd_aa0:FuncData} (F_aa0:Fun K "_law_built" "_law_built" s_aa0 f_aa0 fd_aa0) {f_ao0:Addr} {fd_ao0:FuncData} (G_ao0:FnOk P w K mg base CX0 k f_ao0 fd_ao0 ["_law_cell_here","_law_many","_law_words_here"] (sp_stm21 K 2)) (m_ao0:mg "_law_statement"=some (.ref f_ao0)) (k_ao0:PySem.W.keepIn K (.ref f_ao0)=true) (b_ao0:Binds K fd_ao0 ["_law_cell_here","_law_many","_law_words_here"] []) {f_af0:Addr} {fd_af0:FuncData} (G_af0:FnOk P w K mg base CX0 k f_af0 fd_af0 ["_law_script","_law_k"] (sp_cell K)) (m_af0:mg "_law_cell"=some (.ref f_af0)) (k_af0:PySem.W.keepIn K (.ref f_af0)=true) (b_af0:Binds K fd_af0 ["_law_script","_law_k"] []) {f_ak0:Addr} {fd_ak0:FuncData} (G_ak0:FnOk P w K mg base CX0 k f_ak0 fd_ak0 ["_law_lines","_law_cell_here","_law_words_here"] (sp_next K)) (m_ak0:mg "_law_next"=some (.ref f_ak0)) (k_ak0:PySem.W.keepIn K (.ref f_ak0)=true) (b_ak0:Binds K fd_ak0 ["_law_lines","_law_cell_here","_law_words_here"] []) {f_aj0:Addr} {fd_aj0:FuncData} (G_aj0:FnOk P w K mg base CX0 k f_aj0 fd_aj0 ["_law_cell_here","_law_k"] (sp_mix)) (m_aj0:mg "_law_mix"=some (.ref f_aj0)) (k_aj0:PySem.W.keepIn K (.ref f_aj0)=true) (b_aj0:Binds K fd_aj0 ["_law_cell_here","_law_k"] []) (m_range:mg "range"=none) (m_min:mg "min"=none) (m_len:mg "len"=none):FnOk P w K mg base CX0 (k+1) f_aa0 fd_aa0 ["_law_script","_law_start","_law_most","_law_words_here"] (sp_built K):=by
  refine F_aa0.ok sc_aa0 (fun vs H Q E h=>?_) (fun cdv A outer s H vs Q E hr h=>?_)
  · obtain⟨a,wa,ns,st,most,ws,rfl,_⟩:=h
    rfl
  obtain⟨a,wa,ns,st,most,ws,rfl,hS,hl,s0,s1,m0,m1,hW,hw,q⟩:=h
  refine⟨_,(Za4 (Zb2 (i:=4) sc_aa0.nd rfl (Or.inl rfl) (Za9 G_ao0 hr (by exact rfl) m_ao0 k_ao0 b_ao0 .nil Zc2 (Za0 (Za9 G_af0 hr (by exact rfl) m_af0 k_af0 b_af0 .nil Zc2 (Za0 (pv 0) (Za0 (pv 1) Za1))) (Za0 Za5 (Za0 (pv 3) Za1)))))
  (Za4 (Zb2 (i:=5) sc_aa0.nd rfl (Or.inl rfl) (Zc5 (Za0 (Zc1 (Za0 Zb9 (Za0 (Zc5 (Za0 (pv 4) Za1)) (Za0 (pv 4) (Za0 Ze3 (Za0 (Zc5 Za1) Za1)))))) Za1)))
  (Za4 (ps_for PassesOwn.never rfl (pi_range2 rfl m_range (Za0 (Zc0 Zf3 (pv 1) Za5) (Za0 (Zd1 (call_min2 rfl) (by exact rfl) m_min Ken.boot_min (Za0 (Zd1 Zc3 (by exact rfl) m_len Ken.boot_len (Za0 (pv 0) Za1)) (Za0 (Zc0 Zf3 (pv 1) (pv 2)) Za1))) Za1))) (Zb5 (i:=6) sc_aa0.nd rfl (Or.inl rfl))
    (Za8 (ps_expr (pe_bm PySem.F.plainAttrs_list PySem.F.slot_list_append PySem.F.type_list_append Zg5 (pv 5) (Za0 (Za9 G_ak0 hr (by exact rfl) m_ak0 k_ak0 b_ak0 .nil Zc2 (Za0 (pv 5) (Za0 (Za9 G_aj0 hr (by exact rfl) m_aj0 k_aj0 b_aj0 .nil Zc2 (Za0 (Za9 G_af0 hr (by exact rfl) m_af0 k_af0 b_af0 .nil Zc2 (Za0 (pv 0) (Za0 (pv 6) Za1))) (Za0 (pv 6) Za1))) (Za0 (pv 3) Za1)))) Za1)))))
  (Za8 (Zb4 (pv 5)))))),?_⟩
  refine Za7 (fun σ' H'=>∃ fv f,σ'=[some (.ref a),some (.int st),some (.int most),some (.ref wa),some fv,none,none]∧Same H H'∧IsT K H' fv f∧f.ok∧f.parts≤1) ?_ ?_
  rotate_left
  · intro C hC
    walk_at "rdx_1"
    refine⟨a,ns,st,rfl,hS,hl,s0,by omega,_,_,wa,ws,rfl,cell_nn _ _,by decide,by decide,by decide,hW,hw,fun r H' t e mt=>hC _ _ ⟨r,t,rfl,e,mt.1,mt.2.1.ok hw.2.2,by have h:=mt.2.2.1;have:(1:Int).toNat=1:=rfl;omega⟩⟩
  rintro σ1 H1 ⟨fv,f,rfl,e1,hf,fok,fp⟩
  refine Za7 (fun σ' H'=>∃ la v l,σ'=[some (.ref a),some (.int st),some (.int most),some (.ref wa),some fv,some (.ref la),none]∧Same H H'∧H la=none∧H' la=some (.lst [v])∧IsLnN K la H' v l∧GL [l]) ?_ ?_
  rotate_left
  · intro C hC
    walk_at "rdx_1"
    refine⟨by decide,fun p hp=>⟨by decide,fun p1 hp1=>⟨by decide,fun p2 hp2=>⟨by decide,fun p3 hp3=>?_⟩⟩⟩⟩
    have t1:=Za3 hp (HO.lst [fv])
    have t2:=Za3 hp1 (HO.lst [])
    have t3:=Za3 hp2 (HO.tup [V.str "wish",V.ref p,fv,V.non,V.ref p1])
    have t4:=Za3 hp3 (HO.lst [V.ref p2])
    have hw1:IsW K (upd H1 p (HO.lst [fv])) p [f]:=⟨⟨[fv],Za2,.cons (hf.keep t1.keepT) .nil⟩,List.pairwise_singleton _ _⟩
    have S3:=(((e1.trans t1).trans t2).trans t3)
    have hln:=Zf4 (x:="wish") (R:=some .wish) (on:=none) (ls:=[]) hp2 (hw1.keep t2) (hf.keep (t1.trans t2).keepT) rfl Za2 (H0:=H) (e1.free hp) ((e1.trans t1).free hp1)
    have okln:OkLn ⟨"wish",some .wish,[f],f,none,[]⟩:=⟨rfl,Zf0 fok (by omega),by show 1≤60;decide,fok,by show f.parts≤100;omega,Nat.zero_le _⟩
    have gd:goodL [] 0 ⟨"wish",some .wish,[f],f,none,[]⟩=true:=good0 (List.pairwise_singleton _ _) (by show (if f∈[f] then _ else _)=_;rw[if_pos (List.mem_singleton.mpr rfl)]) rfl
    have ok9:OkL9 ⟨"wish",some .wish,[f],f,none,[]⟩:=⟨okln,by show 1≤9;decide,fun t ht=>by rw[List.mem_singleton.mp ht];show f.parts≤40;omega,by show f.parts≤40;omega⟩
    exact hC _ _ ⟨p3,.ref p2,_,rfl,S3.trans t4,S3.free hp3,Za2,hln.ln.n t4 hp3,GL.snoc (L:=[]) ⟨fun i hi=>absurd hi (Nat.not_lt_zero _),fun l hl=>(by cases hl),by decide⟩ ⟨okln,gd⟩ ok9 (by decide)⟩
  rintro σ2 H2 ⟨la,v,l,rfl,e2,f2,h2,hln,G⟩
  refine Za7 (fun σ' H'=>∃ x6 us L,σ'=[some (.ref a),some (.int st),some (.int most),some (.ref wa),some fv,some (.ref la),x6]∧Same H H'∧H' la=some (.lst us)∧IsLns K H' us L∧GL L∧L≠[]) ?_ ?_
  rotate_left
  · intro C hC
    walk_at "rdx_2"
    have hb:∃ b:Int,(if st+most < (((ns.map V.int).length:Nat):Int) then st+most else (((ns.map V.int).length:Nat):Int))=b∧0≤b∧b≤70:=by
      rw[List.length_map]
      by_cases h:st+most < ((ns.length:Nat):Int)
      · rw[if_pos h];exact⟨_,rfl,by omega,by omega⟩
      · rw[if_neg h];exact⟨_,rfl,by omega,by omega⟩
    obtain⟨b,eb,b0,b1⟩:=hb
    refine⟨_,.inl (e2.seq hS),by omega,by omega,?_⟩
    rw[eb]
    refine⟨by omega,by omega,?_⟩
    refine for_range (D:={ nx:=C,rt:=Q }) (n:=(b - (st+1)).toNat) (lo:=st+1) (fun i σ' H'=>∃ x6 us L,σ'=[some (.ref a),some (.int st),some (.int most),some (.ref wa),some fv,some (.ref la),x6]∧Same H H'∧H' la=some (.lst us)∧Paired (IsLnN K la H') us L∧GL L∧L≠[]∧L.length=i+1) ⟨none,[v],[l],rfl,e2,h2,.cons hln .nil,G,by simp,rfl⟩ (fun i σ' H' hlt hp=>?_) (fun σ' H' ⟨x6,us,L,z1,z2,z3,z4,z5,z6,_⟩=>hC _ _ ⟨x6,us,L,z1,z2,z3,Paired.mapP z4 fun _ _ z=>z.ln,z5,z6⟩)
    obtain⟨x6,us,L,rfl,e,h,hL,GG,hne,hlen⟩:=hp
    have lu:us.length=L.length:=Paired.length hL
    walk_at "rdx_1"
    refine⟨.inl ⟨rfl,_,SqL.of h⟩,a,ns,_,rfl,e.seq hS,hl,by omega,by omega,_,_,rfl,by omega,by omega,la,wa,us,L,_,ws,rfl,h,Paired.mapP hL fun _ _ z=>z.ln,GG,hne,mix_nn _ _,e.seq hW,hw,fun v l H5 e5 hv new ok9=>?_⟩
    have h5:=e5 _ _ h
    have hw5:Same H (upd H5 la (.lst (us++[v]))):=(e.trans e5).write f2
    refine⟨us,h5,small1M (by omega),hw5,us++[v],Za2,L++[l],?_,GG.snoc new ok9 (by omega),by simp,by rw[List.length_append,List.length_singleton,hlen]⟩
    exact Zd3 (Paired.mapP hL fun _ _ z=>(z.keep e5).write h5) (.cons ((hv.n h).write h5) .nil)
  rintro σ3 H3 ⟨x6,us,L,rfl,e3,h3,hL,GG,hne⟩
  walk_at "rdx_1"
  exact q _ _ _ _ e3 f2 h3 hL GG hne
theorem ok_ah0 {k:Nat} {f_ah0:Addr} {fd_ah0:FuncData} (F_ah0:Fun K "_law_copy" "_law_copy" s_ah0 f_ah0 fd_ah0) (m_list:mg "list"=none):FnOk P w K mg base CX0 (k+1) f_ah0 fd_ah0 ["_law_lines"] (sp_copyL K):=by
  refine F_ah0.ok sc_ah0 (fun vs H Q E h=>?_) (fun cdv A outer s H vs Q E hr h=>?_)
  · obtain⟨a,us,L,rfl,_⟩:=h
    rfl
  obtain⟨a,us,L,rfl,ha,hL,hok,hn,q⟩:=h
  refine⟨_,(Za8 (Zb4 (pe_lc (blk0 (N':=["_law_rule","_law_wishes","_law_goal","_law_on","_law_leans"]) (by decide +kernel) (by decide +kernel) rfl (by decide +kernel)) rfl (Ze4 (pv 0)) (fun _ _ _ _=>(pg_tupK (K:=K) (n:=5) rfl rfl (Zc9 (Zb5 (i:=0) (show (["_law_rule","_law_wishes","_law_goal","_law_on","_law_leans"]:List Str).Nodup from by decide +kernel) rfl (Or.inl rfl)) (Zc9 (Zb5 (i:=1) (show (["_law_rule","_law_wishes","_law_goal","_law_on","_law_leans"]:List Str).Nodup from by decide +kernel) rfl (Or.inl rfl)) (Zc9 (Zb5 (i:=2) (show (["_law_rule","_law_wishes","_law_goal","_law_on","_law_leans"]:List Str).Nodup from by decide +kernel) rfl (Or.inl rfl)) (Zc9 (Zb5 (i:=3) (show (["_law_rule","_law_wishes","_law_goal","_law_on","_law_leans"]:List Str).Nodup from by decide +kernel) rfl (Or.inl rfl)) (Zc9 (Zb5 (i:=4) (show (["_law_rule","_law_wishes","_law_goal","_law_on","_law_leans"]:List Str).Nodup from by decide +kernel) rfl (Or.inl rfl)) Zh4))))) rfl rfl)) (fun _ _ _ _=>(Zc1 (Za0 (pv 0) (Za0 (Ze9 (call_list_ofK (K:=K) rfl) (by exact rfl) m_list Ken.boot_list (Za0 (pv 1) Za1)) (Za0 (pv 2) (Za0 (pv 3) (Za0 (Ze9 (call_list_ofK (K:=K) rfl) (by exact rfl) m_list Ken.boot_list (Za0 (pv 4) Za1)) Za1)))))))))),?_⟩
  unfold tRet tLC
  walk_at "rdx_1"
  have lu:us.length=L.length:=Paired.length hL
  refine⟨⟨_,SqL.of ha⟩,fun acc hacc=>?_⟩
  refine lcW_list (xs:=us) (fun i ys H'=>Same H H'∧H' acc=some (.lst ys)∧Paired (IsLnN K acc H') ys (L.take i)) ⟨Za3 hacc _,Za2,.nil⟩ (fun i ys H' hi ⟨e,h,hy⟩=>⟨h,?_,SqL.of (e _ _ ha)⟩) (fun i x ys H' hx ⟨e,h,hy⟩ C' hC'=>?_) (fun ys H' ⟨e,h,hy⟩=>?_)
  · have:=Paired.length hy
    rw[List.length_take] at this
    exact small1M (by omega)
  · obtain⟨l,hl,hvl⟩:=paired_get hL hx
    obtain⟨p,wa,la,gv,ov,zs,rfl,h1,h2,h3,h4,h5,h6⟩:=hvl.keep e
    walk_at "rdx_1"
    refine⟨_,h1,rfl,_,_,rfl,_,_,rfl,_,_,rfl,_,_,rfl,_,_,rfl,rfl,(((Ze8 (i:=0) rfl).trans (Ze8 (i:=1) rfl)).trans (Ze8 (i:=2) rfl)).trans ((Ze8 (i:=3) rfl).trans (Ze8 (i:=4) rfl)),wa,rfl,zs,.inl (SqL.of h2),fun p1 hp1=>?_⟩
    have s1:=Za3 hp1 (HO.lst zs)
    refine⟨la,rfl,_,.inl (SqL.of (s1 _ _ h6)),fun p2 hp2=>⟨by decide,fun p3 hp3=>?_⟩⟩
    have s2:=Za3 hp2 (HO.lst (l.ls.map V.int))
    have s3:=Za3 hp3 (HO.tup [V.str l.x,V.ref p1,gv,ov,V.ref p2])
    have S:=(s1.trans s2).trans s3
    refine hC' _ _ (S _ _ h) ⟨(e.trans S).write hacc,Za2,?_⟩
    rw[take_snocL hl]
    have hacc3:=S _ _ h
    refine Zd3 (Paired.mapP hy fun _ _ z=>(z.keep S).write hacc3) (.cons (IsLnN.write hacc3 ?_) .nil)
    exact⟨p3,p1,p2,gv,ov,zs,rfl,.inl (.inl Za2),(s2.trans s3) _ _ Za2,Za6 S.keepT h3,h4.keep S.keepT,h5.keep S.keepT,s3 _ _ Za2,Ne.symm (Zb1 h hp1),Ne.symm (Zb1 (s1 _ _ h) hp2)⟩
  · rw[lu,List.take_length] at hy
    exact q acc ys _ e hacc h (Paired.mapP hy fun _ _ z=>z.ln)
theorem ok_ad0 {k:Nat} {f_ad0:Addr} {fd_ad0:FuncData} (F_ad0:Fun K "_law_by_needs" "_law_by_needs" s_ad0 f_ad0 fd_ad0) {aNoRule:Addr} {f_bo0:Addr} {fd_bo0:FuncData} (G_bo0:FnOk P w K mg base (CXe P w) k f_bo0 fd_bo0 ["rule","wishes","goal","on"] (sp_needs K aNoRule)) (m_bo0:mg "needs"=some (.ref f_bo0)) (k_bo0:PySem.W.keepIn K (.ref f_bo0)=true) (b_bo0:Binds K fd_bo0 ["rule","wishes","goal","on"] []) {f_bg0:Addr} {fd_bg0:FuncData} (G_bg0:FnOk P w K mg base CX0 k f_bg0 fd_bg0 ["lines"] (sp_checkG K)) (m_bg0:mg "check"=some (.ref f_bg0)) (k_bg0:PySem.W.keepIn K (.ref f_bg0)=true) (b_bg0:Binds K fd_bg0 ["lines"] []) (m_list:mg "list"=none) (m_range:mg "range"=none) (m_len:mg "len"=none):FnOk P w K mg base CX0 (k+1) f_ad0 fd_ad0 ["_law_line"] (sp_byneeds K):=by
  refine F_ad0.ok sc_ad0 (fun vs H Q E h=>?_) (fun cdv A outer s H vs Q E hr h=>?_)
  · obtain⟨v,l,rfl,_⟩:=h
    rfl
  obtain⟨v,l,rfl,hv,ok9,hs,hX,q⟩:=h
  refine⟨_,(Za4 (ps_asg (pv 0) (pg_tup rfl (Zc9 (Zb5 (i:=1) sc_ad0.nd rfl (Or.inl rfl)) (Zc9 (Zb5 (i:=2) sc_ad0.nd rfl (Or.inl rfl)) (Zc9 (Zb5 (i:=3) sc_ad0.nd rfl (Or.inl rfl)) (Zc9 (Zb5 (i:=4) sc_ad0.nd rfl (Or.inl rfl)) (Zc9 (Zb5 (i:=5) sc_ad0.nd rfl (Or.inl rfl)) Zh4)))))))
  (Za4 (Zb2 (i:=6) sc_ad0.nd rfl (Or.inl rfl) (Za9 G_bo0 hr (by exact rfl) m_bo0 k_bo0 b_bo0 .nil passE0 (Za0 (pv 1) (Za0 (Ze9 Zd8 (by exact rfl) m_list Ken.boot_list (Za0 (pv 2) Za1)) (Za0 (pv 3) (Za0 (pv 4) Za1))))))
  (Za4 (Zb2 (i:=7) sc_ad0.nd rfl (Or.inl rfl) (Zc5 Za1))
  (Za4 (ps_for PassesOwn.never rfl (Ze4 (pv 6)) (pg_tup rfl (Zc9 (Zb5 (i:=8) sc_ad0.nd rfl (Or.inl rfl)) (Zc9 (Zb5 (i:=9) sc_ad0.nd rfl (Or.inl rfl)) Zh4)))
    (Za4 (Zd9 (Zb0 (op_notInT (Zg1 hr)) (pv 9) (pv 8) (by with_unfolding_all rfl))
    (Za8 (Zb4 pe_bl))
    Zc4)
  (Za8 (ps_expr (pe_bm PySem.F.plainAttrs_list PySem.F.slot_list_append PySem.F.type_list_append Zg5 (pv 7) (Za0 (Zc1 (Za0 Zb9 (Za0 (Ze9 Zd8 (by exact rfl) m_list Ken.boot_list (Za0 (pv 8) Za1)) (Za0 (pv 9) (Za0 Ze3 (Za0 (Zc5 Za1) Za1)))))) Za1))))))
  (Za4 (ps_expr (pe_bm PySem.F.plainAttrs_list PySem.F.slot_list_append PySem.F.type_list_append Zg5 (pv 7) (Za0 (Zc1 (Za0 (pv 1) (Za0 (Ze9 Zd8 (by exact rfl) m_list Ken.boot_list (Za0 (pv 2) Za1)) (Za0 (pv 3) (Za0 (pv 4) (Za0 (pe_listR1 rfl (by exact rfl) m_list (by exact rfl) m_range (Za0 (Zd1 Zc3 (by exact rfl) m_len Ken.boot_len (Za0 (pv 6) Za1)) Za1)) Za1)))))) Za1)))
  (Za8 (Zb4 (Zh9 (op_isB) (Za9 G_bg0 hr (by exact rfl) m_bg0 k_bg0 b_bg0 .nil Zc2 (Za0 (pv 7) Za1)) pe_bl (Zb8 _))))))))),?_⟩
  obtain⟨p,wa,la,gv,ov,us,rfl,h1,h2,h3,h4,h5,h6⟩:=hv
  have lu:us.length=l.ws.length:=Paired.length h3
  have w9:=ok9.w9
  refine Za7 (fun σ' H'=>σ'=[some (.ref p),some (.str l.x),some (.ref wa),some gv,some ov,some (.ref la),none,none,none,none]∧H'=H) ?_ ?_
  rotate_left
  · intro C hC
    walk_at "rdx_1"
    exact⟨_,h1,rfl,_,_,rfl,_,_,rfl,_,_,rfl,_,_,rfl,_,_,rfl,rfl,hC _ _ ⟨rfl,rfl⟩⟩
  rintro σ1 H1 ⟨rfl,rfl⟩
  refine Za7 (fun σ' H'=>∃ nds na os,σ'=[some (.ref p),some (.str l.x),some (.ref wa),some gv,some ov,some (.ref la),some (.ref na),none,none,none]∧Same H1 H'∧needX l.R l.ws l.g l.on=some nds∧IsNds K H' na os∧os.map (·.2)=nds) ?_ ?_
  rotate_left
  · intro C hC
    walk_at "rdx_1"
    refine⟨us,.inl (SqL.of h2),fun p1 hp1=>?_⟩
    have s1:=Za3 hp1 (HO.lst us)
    refine⟨l.x,l.R,p1,gv,ov,l.ws,l.g,l.on,rfl,ok9.ok.r,⟨⟨us,Za2,Za6 s1.keepT h3⟩,hs⟩,h4.keep s1.keepT,h5.keep s1.keepT,ok9.ok.w,ok9.ok.g,ok9.ok.gp,by omega,fun hn=>absurd hn hX,fun nds hn na H' os e fr h he _ _=>hC _ _ ⟨nds,na,os,rfl,s1.trans e,hn,h,he⟩⟩
  rintro σ2 H2 ⟨nds,na,os,rfl,e2,hX2,hN,hos⟩
  obtain⟨zs,hz,hZ⟩:=hN
  have lo:os.length=nds.length:=by rw[← hos,List.length_map]
  have lz:zs.length=nds.length:=by rw[← lo];exact Paired.length hZ
  have hnk:=needX_ok hs ok9.ok.w ⟨ok9.ok.g,ok9.ok.gp⟩ hX2
  have nd2:nds.length≤2:=needX_two hX2
  refine Za7 (fun σ' H'=>∃ lb,σ'=[some (.ref p),some (.str l.x),some (.ref wa),some gv,some ov,some (.ref la),some (.ref na),some (.ref lb),none,none]∧Same H2 H'∧H2 lb=none∧H' lb=some (.lst [])) ?_ ?_
  rotate_left
  · intro C hC
    walk_at "rdx_1"
    exact⟨by decide,fun p1 hp1=>hC _ _ ⟨p1,rfl,Za3 hp1 _,hp1,Za2⟩⟩
  rintro σ3 H3 ⟨lb,rfl,e3,f3,h3b⟩
  refine Za7 (fun σ' H'=>∃ x8 x9 ys,σ'=[some (.ref p),some (.str l.x),some (.ref wa),some gv,some ov,some (.ref la),some (.ref na),some (.ref lb),x8,x9]∧Same H2 H'∧H' lb=some (.lst ys)∧Paired (IsLnN K lb H') ys (nds.map wishL)∧∀ n∈nds,n.2∈n.1) ?_ ?_
  rotate_left
  · intro C hC
    walk_at "rdx_2"
    refine⟨⟨_,SqL.of (e3 _ _ hz)⟩,?_⟩
    refine for_list (D:={ nx:=C,rt:=Q }) (xs:=zs) (fun i σ' H'=>∃ x8 x9 ys,σ'=[some (.ref p),some (.str l.x),some (.ref wa),some gv,some ov,some (.ref la),some (.ref na),some (.ref lb),x8,x9]∧Same H2 H'∧H' lb=some (.lst ys)∧Paired (IsLnN K lb H') ys ((nds.take i).map wishL)∧∀ n∈nds.take i,n.2∈n.1) ⟨none,none,[],rfl,e3,h3b,.nil,fun n h=>(by cases h)⟩ (fun i σ' H' _ ⟨_,_,_,_,e,_⟩=>SqL.of (e _ _ hz)) (fun i v σ' H' hv hP=>?_) (fun σ' H' ⟨x8,x9,ys,z1,z2,z3,z4,z5⟩=>hC _ _ ⟨x8,x9,ys,z1,z2,z3,by rw[lz,List.take_length] at z4;exact z4,by rw[lz,List.take_length] at z5;exact z5⟩)
    obtain⟨x8,x9,ys,rfl,e,hb,hP,hin⟩:=hP
    obtain⟨o,ho,hvo⟩:=paired_get hZ hv
    have hnd:nds[i]?=some o.2:=by rw[← hos,List.getElem?_map,ho];rfl
    have okn:=hnk o.2 (List.mem_of_getElem? hnd)
    obtain⟨pv,gvv,rfl,v1,v2,v3⟩:=hvo.keep e
    obtain⟨⟨ks,v4,v5⟩,vS⟩:=v2
    have lks:ks.length=o.2.1.length:=Paired.length v5
    have ln:=okn.len
    show gTup _ _ _ _ _ _ _
    walk_at "rdx_1"
    refine⟨_,v1,rfl,_,_,rfl,_,_,rfl,rfl,o.2.2,v3,o.1,rfl,ks,SqL.of v4,o.2.1,v5,okn.gok.1,fun t ht=>(okn.ok t ht).1,by have:=okn.gok.2;have:=Zd2 o.2.2;omega,?_⟩
    by_cases hc:o.2.2∈o.2.1
    rotate_left
    · rw[if_pos (by rw[if_pos trivial,decide_eq_false hc];rfl)]
      exact q _ (e2.trans e)
    rw[if_neg (by rw[if_pos trivial,decide_eq_true hc];exact Bool.false_ne_true)]
    refine⟨.inl ⟨rfl,_,SqL.of hb⟩,o.1,rfl,ks,.inl (SqL.of v4),fun p1 hp1=>⟨by decide,fun p2 hp2=>⟨by decide,fun p3 hp3=>?_⟩⟩⟩
    have s1:=Za3 hp1 (HO.lst ks)
    have s2:=Za3 hp2 (HO.lst [])
    have s3:=Za3 hp3 (HO.tup [V.str "wish",V.ref p1,gvv,V.non,V.ref p2])
    have S:=(s1.trans s2).trans s3
    have hb3:=S _ _ hb
    have ly:=Paired.length hP
    rw[List.length_map,List.length_take] at ly
    refine⟨ys,hb3,small1M (by omega),(e.trans S).write f3,ys++[.ref p3],Za2,?_,fun m hm=>?_⟩
    · rw[take_snocL hnd,List.map_append]
      refine Zd3 (Paired.mapP hP fun _ _ z=>(z.keep S).write hb3) (.cons (IsLnN.write hb3 ?_) .nil)
      exact⟨p3,p1,p2,gvv,.non,ks,rfl,.inl (.inl Za2),(s2.trans s3) _ _ Za2,Za6 S.keepT v5,v3.keep S.keepT,rfl,s3 _ _ Za2,Ne.symm (Zb1 hb hp1),Ne.symm (Zb1 (s1 _ _ hb) hp2)⟩
    · rw[take_snocL hnd] at hm
      rcases List.mem_append.mp hm with z | z
      · exact hin m z
      · rw[List.mem_singleton.mp z];exact hc
  rintro σ4 H4 ⟨x8,x9,ys,rfl,e4,hb,hP,hin⟩
  have S4:=e2.trans e4
  have ly:ys.length=nds.length:=by have:=Paired.length hP;rw[List.length_map] at this;exact this
  refine Za7 (fun σ' H'=>∃ v,σ'=[some (.ref p),some (.str l.x),some (.ref wa),some gv,some ov,some (.ref la),some (.ref na),some (.ref lb),x8,x9]∧Same H1 H'∧H' lb=some (.lst (ys++[v]))∧IsLns K H' (ys++[v]) (nds.map wishL++[⟨l.x,l.R,l.ws,l.g,l.on,(List.range' 0 nds.length).map fun n=>((n:Nat):Int)⟩])) ?_ ?_
  rotate_left
  · intro C hC
    walk_at "rdx_1"
    refine⟨.inl ⟨rfl,_,SqL.of hb⟩,us,.inl (SqL.of (S4 _ _ h2)),fun p1 hp1=>?_⟩
    have s1:=Za3 hp1 (HO.lst us)
    refine⟨zs,.inl (SqL.of ((e4.trans s1) _ _ hz)),_,rfl,by omega,fun p2 hp2=>⟨by decide,fun p3 hp3=>?_⟩⟩
    have s2:=Za3 hp2 (HO.lst (natsV (List.range' 0 zs.length)))
    have s3:=Za3 hp3 (HO.tup [V.str l.x,V.ref p1,gv,ov,V.ref p2])
    have S:=(s1.trans s2).trans s3
    have hb3:=S _ _ hb
    have SS:=S4.trans S
    refine⟨ys,hb3,small1M (by omega),hC _ _ ⟨.ref p3,rfl,SS.write (e2.free f3),Za2,?_⟩⟩
    refine Zd3 (Paired.mapP hP fun _ _ z=>((z.keep S).write hb3).ln) (.cons (IsLnN.ln (IsLnN.write hb3 ?_)) .nil)
    refine⟨p3,p1,p2,gv,ov,us,rfl,.inl (.inl Za2),(s2.trans s3) _ _ Za2,Za6 SS.keepT h3,h4.keep SS.keepT,h5.keep SS.keepT,s3 _ _ (by rw[Za2,lz];unfold natsV;rw[List.map_map];rfl),Ne.symm (Zb1 hb hp1),Ne.symm (Zb1 (s1 _ _ hb) hp2)⟩
  rintro σ5 H5 ⟨v,rfl,e5,hb5,hL5⟩
  walk_at "rdx_1"
  have okA:∀ m∈nds.map wishL,OkLn m:=fun m hm=>by
    obtain⟨nd,hnd,rfl⟩:=List.mem_map.mp hm
    have okn:=hnk nd hnd
    exact⟨rfl,okn.ok,by have:=okn.len;show nd.1.length≤60;omega,okn.gok.1,okn.gok.2,Nat.zero_le _⟩
  have okN:OkLn ⟨l.x,l.R,l.ws,l.g,l.on,(List.range' 0 nds.length).map fun n=>((n:Nat):Int)⟩:=⟨ok9.ok.r,ok9.ok.w,ok9.ok.wl,ok9.ok.g,ok9.ok.gp,by show ((List.range' 0 nds.length).map fun n=>((n:Nat):Int)).length≤100;rw[List.length_map,List.length_range'];omega⟩
  have lA:(nds.map wishL).length=nds.length:=List.length_map _
  refine⟨lb,_,_,rfl,hb5,hL5,fun m hm=>(List.mem_append.mp hm).elim (okA m) fun z=>by rw[List.mem_singleton.mp z];exact okN,by simp,by rw[List.length_append,lA,List.length_singleton];omega,fun i hi=>?_,fun H' e=>⟨.inr ⟨_,rfl⟩,?_⟩⟩
  · rw[List.length_append,lA,List.length_singleton] at hi
    rcases Nat.lt_or_ge i nds.length with z | z
    · rw[lineB_app (by omega)]
      have hnd:nds[i]?=some nds[i]:=List.getElem?_eq_getElem z
      have hm:=List.getElem_mem z
      unfold lineB
      rw[List.getElem?_map,hnd]
      show goodL _ i (wishL nds[i])=true
      exact good0 (hnk _ hm).rise (by show (if nds[i].2∈nds[i].1 then _ else _)=_;rw[if_pos (hin _ hm)]) rfl
    · have ei:i=nds.length:=by omega
      subst ei
      unfold lineB
      rw[List.getElem?_append_right (by omega),lA,Nat.sub_self]
      show goodL (nds.map wishL++[_]) nds.length _=true
      rw[goodL_app (by omega)]
      refine goodL_mk hs hX2 (by show nds.length=((List.range' 0 nds.length).map fun n=>((n:Nat):Int)).length;rw[List.length_map,List.length_range']) fun kk jj nd g1 g2=>?_
      have hk:kk < nds.length:=(List.getElem?_eq_some_iff.mp g2).1
      have g1':((List.range' 0 nds.length).map fun n=>((n:Nat):Int))[kk]?=some jj:=g1
      rw[List.getElem?_map,List.getElem?_range' hk] at g1'
      refine⟨kk,wishL nd,?_,hk,by rw[List.getElem?_map,g2];rfl,rfl,fun t ht=>.inl ht⟩
      have:=Option.some.inj g1'
      rw[← this]
      show ((0+1*kk:Nat):Int)=(kk:Int)
      omega
  · have:=q _ (e5.trans e)
    rw[decide_eq_true rfl]
    exact this
end
noncomputable def Ltrs (z:Str) (n:Nat):Prop:=z.cps.toList.length=n∧∀ c∈z.cps.toList,97≤c∧c≤122
theorem small_ok:∀ c∈("abcdefghijklmnopqrstuvwxyz":Str).cps.toList,97≤c∧c≤122:=by decide +kernel
theorem small_len:("abcdefghijklmnopqrstuvwxyz":Str).cps.toList.length=26:=by decide +kernel
theorem slice_to (x:Str) (a:Nat) (ha:a≤x.length):(Txt.slice x none (some (a:Int))).cps.toList=x.cps.toList.take a:=by
  have:=slice_cps x 0 a (Nat.zero_le _) ha
  have e:Txt.slice x none (some (a:Int))=Txt.slice x (some ((0:Nat):Int)) (some (a:Int)):=by
    unfold Txt.slice Builtin.Str.strSliceIndices
    have h0:max (0:Int) (min 0 (x.length:Int))=0:=by omega
    simp[h0]
  rw[e,this]
  simp
theorem slice_from (x:Str) (a:Nat) (ha:a≤x.length):(Txt.slice x (some (a:Int)) none).cps.toList=x.cps.toList.drop a:=by
  have:=slice_cps x a x.length ha (Nat.le_refl _)
  have e:Txt.slice x (some (a:Int)) none=Txt.slice x (some (a:Int)) (some (x.length:Int)):=by
    unfold Txt.slice Builtin.Str.strSliceIndices
    have h1:max (0:Int) (min (if (x.length:Int) < 0 then (x.length:Int)+x.length else x.length) x.length)=x.length:=by split<;>omega
    simp[h1]
  rw[e,this]
  rw[List.take_of_length_le]
  rw[List.length_drop,← len_cps];omega
theorem word_put {z:Str} {n a d:Nat} (h:Ltrs z n) (hn:n≤8) (ha:a < n) (h1:97≤d) (h2:d≤122):Word (Txt.slice z none (some (a:Int))++(⟨#[d]⟩:Str)++Txt.slice z (some ((a:Int)+1)) none):=by
  have hl:z.length=n:=by rw[len_cps];exact h.1
  have e2:((a:Int)+1)=((a+1:Nat):Int):=by omega
  unfold Word
  rw[cps_append,cps_append,e2,slice_to z a (by omega),slice_from z (a+1) (by omega)]
  have hz:=h.1
  refine⟨?_,?_,fun c hc=>?_⟩
  · simp only[List.length_append,List.length_take,List.length_drop,List.length_cons,List.length_nil];omega
  · simp only[List.length_append,List.length_take,List.length_drop,List.length_cons,List.length_nil];omega
  · simp only[List.mem_append,List.mem_cons,List.not_mem_nil,or_false] at hc
    rcases hc with (hc | rfl) | hc
    · exact h.2 c (List.mem_of_mem_take hc)
    · exact⟨h1,h2⟩
    · exact h.2 c (List.mem_of_mem_drop hc)
theorem ltrs_join {ds:List Nat} (h:∀ d∈ds,97≤d∧d≤122):Ltrs (Txt.join "" (ds.map fun d=>(⟨#[d]⟩:Str))) ds.length:=by
  have e:(Txt.join "" (ds.map fun d=>(⟨#[d]⟩:Str))).cps.toList=ds:=by
    rw[show ("":Str)=Str.empty from rfl,join_cps,List.map_map]
    clear h
    induction ds with
    | nil=>rfl
    | cons d ds ih=>rw[List.map_cons,List.flatten_cons,ih];rfl
  unfold Ltrs
  rw[e]
  exact⟨rfl,h⟩
theorem sum_ones (ds:List Nat):((ds.map fun d=>(⟨#[d]⟩:Str)).map (·.length)).sum=ds.length:=by
  rw[List.map_map]
  induction ds with
  | nil=>rfl
  | cons d ds ih=>rw[List.map_cons,List.sum_cons,ih,List.length_cons];show 1+_=_;omega
noncomputable def sp_words21:Sp:=fun vs H Q _=>∃ c:Int,vs=[.int c]∧0≤c∧∀ (r:Addr) (H':Hp) (ws:List Str),Same H H'→H r=none→H' r=some (.lst (ws.map V.str))→Words ws→Q (.ref r) H'
section
variable {P:Program} {w:World} {K:PySem.W.Frag} {mg:Str→Option Value} {base:Heap}
theorem ok_ap0 {k:Nat} {f_ap0:Addr} {fd_ap0:FuncData} (F_ap0:Fun K "_law_words" "_law_words" s_ap0 f_ap0 fd_ap0) {f_aj0:Addr} {fd_aj0:FuncData} (G_aj0:FnOk P w K mg base CX0 k f_aj0 fd_aj0 ["_law_cell_here","_law_k"] (sp_mix)) (m_aj0:mg "_law_mix"=some (.ref f_aj0)) (k_aj0:PySem.W.keepIn K (.ref f_aj0)=true) (b_aj0:Binds K fd_aj0 ["_law_cell_here","_law_k"] []) (m_range:mg "range"=none):FnOk P w K mg base CX0 (k+1) f_ap0 fd_ap0 ["_law_cell_here"] sp_words21:=by
  refine F_ap0.ok sc_ap0 (fun vs H Q E h=>?_) (fun cdv A outer s H vs Q E hr h=>?_)
  · obtain⟨c,rfl,_⟩:=h
    rfl
  obtain⟨c,rfl,hc0,q⟩:=h
  refine⟨_,(Za4 (Zb2 (i:=1) sc_ap0.nd rfl (Or.inr rfl) Zb9)
  (Za4 (Zb2 (i:=2) sc_ap0.nd rfl (Or.inl rfl) (Zc0 Zf3 Za5 (Zc0 Ze5 (pv 0) Za5)))
  (Za4 (Zb2 (i:=3) sc_ap0.nd rfl (Or.inl rfl) (Zc0 Ze5 (Zc0 Ze0 (pv 0) Za5) (pv 2)))
  (Za4 (Zb2 (i:=4) sc_ap0.nd rfl (Or.inl rfl) (Zc0 op_mulS Zb9 (pv 2)))
  (Za4 (Zd9 (Zb0 (Zg2) (Zc0 Ze5 (Zc0 Ze0 (pv 0) Za5) Za5) Za5 (Zb8 _))
    (Za4 (ps_setLC (i:=5) sc_ap0.nd rfl (Or.inl rfl) (blkC (N':=["_law_k","_law_small","_law_cell_here"]) (nt:=1) (ci:=[1,0]) ["_law_cell_here","_law_small","_law_size","_law_at","_law_stem","_law_signs","_law_first","_law_found_here","_law_k","_law_sign"] (defScope s_ap0) rfl rfl (by decide +kernel) rfl (by decide +kernel) (by decide +kernel) rfl (by decide +kernel)) rfl (pi_range1 rfl m_range (Za0 (pv 2) Za1)) (fun _ _ _ _=>(Zb5 (i:=0) (show (["_law_k","_law_small","_law_cell_here"]:List Str).Nodup from by decide +kernel) rfl (Or.inl rfl))) (fun _ _ _ _=>(Zb6 ix_str (pv 1) (Zc0 Ze5 (Za9 G_aj0 hr (by exact rfl) m_aj0 k_aj0 b_aj0 .nil Zc2 (Za0 (pv 2) (Za0 (Zc0 Zf3 Za5 (pv 0)) Za1))) Za5) (fun _ _=>rfl))) rfl)
  (Za8 (Zb2 (i:=4) sc_ap0.nd rfl (Or.inl rfl) (pe_bm PySem.F.plainAttrs_str PySem.F.slot_str_join PySem.F.type_str_join mt_join Zb9 (Za0 (pv 5) Za1)))))
    Zc4)
  (Za4 (Zb2 (i:=6) sc_ap0.nd rfl (Or.inl rfl) (Zc0 Ze5 (Zc0 Ze0 (pv 0) Za5) Za5))
  (Za4 (Zb2 (i:=7) sc_ap0.nd rfl (Or.inl rfl) (Zc5 Za1))
  (Za4 (ps_for PassesOwn.never rfl (pi_range1 rfl m_range (Za0 (Zc0 Zf3 Za5 (Zc0 Ze5 (Zc0 Ze0 (pv 0) Za5) Za5)) Za1)) (Zb5 (i:=8) sc_ap0.nd rfl (Or.inl rfl))
    (Za4 (Zb2 (i:=9) sc_ap0.nd rfl (Or.inl rfl) (Zb6 ix_str (pv 1) (Zc0 Ze5 (Zc0 Zf3 (pv 6) (Zc0 op_mul Za5 (pv 8))) Za5) (fun _ _=>rfl)))
  (Za8 (ps_expr (pe_bm PySem.F.plainAttrs_list PySem.F.slot_list_append PySem.F.type_list_append Zg5 (pv 7) (Za0 (Zc0 op_add_str (Zc0 op_add_str (Zh2 sl_str (pv 4) po_none (po_some (pv 3))) (pv 9)) (Zh2 sl_str (pv 4) (po_some (Zc0 Zf3 (pv 3) Za5)) po_none)) Za1))))))
  (Za8 (Zb4 (pv 7))))))))))),?_⟩
  have s0:=Int.emod_nonneg c (show (8:Int)≠0 by decide)
  have s1:=Int.emod_lt_of_pos c (show (0:Int) < 8 by decide)
  have a0:=Int.emod_nonneg (c / 8) (show 1+c % 8≠0 by omega)
  have a1:=Int.emod_lt_of_pos (c / 8) (show 0 < 1+c % 8 by omega)
  refine Za7 (fun σ' H'=>σ'=[some (.int c),some (.str "abcdefghijklmnopqrstuvwxyz"),none,none,none,none,none,none,none,none]∧H'=H) ?_ ?_
  rotate_left
  · intro C hC
    walk_at "rdx_1"
    exact hC _ _ ⟨rfl,rfl⟩
  rintro σ1 H1 ⟨rfl,rfl⟩
  refine Za7 (fun σ' H'=>σ'=[some (.int c),some (.str "abcdefghijklmnopqrstuvwxyz"),some (.int (1+c % 8)),none,none,none,none,none,none,none]∧H'=H1) ?_ ?_
  rotate_left
  · intro C hC
    walk_at "rdx_1"
    exact⟨by decide,hC _ _ ⟨rfl,rfl⟩⟩
  rintro σ2 H2 ⟨rfl,rfl⟩
  refine Za7 (fun σ' H'=>σ'=[some (.int c),some (.str "abcdefghijklmnopqrstuvwxyz"),some (.int (1+c % 8)),some (.int (c / 8 % (1+c % 8))),none,none,none,none,none,none]∧H'=H2) ?_ ?_
  rotate_left
  · intro C hC
    walk_at "rdx_1"
    exact⟨⟨by decide,by decide⟩,by omega,hC _ _ ⟨rfl,rfl⟩⟩
  generalize ea:c / 8 % (1+c % 8)=at' at a0 a1
  generalize es:1+c % 8=size at a1
  obtain⟨an,rfl⟩:=Int.eq_ofNat_of_zero_le a0
  have z1:1≤size:=by omega
  have z8:size≤8:=by omega
  rintro σ3 H3 ⟨rfl,rfl⟩
  refine Za7 (fun σ' H'=>σ'=[some (.int c),some (.str "abcdefghijklmnopqrstuvwxyz"),some (.int size),some (.int (an:Int)),some (.str (Txt.mul "k" size)),none,none,none,none,none]∧H'=H3) ?_ ?_
  rotate_left
  · intro C hC
    walk_at "rdx_1"
    exact⟨by decide,by omega,by omega,hC _ _ ⟨rfl,rfl⟩⟩
  rintro σ4 H4 ⟨rfl,rfl⟩
  have hk:Ltrs (Txt.mul "k" size) size.toNat:=by
    unfold Ltrs
    rw[show ("k":Str)=⟨#[107]⟩ from rfl,PyProof.Rows.mul_one_list]
    exact⟨List.length_replicate,fun d hd=>by rw[List.mem_replicate] at hd;omega⟩
  refine Za7 (fun σ' H'=>∃ z x5,σ'=[some (.int c),some (.str "abcdefghijklmnopqrstuvwxyz"),some (.int size),some (.int (an:Int)),some (.str z),x5,none,none,none,none]∧Same H4 H'∧Ltrs z size.toNat) ?_ ?_
  rotate_left
  · intro C hC
    walk_at "rdx_1"
    refine⟨⟨by decide,by decide⟩,by decide,ite2 (fun _=>?_) (fun _=>hC _ _ ⟨_,_,rfl,Same.refl _,hk⟩)⟩
    unfold tLC
    walk_at "rdx_1"
    refine⟨by omega,by omega,fun acc hacc=>?_⟩
    refine lcW_range (n:=size.toNat) (lo:=0) (fun i ys H5=>H5=upd H4 acc (.lst ys)∧∃ ds:List Nat,ys=(ds.map fun d=>(⟨#[d]⟩:Str)).map V.str∧ds.length=i∧∀ x∈ds,97≤x∧x≤122) ⟨rfl,[],rfl,rfl,by simp⟩ (fun i ys H5 hi ⟨e,ds,e2,e3,_⟩=>?_) (fun i ys H5 hi ⟨e,ds,e2,e3,e4⟩ C' hC'=>?_) (fun ys H5 ⟨e,ds,e2,e3,e4⟩=>?_)
    · subst e;subst e2
      refine⟨Za2,?_⟩
      rw[List.length_map,List.length_map,e3];exact Zb3 (by omega)
    · subst e;subst e2
      walk_at "rdx_1"
      have m0:=Int.emod_nonneg (mix c (60+(0+(i:Int)))) (show (26:Int)≠0 by decide)
      have m1:=Int.emod_lt_of_pos (mix c (60+(0+(i:Int)))) (show (0:Int) < 26 by decide)
      obtain⟨d,hd,ed⟩:=at_list (xs:=("abcdefghijklmnopqrstuvwxyz":Str).cps.toList) (i:=mix c (60+(0+(i:Int))) % 26) m0 (by rw[small_len];exact m1)
      refine⟨wk_head,c,_,rfl,by omega,by omega,_,rfl,by decide,by decide,d,ed,?_⟩
      refine hC' _ _ Za2 ⟨by rw[upd_upd],ds++[d],by rw[List.map_append,List.map_append];rfl,by rw[List.length_append,e3];rfl,fun x hx=>?_⟩
      rcases List.mem_append.mp hx with z | z
      · exact e4 x z
      · have z':x=d:=by simpa using z
        rw[z'];exact small_ok d hd
    · subst e;subst e2
      walk_at "rdx_1"
      have hsum:=sum_ones ds
      refine⟨rfl,_,SqL.of Za2,?_,hC _ _ ⟨_,_,rfl,Za3 hacc _,?_⟩⟩
      · rw[hsum,List.length_map,show Str.length ""=0 from rfl,e3];omega
      · have:=ltrs_join e4
        rw[e3] at this
        exact this
  rintro σ5 H5 ⟨z,x5,rfl,e5,hz⟩
  refine Za7 (fun σ' H'=>∃ f:Int,0≤f∧σ'=[some (.int c),some (.str "abcdefghijklmnopqrstuvwxyz"),some (.int size),some (.int (an:Int)),some (.str z),x5,some (.int f),none,none,none]∧H'=H5) ?_ ?_
  rotate_left
  · intro C hC
    walk_at "rdx_1"
    exact⟨⟨by decide,by decide⟩,by decide,hC _ _ ⟨_,Int.emod_nonneg _ (by decide),rfl,rfl⟩⟩
  rintro σ6 H6 ⟨f,hf,rfl,rfl⟩
  refine Za7 (fun σ' H'=>∃ l,σ'=[some (.int c),some (.str "abcdefghijklmnopqrstuvwxyz"),some (.int size),some (.int (an:Int)),some (.str z),x5,some (.int f),some (.ref l),none,none]∧Same H4 H'∧H4 l=none∧H' l=some (.lst [])) ?_ ?_
  rotate_left
  · intro C hC
    walk_at "rdx_1"
    exact⟨by decide,fun l hl=>hC _ _ ⟨l,rfl,e5.trans (Za3 hl _),e5.free hl,Za2⟩⟩
  rintro σ7 H7 ⟨l,rfl,e7,f7,h7⟩
  refine Za7 (fun σ' H'=>∃ x8 x9 ws,σ'=[some (.int c),some (.str "abcdefghijklmnopqrstuvwxyz"),some (.int size),some (.int (an:Int)),some (.str z),x5,some (.int f),some (.ref l),x8,x9]∧Same H4 H'∧H' l=some (.lst (ws.map V.str))∧Words ws) ?_ ?_
  rotate_left
  · intro C hC
    walk_at "rdx_2"
    have b0:=Int.emod_nonneg (c / 4096) (show (3:Int)≠0 by decide)
    have b1:=Int.emod_lt_of_pos (c / 4096) (show (0:Int) < 3 by decide)
    refine⟨⟨by decide,by decide⟩,by decide,by omega,by omega,?_⟩
    refine for_range (D:={ nx:=C,rt:=Q }) (n:=(2+c / 4096 % 3).toNat) (lo:=0) (fun i σ' H'=>∃ x8 x9 ws,σ'=[some (.int c),some (.str "abcdefghijklmnopqrstuvwxyz"),some (.int size),some (.int (an:Int)),some (.str z),x5,some (.int f),some (.ref l),x8,x9]∧Same H4 H'∧H' l=some (.lst (ws.map V.str))∧ws.length=i∧∀ w∈ws,Word w) ⟨none,none,[],rfl,e7,h7,rfl,by simp⟩ (fun i σ' H' hi hp=>?_) (fun σ' H' hp=>?_)
    · obtain⟨x8,x9,ws,rfl,e,h,hl,hw⟩:=hp
      walk_at "rdx_1"
      have m0:=Int.emod_nonneg (f+7*(0+(i:Int))) (show (26:Int)≠0 by decide)
      have m1:=Int.emod_lt_of_pos (f+7*(0+(i:Int))) (show (0:Int) < 26 by decide)
      obtain⟨d,hd,ed⟩:=at_list (xs:=("abcdefghijklmnopqrstuvwxyz":Str).cps.toList) (i:=(f+7*(0+(i:Int))) % 26) m0 (by rw[small_len];exact m1)
      have zl:z.length≤8:=by rw[len_cps,hz.1];omega
      have sl:=fun lo hi=>Nat.le_trans (Txt.slice_le z lo hi) zl
      have l1:=sl none (some (an:Int))
      have l2:=sl (some ((an:Int)+1)) none
      have l3:(⟨#[d]⟩:Str).length=1:=rfl
      have l4:(Txt.slice z none (some (an:Int))++(⟨#[d]⟩:Str)).length≤9:=by rw[strLen_append];omega
      refine⟨mul_left (by decide) (by decide),by decide,by decide,d,ed,.inl ⟨rfl,_,SqL.of h⟩,Nat.le_of_lt (Zb3 (by omega)),Nat.le_of_lt (Zb3 (by omega)),Nat.le_of_lt (Zb3 (by omega)),Nat.le_of_lt (Zb3 (by omega)),_,h,Zb3 (by rw[List.length_map];omega),e.write f7,ws++[Txt.slice z none (some (an:Int))++(⟨#[d]⟩:Str)++Txt.slice z (some ((an:Int)+1)) none],by rw[Za2,List.map_append];rfl,by rw[List.length_append,hl];rfl,fun x hx=>?_⟩
      rcases List.mem_append.mp hx with y | y
      · exact hw x y
      · have y':=List.mem_singleton.mp y
        rw[y']
        have ds:=small_ok d hd
        exact word_put hz (by omega) (by omega) ds.1 ds.2
    · obtain⟨x8,x9,ws,rfl,e,h,hl,hw⟩:=hp
      exact hC _ _ ⟨x8,x9,ws,rfl,e,h,by omega,by omega,hw⟩
  rintro σ8 H8 ⟨x8,x9,ws,rfl,e8,h8,hw⟩
  walk_at "rdx_1"
  exact q _ _ _ e8 f7 h8 hw
end
local macro_rules | `(tactic| walk_at "rdx_4")=>`(tactic| simp only[rMaxL,rNotB,iRngS,tRaise,tTryR,tHand,tFr,rIsB,tCallT,rListR1,rInsert,tIf,rInT,tCallL,tComp,kTest,kApp,tSeq,tAsg,gName,tVar,tC,tOp,rI0,rI,rU,tUn,tRet,tIfS,tTest,tB,tNext,tCons,tNil,tCB,tCall,tTup,tLst,tDrop,tAnd,tOr,tNot,tAndV,tOrV,tBM,tBM0,rAppend,rPop,rIxL,rIxT,rIxS,rCat,rEq,rNe,rMulS,tSl,rSlL,rSlS,tPart,tNoPart,rJoin,tFs,tFv,tFc,tF0,tKD,rEqD,tNever,tChain,rIn,tKNotIn,gTup,gCons,gNil,iRng1,iRng2,iList,iZip,L2.start,capt,List.map_cons,List.map_nil,List.length_cons,List.length_nil,List.cons_append,List.nil_append,List.append_nil,List.replicate_succ,List.replicate_zero,Nat.reduceAdd,Nat.reduceSub,Nat.zero_add,Nat.add_zero,Nat.sub_zero,List.getElem?_cons_zero,List.getElem?_cons_succ,List.getElem?_nil,List.set_cons_zero,List.set_cons_succ,Option.some.injEq,V.int.injEq,V.str.injEq,V.ref.injEq,V.bl.injEq,V.ty.injEq,List.cons.injEq,and_true,true_and,exists_eq_left',exists_eq_left,exists_and_left,exists_eq,exists_eq',and_assoc,Option.join_some,Option.join_none,scal_int,Ze2,scal_bl,cxOf_K,cxOf_K1,hand_K,nox_K,cxOf_prog,cxOf_w,blk_prog,blk_w,blk_K,decide_eq_true_eq])
local macro_rules | `(tactic| walk_at "rdx_5")=>`(tactic| simp only[rMaxL,rNotB,iRngS,tRaise,tTryR,tHand,tFr,rIsB,tCallT,rListR1,rInsert,tIf,rInT,tCallL,tComp,kTest,kApp,tFor,tLC,tVar,tC,tOp,rI0,rI,rU,tUn,tTest,tB,tCons,tNil,tCB,tCall,tTup,tLst,tAnd,tOr,tNot,tAndV,tOrV,tBM,tBM0,rAppend,rPop,rIxL,rIxT,rIxS,rCat,rEq,rNe,rMulS,tSl,rSlL,rSlS,tPart,tNoPart,rJoin,tFs,tFv,tFc,tF0,tKD,rEqD,tNever,tChain,rIn,tKNotIn,iRng1,iRng2,iList,iZip,L2.start,capt,List.map_cons,List.map_nil,List.length_cons,List.length_nil,List.cons_append,List.nil_append,List.append_nil,List.replicate_succ,List.replicate_zero,Nat.reduceAdd,Nat.reduceSub,Nat.zero_add,Nat.add_zero,Nat.sub_zero,List.getElem?_cons_zero,List.getElem?_cons_succ,List.getElem?_nil,List.set_cons_zero,List.set_cons_succ,Option.some.injEq,V.int.injEq,V.str.injEq,V.ref.injEq,V.bl.injEq,V.ty.injEq,List.cons.injEq,and_true,true_and,exists_eq_left',exists_eq_left,exists_and_left,exists_eq,exists_eq',and_assoc,Option.join_some,Option.join_none,scal_int,Ze2,scal_bl,cxOf_K,cxOf_K1,hand_K,nox_K,cxOf_prog,cxOf_w,blk_prog,blk_w,blk_K,decide_eq_true_eq])
local macro_rules | `(tactic| walk_at "rdx_6")=>`(tactic| simp only[rMaxL,rNotB,iRngS,tHand,tFr,rIsB,tCallT,rListR1,rInsert,tIf,rInT,tCallL,tComp,kTest,kApp,gName,tVar,tC,tOp,rI0,rI,rU,tUn,tIfS,tTest,tB,tNext,tCons,tNil,tCB,tCall,tTup,tLst,tAnd,tOr,tNot,tAndV,tOrV,tBM,tBM0,rAppend,rPop,rIxL,rIxT,rIxS,rCat,rEq,rNe,rMulS,tSl,rSlL,rSlS,tPart,tNoPart,rJoin,tFs,tFv,tFc,tF0,tKD,rEqD,tNever,tChain,rIn,tKNotIn,gTup,gCons,gNil,iRng1,iRng2,iList,iZip,L2.start,capt,List.map_cons,List.map_nil,List.length_cons,List.length_nil,List.cons_append,List.nil_append,List.append_nil,List.replicate_succ,List.replicate_zero,Nat.reduceAdd,Nat.reduceSub,Nat.zero_add,Nat.add_zero,Nat.sub_zero,List.getElem?_cons_zero,List.getElem?_cons_succ,List.getElem?_nil,List.set_cons_zero,List.set_cons_succ,Option.some.injEq,V.int.injEq,V.str.injEq,V.ref.injEq,V.bl.injEq,V.ty.injEq,List.cons.injEq,and_true,true_and,exists_eq_left',exists_eq_left,exists_and_left,exists_eq,exists_eq',and_assoc,Option.join_some,Option.join_none,scal_int,Ze2,scal_bl,cxOf_K,cxOf_K1,hand_K,nox_K,cxOf_prog,cxOf_w,blk_prog,blk_w,blk_K,decide_eq_true_eq])
noncomputable abbrev s_bl0:Stmt:=top 56
theorem sc_bl0:FnScope ["_law_script","_law_words_here","_law_lines","_law_handed","_law_step","_law_many","_law_line"] ["_law_script"] (defScope s_bl0):=⟨rfl,rfl,rfl,by decide +kernel,rfl,by decide +kernel,by decide +kernel⟩
section
variable {P:Program} {w:World} {K:PySem.W.Frag} {mg:Str→Option Value} {base:Heap}
theorem ok_bl0 {k:Nat} {f_bl0:Addr} {fd_bl0:FuncData} (F_bl0:Fun K "law" "law" s_bl0 f_bl0 fd_bl0) {f_ap0:Addr} {fd_ap0:FuncData} (G_ap0:FnOk P w K mg base CX0 k f_ap0 fd_ap0 ["_law_cell_here"] (sp_words21)) (m_ap0:mg "_law_words"=some (.ref f_ap0)) (k_ap0:PySem.W.keepIn K (.ref f_ap0)=true) (b_ap0:Binds K fd_ap0 ["_law_cell_here"] []) {f_af0:Addr} {fd_af0:FuncData} (G_af0:FnOk P w K mg base CX0 k f_af0 fd_af0 ["_law_script","_law_k"] (sp_cell K)) (m_af0:mg "_law_cell"=some (.ref f_af0)) (k_af0:PySem.W.keepIn K (.ref f_af0)=true) (b_af0:Binds K fd_af0 ["_law_script","_law_k"] []) {f_aa0:Addr} {fd_aa0:FuncData} (G_aa0:FnOk P w K mg base CX0 k f_aa0 fd_aa0 ["_law_script","_law_start","_law_most","_law_words_here"] (sp_built K)) (m_aa0:mg "_law_built"=some (.ref f_aa0)) (k_aa0:PySem.W.keepIn K (.ref f_aa0)=true) (b_aa0:Binds K fd_aa0 ["_law_script","_law_start","_law_most","_law_words_here"] []) {f_ah0:Addr} {fd_ah0:FuncData} (G_ah0:FnOk P w K mg base CX0 k f_ah0 fd_ah0 ["_law_lines"] (sp_copyL K)) (m_ah0:mg "_law_copy"=some (.ref f_ah0)) (k_ah0:PySem.W.keepIn K (.ref f_ah0)=true) (b_ah0:Binds K fd_ah0 ["_law_lines"] []) {f_bg0:Addr} {fd_bg0:FuncData} (G_bg0:FnOk P w K mg base CX0 k f_bg0 fd_bg0 ["lines"] (sp_checkG K)) (m_bg0:mg "check"=some (.ref f_bg0)) (k_bg0:PySem.W.keepIn K (.ref f_bg0)=true) (b_bg0:Binds K fd_bg0 ["lines"] []) {f_ad0:Addr} {fd_ad0:FuncData} (G_ad0:FnOk P w K mg base CX0 k f_ad0 fd_ad0 ["_law_line"] (sp_byneeds K)) (m_ad0:mg "_law_by_needs"=some (.ref f_ad0)) (k_ad0:PySem.W.keepIn K (.ref f_ad0)=true) (b_ad0:Binds K fd_ad0 ["_law_line"] []) (m_range:mg "range"=none) (m_len:mg "len"=none):FnOk P w K mg base CX0 (k+1) f_bl0 fd_bl0 ["_law_script"] (sp_law K):=by
  refine F_bl0.ok sc_bl0 (fun vs H Q E h=>?_) (fun cdv A outer s H vs Q E hr h=>?_)
  · obtain⟨a,ns,rfl,_⟩:=h
    rfl
  obtain⟨a,ns,rfl,hS,hl,q⟩:=h
  refine⟨_,(Za4 (Zb2 (i:=1) sc_bl0.nd rfl (Or.inl rfl) (Za9 G_ap0 hr (by exact rfl) m_ap0 k_ap0 b_ap0 .nil Zc2 (Za0 (Za9 G_af0 hr (by exact rfl) m_af0 k_af0 b_af0 .nil Zc2 (Za0 (pv 0) (Za0 Za5 Za1))) Za1)))
  (Za4 (Zb2 (i:=2) sc_bl0.nd rfl (Or.inr rfl) (Za9 G_aa0 hr (by exact rfl) m_aa0 k_aa0 b_aa0 .nil Zc2 (Za0 (pv 0) (Za0 Za5 (Za0 Za5 (Za0 (pv 1) Za1))))))
  (Za4 (Zb2 (i:=3) sc_bl0.nd rfl (Or.inl rfl) (Za9 G_ah0 hr (by exact rfl) m_ah0 k_ah0 b_ah0 .nil Zc2 (Za0 (pv 2) Za1)))
  (Za4 (Zd9 ((pw_or (Zb0 (op_notB) (Za9 G_bg0 hr (by exact rfl) m_bg0 k_bg0 b_bg0 .nil Zc2 (Za0 (pv 3) Za1)) pe_bl (Zb8 _)) (pw_or1 (Zb0 (op_neD (Zg1 hr)) (pv 3) (pv 2) (Zb8 _))))).pt
    (Za8 (Zb4 pe_bl))
    Zc4)
  (Za4 (Zb2 (i:=4) sc_bl0.nd rfl (Or.inl rfl) (Zc0 Zf3 Za5 (Zc0 Ze5 (Zc0 Ze0 (Za9 G_af0 hr (by exact rfl) m_af0 k_af0 b_af0 .nil Zc2 (Za0 (pv 0) (Za0 Za5 Za1))) Za5) Za5)))
  (Za4 (ps_for PassesOwn.never rfl (pi_rangeS rfl m_range (Za0 (pv 4) (Za0 (Zd1 Zc3 (by exact rfl) m_len Ken.boot_len (Za0 (pv 2) Za1)) (Za0 (pv 4) Za1)))) (Zb5 (i:=5) sc_bl0.nd rfl (Or.inl rfl))
    (Za8 (Zd9 (Zb0 (op_notB) (Za9 G_bg0 hr (by exact rfl) m_bg0 k_bg0 b_bg0 .nil Zc2 (Za0 (Zh2 sl_list (pv 2) po_none (po_some (pv 5))) Za1)) pe_bl (Zb8 _))
    (Za8 (Zb4 pe_bl))
    Zc4)))
  (Za4 (ps_for PassesOwn.never rfl (Ze4 (pe_lc (blkC (N':=["_law_k","_law_lines"]) (nt:=1) (ci:=[2]) ["_law_script","_law_words_here","_law_lines","_law_handed","_law_step","_law_many","_law_line"] (defScope s_bl0) rfl rfl (by decide +kernel) rfl (by decide +kernel) (by decide +kernel) rfl (by decide +kernel)) rfl (pi_rangeS rfl m_range (Za0 Za5 (Za0 (Zd1 Zc3 (by exact rfl) m_len Ken.boot_len (Za0 (pv 2) Za1)) (Za0 (pv 4) Za1)))) (fun _ _ _ _=>(Zb5 (i:=0) (show (["_law_k","_law_lines"]:List Str).Nodup from by decide +kernel) rfl (Or.inl rfl))) (fun _ _ _ _=>(Zb6 (ix_listK (K:=K) rfl) (pv 1) (pv 0) (fun _ _=>rfl))))) (Zb5 (i:=6) sc_bl0.nd rfl (Or.inl rfl))
    (Za8 (Zd9 (pt_not (pt_val (Za9 G_ad0 hr (by exact rfl) m_ad0 k_ad0 b_ad0 .nil Zc2 (Za0 (pv 6) Za1))))
    (Za8 (Zb4 pe_bl))
    Zc4)))
  (Za8 (Zb4 (pe_and (Zh9 (op_isB) (Za9 G_bg0 hr (by exact rfl) m_bg0 k_bg0 b_bg0 .nil Zc2 (Za0 (pv 3) Za1)) pe_bl (Zb8 _)) (pe_one (Zh9 (op_eqD (Zg1 hr)) (pv 3) (pv 2) (Zb8 _))))))))))))),?_⟩
  refine Za7 (fun σ' H'=>∃ wa ws,σ'=[some (.ref a),some (.ref wa),none,none,none,none,none]∧Same H H'∧H' wa=some (.lst (ws.map V.str))∧Words ws) ?_ ?_
  rotate_left
  · intro C hC
    walk_at "rdx_4"
    exact⟨a,ns,0,rfl,hS,hl,by decide,by decide,_,rfl,cell_nn _ _,fun r H' ws e fr h hw=>hC _ _ ⟨r,ws,rfl,e,h,hw⟩⟩
  rintro σ1 H1 ⟨wa,ws,rfl,e1,h1,hw⟩
  refine Za7 (fun σ' H'=>∃ la us L,σ'=[some (.ref a),some (.ref wa),some (.ref la),none,none,none,none]∧Same H H'∧H' la=some (.lst us)∧IsLns K H' us L∧GL L∧L≠[]) ?_ ?_
  rotate_left
  · intro C hC
    walk_at "rdx_4"
    exact⟨a,wa,ns,1,41,ws,rfl,e1.seq hS,hl,by decide,by decide,by decide,by decide,SqL.of h1,hw,fun r us L H' e fr h hL G hne=>hC _ _ ⟨r,us,L,rfl,e1.trans e,h,hL,G,hne⟩⟩
  rintro σ2 H2 ⟨la,us,L,rfl,e2,h2,hL,G,hne⟩
  have lu:us.length=L.length:=Paired.length hL
  have l150:=G.len
  have okL:∀ l∈L,OkLn l:=fun l hl=>(G.ok l hl).ok
  refine Za7 (fun σ' H'=>∃ ha ys,σ'=[some (.ref a),some (.ref wa),some (.ref la),some (.ref ha),none,none,none]∧Same H2 H'∧H' ha=some (.lst ys)∧IsLns K H' ys L) ?_ ?_
  rotate_left
  · intro C hC
    walk_at "rdx_4"
    exact⟨la,us,L,rfl,h2,hL,okL,by omega,fun r ys H' e fr h hy=>hC _ _ ⟨r,ys,rfl,e,h,hy⟩⟩
  rintro σ3 H3 ⟨ha,ys,rfl,e3,h3,hY⟩
  have same:∀ H':Hp,Same H3 H'→Dn K H' (.ref ha) (.list (L.map lnD))∧Dn K H' (.ref la) (.list (L.map lnD)):=fun H' e=>by
    constructor
    · rw[Dn];exact⟨ha,ys,rfl,SqL.of (e _ _ h3),lns_dn (IsLns.keep e hY)⟩
    · rw[Dn];exact⟨la,us,rfl,SqL.of ((e3.trans e) _ _ h2),lns_dn (IsLns.keep (e3.trans e) hL)⟩
  have lay:=lns_lay hY okL
  have dep:min (PyData.list (L.map lnD)).depth (PyData.list (L.map lnD)).depth≤150:=Nat.le_trans (Nat.min_le_left _ _) (Nat.le_trans (lns_depth hY okL) (by decide))
  refine Za7 (fun σ' H'=>σ'=[some (.ref a),some (.ref wa),some (.ref la),some (.ref ha),none,none,none]∧Same H3 H') ?_ ?_
  rotate_left
  · intro C hC
    walk_at "rdx_4"
    refine⟨ha,ys,L,rfl,h3,hY,okL,hne,by omega,G.good,fun H' e=>⟨⟨_,rfl⟩,?_⟩⟩
    rw[if_neg (by decide)]
    obtain⟨d1,d2⟩:=same H' e
    refine⟨_,d1,_,d2,lay,lay,dep,?_⟩
    rw[if_neg (by rw[if_pos trivial,lns_self];exact Bool.false_ne_true)]
    exact hC _ _ ⟨rfl,e⟩
  rintro σ4 H4 ⟨rfl,e4⟩
  have c0:=Int.emod_nonneg (cellOf ns 0 / 7) (show (9:Int)≠0 by decide)
  have c1:=Int.emod_lt_of_pos (cellOf ns 0 / 7) (show (0:Int) < 9 by decide)
  refine Za7 (fun σ' H'=>∃ st:Int,1≤st∧st≤20∧σ'=[some (.ref a),some (.ref wa),some (.ref la),some (.ref ha),some (.int st),none,none]∧H'=H4) ?_ ?_
  rotate_left
  · intro C hC
    walk_at "rdx_4"
    exact⟨a,ns,0,rfl,((e2.trans e3).trans e4).seq hS,hl,by decide,by decide,_,rfl,⟨by decide,by decide⟩,by decide,hC _ _ ⟨_,by omega,by omega,rfl,rfl⟩⟩
  rintro σ5 H5 ⟨st,st1,st2,rfl,rfl⟩
  have S5:=e3.trans e4
  refine Za7 (fun σ' H'=>∃ x5,σ'=[some (.ref a),some (.ref wa),some (.ref la),some (.ref ha),some (.int st),x5,none]∧Same H5 H') ?_ ?_
  rotate_left
  · intro C hC
    walk_at "rdx_5"
    refine⟨us,.inl (SqL.of (S5 _ _ h2)),by omega,by omega,by omega,by omega,by omega,by omega,?_⟩
    refine for_step (D:={ nx:=C,rt:=Q }) (n:=stepN st ((us.length:Nat):Int) st) (lo:=st) (c:=st) (fun i σ' H'=>∃ x5,σ'=[some (.ref a),some (.ref wa),some (.ref la),some (.ref ha),some (.int st),x5,none]∧Same H5 H') ⟨none,rfl,Same.refl _⟩ (fun i σ' H' hlt hp=>?_) (fun σ' H' hp=>hC _ _ hp)
    obtain⟨x5,rfl,e⟩:=hp
    have hm:=step_lt (by omega) hlt
    have hmp:0≤st*(i:Int):=Int.mul_nonneg (by omega) (by omega)
    obtain⟨m,em⟩:=Int.eq_ofNat_of_zero_le (show 0≤st+st*(i:Int) by omega)
    rw[em]
    have hmu:m≤us.length:=by omega
    have hm1:1≤m:=by omega
    walk_at "rdx_4"
    refine⟨us,SqL.of ((S5.trans e) _ _ h2),?_⟩
    intro p hp
    rw[cut_take (by omega)]
    have sp:=Za3 hp (HO.lst (us.take m))
    have SS:=(S5.trans e).trans sp
    refine⟨p,us.take m,L.take m,rfl,Za2,paired_take (IsLns.keep SS hL) m,fun l hl=>okL l (List.mem_of_mem_take hl),?_,by rw[List.length_take];omega,fun j hj=>?_,fun H2 e2=>⟨⟨_,rfl⟩,?_⟩⟩
    · intro z
      have:=congrArg List.length z
      rw[List.length_take,List.length_nil] at this
      omega
    · rw[List.length_take] at hj
      rw[lineB_take (by omega) (by omega)]
      exact G.good j (by omega)
    · rw[if_neg (by decide)]
      exact (e.trans sp).trans e2
  rintro σ6 H6 ⟨x5,rfl,e6⟩
  refine Za7 (fun σ' H'=>∃ x6,σ'=[some (.ref a),some (.ref wa),some (.ref la),some (.ref ha),some (.int st),x5,x6]∧Same H6 H') ?_ ?_
  rotate_left
  · intro C hC
    walk_at "rdx_5"
    have S6:=S5.trans e6
    have need:∀ l∈L,sortedT l.ws∧needX l.R l.ws l.g l.on≠none:=fun l hl=>by
      obtain⟨j,hj,rfl⟩:=List.getElem_of_mem hl
      have hg:=List.getElem?_eq_getElem hj
      refine⟨G.sorted hg,fun hz=>?_⟩
      have:=G.good j hj
      unfold lineB at this
      rw[hg] at this
      have h2:goodL L j L[j]=true:=this
      unfold goodL at h2
      rw[hz,Bool.and_false] at h2
      cases h2
    refine⟨us,.inl (SqL.of (S6 _ _ h2)),by decide,by decide,by omega,by omega,by omega,by omega,fun acc hacc=>?_⟩
    refine lcW_step (n:=stepN 0 ((us.length:Nat):Int) st) (lo:=0) (c:=st) (fun j zs H'=>Same H6 H'∧H' acc=some (.lst zs)∧zs.length=j∧∀ z∈zs,∃ l∈L,IsLnN K acc H' z l) ⟨Za3 hacc _,Za2,rfl,fun z hz=>(by cases hz)⟩ (fun j zs H' hj ⟨e,h,hy,_⟩=>⟨h,?_⟩) (fun j zs H' hj ⟨e,h,hy,hz⟩ C' hC'=>?_) (fun zs H' ⟨e,h,hy,hz⟩=>?_)
    · have b:=(step_bd (a:=0) (b:=((us.length:Nat):Int)) (c:=st) (by omega))
      have:stepN 0 ((us.length:Nat):Int) st≤200:=by
        unfold stepN
        by_cases hp:(0:Int) < ((us.length:Nat):Int)
        · have:=b.2.1 hp;omega
        · have:=b.2.2 hp;omega
      exact small1M (by omega)
    · have hm:=step_lt (by omega) hj
      have hmp:0≤st*(j:Int):=Int.mul_nonneg (by omega) (by omega)
      obtain⟨m,em⟩:=Int.eq_ofNat_of_zero_le (show 0≤0+st*(j:Int) by omega)
      rw[em]
      have hmu:m < us.length:=by omega
      obtain⟨l,hl,hvl⟩:=paired_get hL (List.getElem?_eq_getElem hmu)
      walk_at "rdx_4"
      refine⟨Ze8 (i:=0) rfl,us,SqL.of ((S6.trans e) _ _ h2),us[m],Zd6 (List.getElem?_eq_getElem hmu),hC' _ _ h ⟨e.write hacc,Za2,by rw[List.length_append,List.length_singleton,hy],fun z hz'=>?_⟩⟩
      rcases List.mem_append.mp hz' with y | y
      · obtain⟨l',hl',hn⟩:=hz z y
        exact⟨l',hl',hn.write h⟩
      · rw[List.mem_singleton.mp y]
        exact⟨l,List.mem_of_getElem? hl,((hvl.keep S6).n e hacc).write h⟩
    · refine⟨acc,rfl,⟨_,SqL.of h⟩,?_⟩
      refine for_list (D:={ nx:=C,rt:=Q }) (xs:=zs) (fun j σ' H2=>∃ x6,σ'=[some (.ref a),some (.ref wa),some (.ref la),some (.ref ha),some (.int st),x5,x6]∧Same H' H2) ⟨none,rfl,Same.refl _⟩ (fun j σ' H2 _ ⟨_,_,e2⟩=>SqL.of (e2 _ _ h)) (fun j v σ' H2 hv hP=>?_) (fun σ' H2 ⟨x6,z1,z2⟩=>hC _ _ ⟨x6,z1,e.trans z2⟩)
      obtain⟨x6,rfl,e2⟩:=hP
      obtain⟨l,hl,hn⟩:=hz v (List.mem_of_getElem? hv)
      walk_at "rdx_4"
      refine⟨v,l,rfl,hn.ln.keep e2,G.ok l hl,(need l hl).1,(need l hl).2,fun H3 e3=>⟨_,rfl,?_⟩⟩
      rw[if_neg (by decide)]
      exact e2.trans e3
  rintro σ7 H7 ⟨x6,rfl,e7⟩
  have S7:=(e4.trans e6).trans e7
  walk_at "rdx_4"
  refine⟨ha,ys,L,rfl,S7 _ _ h3,IsLns.keep S7 hY,okL,hne,by omega,G.good,fun H' e=>?_⟩
  obtain⟨d1,d2⟩:=same H' (S7.trans e)
  refine⟨.inr ⟨_,rfl⟩,?_⟩
  rw[if_pos rfl]
  refine⟨_,d1,_,d2,lay,lay,dep,?_⟩
  rw[if_neg Bool.false_ne_true,lns_self]
  exact q _
end
section
variable {P:Program} {w:World} {K:PySem.W.Frag} {mg:Str→Option Value} {base:Heap}
theorem stm21_zero {f:Addr} {fd:FuncData} {ps:List Str} {k:Nat}:FnOk P w K mg base CX0 k f fd ps (sp_stm21 K 0):=by
  have no:∀ vs H Q E,¬ sp_stm21 K 0 vs H Q E:=fun vs H Q E h=>by
    obtain⟨c,many,wa,ws,_,_,h1,_,hn,_⟩:=h
    omega
  exact⟨fun vs H Q E h=>absurd h (no vs H Q E),fun A outer s H args us vs Q E _ _ _ _ h=>absurd h (no vs H Q E)⟩
theorem all_ao0 {f_ao0:Addr} {fd_ao0:FuncData} (F_ao0:Fun K "_law_statement" "_law_statement" s_ao0 f_ao0 fd_ao0) (m_ao0:mg "_law_statement"=some (.ref f_ao0)) (b_ao0:Binds K fd_ao0 ["_law_cell_here","_law_many","_law_words_here"] [])
    {f_aj0:Addr}{fd_aj0:FuncData}(G_aj0:∀ k,FnOk P w K mg base CX0 (k+1) f_aj0 fd_aj0 ["_law_cell_here","_law_k"] sp_mix)(m_aj0:mg "_law_mix"=some (.ref f_aj0))(k_aj0:PySem.W.keepIn K (.ref f_aj0)=true)(b_aj0:Binds K fd_aj0 ["_law_cell_here","_law_k"] [])(m_len:mg "len"=none) :
    ∀ n:Nat,FnOk P w K mg base CX0 (n+1) f_ao0 fd_ao0 ["_law_cell_here","_law_many","_law_words_here"] (sp_stm21 K n)
  | 0=>stm21_zero
  | n+1=>ok_ao0 F_ao0 (all_ao0 F_ao0 m_ao0 b_ao0 G_aj0 m_aj0 k_aj0 b_aj0 m_len n) m_ao0 F_ao0.kp b_ao0 (G_aj0 n) m_aj0 k_aj0 b_aj0 m_len
end
theorem all_mk {l:PySem.W.OpenLaw} {w:World} {K:PySem.W.Frag} {h:Heap} {mg:Str→Option Value} {fa:Addr} (X:K.In h) (G:h.Ns mainGlobals mg) (hfa:mg "law"=some (.ref fa))
    {f_aj0:Addr}{fd_aj0:FuncData}
    {f_af0:Addr}{fd_af0:FuncData}
    {f_ap0:Addr}{fd_ap0:FuncData}
    {f_ao0:Addr}{fd_ao0:FuncData}
    {f_bh0:Addr}{fd_bh0:FuncData}
    {f_bp0:Addr}{fd_bp0:FuncData}
    {f_aq0:Addr}{fd_aq0:FuncData}
    {f_br0:Addr}{fd_br0:FuncData}
    {f_bm0:Addr}{fd_bm0:FuncData}
    {f_bk0:Addr}{fd_bk0:FuncData}
    {f_bf0:Addr}{fd_bf0:FuncData}
    {f_ba0:Addr}{fd_ba0:FuncData}
    {f_as0:Addr}{fd_as0:FuncData}
    {f_ax0:Addr}{fd_ax0:FuncData}
    {f_bc0:Addr}{fd_bc0:FuncData}
    {f_bd0:Addr}{fd_bd0:FuncData}
    {f_bb0:Addr}{fd_bb0:FuncData}
    {f_at0:Addr}{fd_at0:FuncData}
    {f_az0:Addr}{fd_az0:FuncData}
    {f_av0:Addr}{fd_av0:FuncData}
    {f_aw0:Addr}{fd_aw0:FuncData}
    {f_ay0:Addr}{fd_ay0:FuncData}
    {f_au0:Addr}{fd_au0:FuncData}
    {f_be0:Addr}{fd_be0:FuncData}
    {f_bi0:Addr}{fd_bi0:FuncData}
    {f_bo0:Addr}{fd_bo0:FuncData}
    {f_ar0:Addr}{fd_ar0:FuncData}
    {f_bn0:Addr}{fd_bn0:FuncData}
    {f_bq0:Addr}{fd_bq0:FuncData}
    {f_bj0:Addr}{fd_bj0:FuncData}
    {f_bg0:Addr}{fd_bg0:FuncData}
    {f_am0:Addr}{fd_am0:FuncData}
    {f_al0:Addr}{fd_al0:FuncData}
    {f_ag0:Addr}{fd_ag0:FuncData}
    {f_an0:Addr}{fd_an0:FuncData}
    {f_ai0:Addr}{fd_ai0:FuncData}
    {f_ab0:Addr}{fd_ab0:FuncData}
    {f_ac0:Addr}{fd_ac0:FuncData}
    {f_ae0:Addr}{fd_ae0:FuncData}
    {f_ak0:Addr}{fd_ak0:FuncData}
    {f_aa0:Addr}{fd_aa0:FuncData}
    {f_ah0:Addr}{fd_ah0:FuncData}
    {f_ad0:Addr}{fd_ad0:FuncData}
    {f_bl0:Addr}{od_bl0 an_bl0:Option Addr}{sl_bl0:Array (Option Value)}{oc_bl0 kV_bl0 dc_bl0 pm_bl0 cd_bl0 ct_bl0:Value}
    {aPAIRED:Addr}
    {aLOW:Addr}
    {aWITHOUT_ON:Addr}
    {aRULES:Addr}
    {aKenError:Addr}
    {aNoRule:Addr}
    {aNoLine:Addr}
    (a_aj0:PySem.W.nsIn K mainGlobals "_law_mix"=some (some (.ref f_aj0)))(F_aj0:Fun K "_law_mix" "_law_mix" s_aj0 f_aj0 fd_aj0)
    (a_af0:PySem.W.nsIn K mainGlobals "_law_cell"=some (some (.ref f_af0)))(F_af0:Fun K "_law_cell" "_law_cell" s_af0 f_af0 fd_af0)
    (a_ap0:PySem.W.nsIn K mainGlobals "_law_words"=some (some (.ref f_ap0)))(F_ap0:Fun K "_law_words" "_law_words" s_ap0 f_ap0 fd_ap0)
    (a_ao0:PySem.W.nsIn K mainGlobals "_law_statement"=some (some (.ref f_ao0)))(F_ao0:Fun K "_law_statement" "_law_statement" s_ao0 f_ao0 fd_ao0)
    (a_bh0:PySem.W.nsIn K mainGlobals "compared"=some (some (.ref f_bh0)))(F_bh0:Fun K "compared" "compared" s_bh0 f_bh0 fd_bh0)
    (a_bp0:PySem.W.nsIn K mainGlobals "place"=some (some (.ref f_bp0)))(F_bp0:Fun K "place" "place" s_bp0 f_bp0 fd_bp0)
    (a_aq0:PySem.W.nsIn K mainGlobals "among"=some (some (.ref f_aq0)))(F_aq0:Fun K "among" "among" s_aq0 f_aq0 fd_aq0)
    (a_br0:PySem.W.nsIn K mainGlobals "without"=some (some (.ref f_br0)))(F_br0:Fun K "without" "without" s_br0 f_br0 fd_br0)
    (a_bm0:PySem.W.nsIn K mainGlobals "more"=some (some (.ref f_bm0)))(F_bm0:Fun K "more" "more" s_bm0 f_bm0 fd_bm0)
    (a_bk0:PySem.W.nsIn K mainGlobals "is_if"=some (some (.ref f_bk0)))(F_bk0:Fun K "is_if" "is_if" s_bk0 f_bk0 fd_bk0)
    (a_bf0:PySem.W.nsIn K mainGlobals "by_wish"=some (some (.ref f_bf0)))(F_bf0:Fun K "by_wish" "by_wish" s_bf0 f_bf0 fd_bf0)
    (a_ba0:PySem.W.nsIn K mainGlobals "by_low"=some (some (.ref f_ba0)))(F_ba0:Fun K "by_low" "by_low" s_ba0 f_ba0 fd_ba0)
    (a_as0:PySem.W.nsIn K mainGlobals "by_both"=some (some (.ref f_as0)))(F_as0:Fun K "by_both" "by_both" s_as0 f_as0 fd_as0)
    (a_ax0:PySem.W.nsIn K mainGlobals "by_first"=some (some (.ref f_ax0)))(F_ax0:Fun K "by_first" "by_first" s_ax0 f_ax0 fd_ax0)
    (a_bc0:PySem.W.nsIn K mainGlobals "by_second"=some (some (.ref f_bc0)))(F_bc0:Fun K "by_second" "by_second" s_bc0 f_bc0 fd_bc0)
    (a_bd0:PySem.W.nsIn K mainGlobals "by_then"=some (some (.ref f_bd0)))(F_bd0:Fun K "by_then" "by_then" s_bd0 f_bd0 fd_bd0)
    (a_bb0:PySem.W.nsIn K mainGlobals "by_parts"=some (some (.ref f_bb0)))(F_bb0:Fun K "by_parts" "by_parts" s_bb0 f_bb0 fd_bb0)
    (a_at0:PySem.W.nsIn K mainGlobals "by_cases"=some (some (.ref f_at0)))(F_at0:Fun K "by_cases" "by_cases" s_at0 f_at0 fd_at0)
    (a_az0:PySem.W.nsIn K mainGlobals "by_known"=some (some (.ref f_az0)))(F_az0:Fun K "by_known" "by_known" s_az0 f_az0 fd_az0)
    (a_av0:PySem.W.nsIn K mainGlobals "by_curried"=some (some (.ref f_av0)))(F_av0:Fun K "by_curried" "by_curried" s_av0 f_av0 fd_av0)
    (a_aw0:PySem.W.nsIn K mainGlobals "by_either"=some (some (.ref f_aw0)))(F_aw0:Fun K "by_either" "by_either" s_aw0 f_aw0 fd_aw0)
    (a_ay0:PySem.W.nsIn K mainGlobals "by_idle"=some (some (.ref f_ay0)))(F_ay0:Fun K "by_idle" "by_idle" s_ay0 f_ay0 fd_ay0)
    (a_au0:PySem.W.nsIn K mainGlobals "by_chain"=some (some (.ref f_au0)))(F_au0:Fun K "by_chain" "by_chain" s_au0 f_au0 fd_au0)
    (a_be0:PySem.W.nsIn K mainGlobals "by_use"=some (some (.ref f_be0)))(F_be0:Fun K "by_use" "by_use" s_be0 f_be0 fd_be0)
    (a_bi0:PySem.W.nsIn K mainGlobals "has_on"=some (some (.ref f_bi0)))(F_bi0:Fun K "has_on" "has_on" s_bi0 f_bi0 fd_bi0)
    (a_bo0:PySem.W.nsIn K mainGlobals "needs"=some (some (.ref f_bo0)))(F_bo0:Fun K "needs" "needs" s_bo0 f_bo0 fd_bo0)
    (a_ar0:PySem.W.nsIn K mainGlobals "are_wishes"=some (some (.ref f_ar0)))(F_ar0:Fun K "are_wishes" "are_wishes" s_ar0 f_ar0 fd_ar0)
    (a_bn0:PySem.W.nsIn K mainGlobals "needed_by"=some (some (.ref f_bn0)))(F_bn0:Fun K "needed_by" "needed_by" s_bn0 f_bn0 fd_bn0)
    (a_bq0:PySem.W.nsIn K mainGlobals "serves"=some (some (.ref f_bq0)))(F_bq0:Fun K "serves" "serves" s_bq0 f_bq0 fd_bq0)
    (a_bj0:PySem.W.nsIn K mainGlobals "is_good"=some (some (.ref f_bj0)))(F_bj0:Fun K "is_good" "is_good" s_bj0 f_bj0 fd_bj0)
    (a_bg0:PySem.W.nsIn K mainGlobals "check"=some (some (.ref f_bg0)))(F_bg0:Fun K "check" "check" s_bg0 f_bg0 fd_bg0)
    (a_am0:PySem.W.nsIn K mainGlobals "_law_parts"=some (some (.ref f_am0)))(F_am0:Fun K "_law_parts" "_law_parts" s_am0 f_am0 fd_am0)
    (a_al0:PySem.W.nsIn K mainGlobals "_law_once"=some (some (.ref f_al0)))(F_al0:Fun K "_law_once" "_law_once" s_al0 f_al0 fd_al0)
    (a_ag0:PySem.W.nsIn K mainGlobals "_law_changed"=some (some (.ref f_ag0)))(F_ag0:Fun K "_law_changed" "_law_changed" s_ag0 f_ag0 fd_ag0)
    (a_an0:PySem.W.nsIn K mainGlobals "_law_pick"=some (some (.ref f_an0)))(F_an0:Fun K "_law_pick" "_law_pick" s_an0 f_an0 fd_an0)
    (a_ai0:PySem.W.nsIn K mainGlobals "_law_found"=some (some (.ref f_ai0)))(F_ai0:Fun K "_law_found" "_law_found" s_ai0 f_ai0 fd_ai0)
    (a_ab0:PySem.W.nsIn K mainGlobals "_law_by_goal"=some (some (.ref f_ab0)))(F_ab0:Fun K "_law_by_goal" "_law_by_goal" s_ab0 f_ab0 fd_ab0)
    (a_ac0:PySem.W.nsIn K mainGlobals "_law_by_if"=some (some (.ref f_ac0)))(F_ac0:Fun K "_law_by_if" "_law_by_if" s_ac0 f_ac0 fd_ac0)
    (a_ae0:PySem.W.nsIn K mainGlobals "_law_by_two"=some (some (.ref f_ae0)))(F_ae0:Fun K "_law_by_two" "_law_by_two" s_ae0 f_ae0 fd_ae0)
    (a_ak0:PySem.W.nsIn K mainGlobals "_law_next"=some (some (.ref f_ak0)))(F_ak0:Fun K "_law_next" "_law_next" s_ak0 f_ak0 fd_ak0)
    (a_aa0:PySem.W.nsIn K mainGlobals "_law_built"=some (some (.ref f_aa0)))(F_aa0:Fun K "_law_built" "_law_built" s_aa0 f_aa0 fd_aa0)
    (a_ah0:PySem.W.nsIn K mainGlobals "_law_copy"=some (some (.ref f_ah0)))(F_ah0:Fun K "_law_copy" "_law_copy" s_ah0 f_ah0 fd_ah0)
    (a_ad0:PySem.W.nsIn K mainGlobals "_law_by_needs"=some (some (.ref f_ad0)))(F_ad0:Fun K "_law_by_needs" "_law_by_needs" s_ad0 f_ad0 fd_ad0)
    (a_bl0:PySem.W.nsIn K mainGlobals "law"=some (some (.ref f_bl0)))(l_bl0:K.lookup f_bl0=some ⟨oc_bl0,od_bl0,.func (PySem.W.fnOf "law" "law" (defArgs s_bl0) (defBody s_bl0) (defScope s_bl0) .none kV_bl0 dc_bl0 pm_bl0 an_bl0 cd_bl0 ct_bl0),sl_bl0⟩)(c_bl0:PySem.W.codeIn K cd_bl0 "law"=true)(k_bl0:PySem.W.keepIn K (.ref f_bl0)=true)
    (g_PAIRED:PySem.W.nsIn K mainGlobals "PAIRED"=some (some (.ref aPAIRED)))
    (t_PAIRED:∀ H,SqT K H aPAIRED [.str "both",.str "one",.str "then"])
    (g_LOW:PySem.W.nsIn K mainGlobals "LOW"=some (some (.ref aLOW)))
    (t_LOW:∀ H,SqT K H aLOW [.str "low"])
    (g_WITHOUT_ON:PySem.W.nsIn K mainGlobals "WITHOUT_ON"=some (some (.ref aWITHOUT_ON)))
    (t_WITHOUT_ON:∀ H,SqT K H aWITHOUT_ON [.str "wish",.str "low",.str "both",.str "first",.str "second",.str "then"])
    (g_RULES:PySem.W.nsIn K mainGlobals "RULES"=some (some (.ref aRULES)))
    (D_RULES:KDict K w aRULES [("wish",.ref f_bf0),("low",.ref f_ba0),("both",.ref f_as0),("first",.ref f_ax0),("second",.ref f_bc0),("then",.ref f_bd0),("parts",.ref f_bb0),("cases",.ref f_at0),("known",.ref f_az0),("curried",.ref f_av0),("either",.ref f_aw0),("idle",.ref f_ay0),("chain",.ref f_au0),("use",.ref f_be0)])
    (z_len:PySem.W.nsIn K mainGlobals "len"=some none)
    (z_range:PySem.W.nsIn K mainGlobals "range"=some none)
    (z_list:PySem.W.nsIn K mainGlobals "list"=some none)
    (z_all:PySem.W.nsIn K mainGlobals "all"=some none)
    (z_zip:PySem.W.nsIn K mainGlobals "zip"=some none)
    (z_sorted:PySem.W.nsIn K mainGlobals "sorted"=some none)
    (z_max:PySem.W.nsIn K mainGlobals "max"=some none)
    (z_min:PySem.W.nsIn K mainGlobals "min"=some none)
    (g_KenError:PySem.W.nsIn K mainGlobals "KenError"=some (some (.ref aKenError)))
    (g_NoRule:PySem.W.nsIn K mainGlobals "NoRule"=some (some (.ref aNoRule)))
    (g_NoLine:PySem.W.nsIn K mainGlobals "NoLine"=some (some (.ref aNoLine)))
    (x_NoRule:XCls K aNoRule) :
    ∃ fd:FuncData,(∀ (s:Shared) (v:Value),BindsTo s fd ⟨[v],[]⟩ [("_law_script",v)])∧∀ base:Heap,K.In base→base.Ns mainGlobals mg→FnOk l.prog w K mg base CX0 105 fa fd ["_law_script"] (sp_law K):=by
  have e:=hfa.symm.trans (PySem.W.mg_of X G a_bl0)
  cases e
  have m_aj0:=PySem.W.mg_of X G a_aj0
  have k_aj0:=F_aj0.kp
  have b_aj0:=F_aj0.binds (ps:=["_law_cell_here","_law_k"]) fun _ _ _ _ _ _ us hl=>match us,hl with | [_,_],_=>rfl
  have m_af0:=PySem.W.mg_of X G a_af0
  have k_af0:=F_af0.kp
  have b_af0:=F_af0.binds (ps:=["_law_script","_law_k"]) fun _ _ _ _ _ _ us hl=>match us,hl with | [_,_],_=>rfl
  have m_ap0:=PySem.W.mg_of X G a_ap0
  have k_ap0:=F_ap0.kp
  have b_ap0:=F_ap0.binds (ps:=["_law_cell_here"]) fun _ _ _ _ _ _ us hl=>match us,hl with | [_],_=>rfl
  have m_ao0:=PySem.W.mg_of X G a_ao0
  have k_ao0:=F_ao0.kp
  have b_ao0:=F_ao0.binds (ps:=["_law_cell_here","_law_many","_law_words_here"]) fun _ _ _ _ _ _ us hl=>match us,hl with | [_,_,_],_=>rfl
  have m_bh0:=PySem.W.mg_of X G a_bh0
  have k_bh0:=F_bh0.kp
  have b_bh0:=F_bh0.binds (ps:=["one","other"]) fun _ _ _ _ _ _ us hl=>match us,hl with | [_,_],_=>rfl
  have m_bp0:=PySem.W.mg_of X G a_bp0
  have k_bp0:=F_bp0.kp
  have b_bp0:=F_bp0.binds (ps:=["wishes","statement"]) fun _ _ _ _ _ _ us hl=>match us,hl with | [_,_],_=>rfl
  have m_aq0:=PySem.W.mg_of X G a_aq0
  have k_aq0:=F_aq0.kp
  have b_aq0:=F_aq0.binds (ps:=["wishes","statement"]) fun _ _ _ _ _ _ us hl=>match us,hl with | [_,_],_=>rfl
  have m_br0:=PySem.W.mg_of X G a_br0
  have k_br0:=F_br0.kp
  have b_br0:=F_br0.binds (ps:=["wishes","statement"]) fun _ _ _ _ _ _ us hl=>match us,hl with | [_,_],_=>rfl
  have m_bm0:=PySem.W.mg_of X G a_bm0
  have k_bm0:=F_bm0.kp
  have b_bm0:=F_bm0.binds (ps:=["wishes","some"]) fun _ _ _ _ _ _ us hl=>match us,hl with | [_,_],_=>rfl
  have m_bk0:=PySem.W.mg_of X G a_bk0
  have k_bk0:=F_bk0.kp
  have b_bk0:=F_bk0.binds (ps:=["on","kind"]) fun _ _ _ _ _ _ us hl=>match us,hl with | [_,_],_=>rfl
  have m_bf0:=PySem.W.mg_of X G a_bf0
  have k_bf0:=F_bf0.kp
  have b_bf0:=F_bf0.binds (ps:=["wishes","goal","on"]) fun _ _ _ _ _ _ us hl=>match us,hl with | [_,_,_],_=>rfl
  have m_ba0:=PySem.W.mg_of X G a_ba0
  have k_ba0:=F_ba0.kp
  have b_ba0:=F_ba0.binds (ps:=["wishes","goal","on"]) fun _ _ _ _ _ _ us hl=>match us,hl with | [_,_,_],_=>rfl
  have m_as0:=PySem.W.mg_of X G a_as0
  have k_as0:=F_as0.kp
  have b_as0:=F_as0.binds (ps:=["wishes","goal","on"]) fun _ _ _ _ _ _ us hl=>match us,hl with | [_,_,_],_=>rfl
  have m_ax0:=PySem.W.mg_of X G a_ax0
  have k_ax0:=F_ax0.kp
  have b_ax0:=F_ax0.binds (ps:=["wishes","goal","on"]) fun _ _ _ _ _ _ us hl=>match us,hl with | [_,_,_],_=>rfl
  have m_bc0:=PySem.W.mg_of X G a_bc0
  have k_bc0:=F_bc0.kp
  have b_bc0:=F_bc0.binds (ps:=["wishes","goal","on"]) fun _ _ _ _ _ _ us hl=>match us,hl with | [_,_,_],_=>rfl
  have m_bd0:=PySem.W.mg_of X G a_bd0
  have k_bd0:=F_bd0.kp
  have b_bd0:=F_bd0.binds (ps:=["wishes","goal","on"]) fun _ _ _ _ _ _ us hl=>match us,hl with | [_,_,_],_=>rfl
  have m_bb0:=PySem.W.mg_of X G a_bb0
  have k_bb0:=F_bb0.kp
  have b_bb0:=F_bb0.binds (ps:=["wishes","goal","on"]) fun _ _ _ _ _ _ us hl=>match us,hl with | [_,_,_],_=>rfl
  have m_at0:=PySem.W.mg_of X G a_at0
  have k_at0:=F_at0.kp
  have b_at0:=F_at0.binds (ps:=["wishes","goal","on"]) fun _ _ _ _ _ _ us hl=>match us,hl with | [_,_,_],_=>rfl
  have m_az0:=PySem.W.mg_of X G a_az0
  have k_az0:=F_az0.kp
  have b_az0:=F_az0.binds (ps:=["wishes","goal","on"]) fun _ _ _ _ _ _ us hl=>match us,hl with | [_,_,_],_=>rfl
  have m_av0:=PySem.W.mg_of X G a_av0
  have k_av0:=F_av0.kp
  have b_av0:=F_av0.binds (ps:=["wishes","goal","on"]) fun _ _ _ _ _ _ us hl=>match us,hl with | [_,_,_],_=>rfl
  have m_aw0:=PySem.W.mg_of X G a_aw0
  have k_aw0:=F_aw0.kp
  have b_aw0:=F_aw0.binds (ps:=["wishes","goal","on"]) fun _ _ _ _ _ _ us hl=>match us,hl with | [_,_,_],_=>rfl
  have m_ay0:=PySem.W.mg_of X G a_ay0
  have k_ay0:=F_ay0.kp
  have b_ay0:=F_ay0.binds (ps:=["wishes","goal","on"]) fun _ _ _ _ _ _ us hl=>match us,hl with | [_,_,_],_=>rfl
  have m_au0:=PySem.W.mg_of X G a_au0
  have k_au0:=F_au0.kp
  have b_au0:=F_au0.binds (ps:=["wishes","goal","on"]) fun _ _ _ _ _ _ us hl=>match us,hl with | [_,_,_],_=>rfl
  have m_be0:=PySem.W.mg_of X G a_be0
  have k_be0:=F_be0.kp
  have b_be0:=F_be0.binds (ps:=["wishes","goal","on"]) fun _ _ _ _ _ _ us hl=>match us,hl with | [_,_,_],_=>rfl
  have m_bi0:=PySem.W.mg_of X G a_bi0
  have k_bi0:=F_bi0.kp
  have b_bi0:=F_bi0.binds (ps:=["rule","wishes","on"]) fun _ _ _ _ _ _ us hl=>match us,hl with | [_,_,_],_=>rfl
  have m_bo0:=PySem.W.mg_of X G a_bo0
  have k_bo0:=F_bo0.kp
  have b_bo0:=F_bo0.binds (ps:=["rule","wishes","goal","on"]) fun _ _ _ _ _ _ us hl=>match us,hl with | [_,_,_,_],_=>rfl
  have m_ar0:=PySem.W.mg_of X G a_ar0
  have k_ar0:=F_ar0.kp
  have b_ar0:=F_ar0.binds (ps:=["some"]) fun _ _ _ _ _ _ us hl=>match us,hl with | [_],_=>rfl
  have m_bn0:=PySem.W.mg_of X G a_bn0
  have k_bn0:=F_bn0.kp
  have b_bn0:=F_bn0.binds (ps:=["line"]) fun _ _ _ _ _ _ us hl=>match us,hl with | [_],_=>rfl
  have m_bq0:=PySem.W.mg_of X G a_bq0
  have k_bq0:=F_bq0.kp
  have b_bq0:=F_bq0.binds (ps:=["leaned","wishes","need"]) fun _ _ _ _ _ _ us hl=>match us,hl with | [_,_,_],_=>rfl
  have m_bj0:=PySem.W.mg_of X G a_bj0
  have k_bj0:=F_bj0.kp
  have b_bj0:=F_bj0.binds (ps:=["lines","number"]) fun _ _ _ _ _ _ us hl=>match us,hl with | [_,_],_=>rfl
  have m_bg0:=PySem.W.mg_of X G a_bg0
  have k_bg0:=F_bg0.kp
  have b_bg0:=F_bg0.binds (ps:=["lines"]) fun _ _ _ _ _ _ us hl=>match us,hl with | [_],_=>rfl
  have m_am0:=PySem.W.mg_of X G a_am0
  have k_am0:=F_am0.kp
  have b_am0:=F_am0.binds (ps:=["_law_statement_here"]) fun _ _ _ _ _ _ us hl=>match us,hl with | [_],_=>rfl
  have m_al0:=PySem.W.mg_of X G a_al0
  have k_al0:=F_al0.kp
  have b_al0:=F_al0.binds (ps:=["_law_some"]) fun _ _ _ _ _ _ us hl=>match us,hl with | [_],_=>rfl
  have m_ag0:=PySem.W.mg_of X G a_ag0
  have k_ag0:=F_ag0.kp
  have b_ag0:=F_ag0.binds (ps:=["_law_wishes","_law_on","_law_more"]) fun _ _ _ _ _ _ us hl=>match us,hl with | [_,_,_],_=>rfl
  have m_an0:=PySem.W.mg_of X G a_an0
  have k_an0:=F_an0.kp
  have b_an0:=F_an0.binds (ps:=["_law_some","_law_cell_here","_law_other"]) fun _ _ _ _ _ _ us hl=>match us,hl with | [_,_,_],_=>rfl
  have m_ai0:=PySem.W.mg_of X G a_ai0
  have k_ai0:=F_ai0.kp
  have b_ai0:=F_ai0.binds (ps:=["_law_lines","_law_start","_law_goal","_law_form"]) fun _ _ _ _ _ _ us hl=>match us,hl with | [_,_,_,_],_=>rfl
  have m_ab0:=PySem.W.mg_of X G a_ab0
  have k_ab0:=F_ab0.kp
  have b_ab0:=F_ab0.binds (ps:=["_law_lines","_law_cell_here","_law_here","_law_there","_law_extra"]) fun _ _ _ _ _ _ us hl=>match us,hl with | [_,_,_,_,_],_=>rfl
  have m_ac0:=PySem.W.mg_of X G a_ac0
  have k_ac0:=F_ac0.kp
  have b_ac0:=F_ac0.binds (ps:=["_law_lines","_law_cell_here","_law_here","_law_one","_law_other","_law_extra"]) fun _ _ _ _ _ _ us hl=>match us,hl with | [_,_,_,_,_,_],_=>rfl
  have m_ae0:=PySem.W.mg_of X G a_ae0
  have k_ae0:=F_ae0.kp
  have b_ae0:=F_ae0.binds (ps:=["_law_lines","_law_cell_here","_law_here","_law_there","_law_one","_law_extra"]) fun _ _ _ _ _ _ us hl=>match us,hl with | [_,_,_,_,_,_],_=>rfl
  have m_ak0:=PySem.W.mg_of X G a_ak0
  have k_ak0:=F_ak0.kp
  have b_ak0:=F_ak0.binds (ps:=["_law_lines","_law_cell_here","_law_words_here"]) fun _ _ _ _ _ _ us hl=>match us,hl with | [_,_,_],_=>rfl
  have m_aa0:=PySem.W.mg_of X G a_aa0
  have k_aa0:=F_aa0.kp
  have b_aa0:=F_aa0.binds (ps:=["_law_script","_law_start","_law_most","_law_words_here"]) fun _ _ _ _ _ _ us hl=>match us,hl with | [_,_,_,_],_=>rfl
  have m_ah0:=PySem.W.mg_of X G a_ah0
  have k_ah0:=F_ah0.kp
  have b_ah0:=F_ah0.binds (ps:=["_law_lines"]) fun _ _ _ _ _ _ us hl=>match us,hl with | [_],_=>rfl
  have m_ad0:=PySem.W.mg_of X G a_ad0
  have k_ad0:=F_ad0.kp
  have b_ad0:=F_ad0.binds (ps:=["_law_line"]) fun _ _ _ _ _ _ us hl=>match us,hl with | [_],_=>rfl
  have F_bl0:=fun_mk (st:=s_bl0) l_bl0 c_bl0 k_bl0
  have m_PAIRED:=PySem.W.mg_of X G g_PAIRED
  have m_LOW:=PySem.W.mg_of X G g_LOW
  have m_WITHOUT_ON:=PySem.W.mg_of X G g_WITHOUT_ON
  have m_RULES:=PySem.W.mg_of X G g_RULES
  have D_RULES:KDict K w aRULES (tblR (pickR f_bf0 f_ba0 f_as0 f_ax0 f_bc0 f_bd0 f_bb0 f_at0 f_az0 f_av0 f_aw0 f_ay0 f_au0 f_be0)):=D_RULES
  have m_len:=PySem.W.mg_none_of X G z_len
  have m_range:=PySem.W.mg_none_of X G z_range
  have m_list:=PySem.W.mg_none_of X G z_list
  have m_all:=PySem.W.mg_none_of X G z_all
  have m_zip:=PySem.W.mg_none_of X G z_zip
  have m_sorted:=PySem.W.mg_none_of X G z_sorted
  have m_max:=PySem.W.mg_none_of X G z_max
  have m_min:=PySem.W.mg_none_of X G z_min
  have m_KenError:=PySem.W.mg_of X G g_KenError
  have m_NoRule:=PySem.W.mg_of X G g_NoRule
  have m_NoLine:=PySem.W.mg_of X G g_NoLine
  have xc_NoRule:=x_NoRule.xc
  refine⟨PySem.W.fnOf "law" "law" (defArgs s_bl0) (defBody s_bl0) (defScope s_bl0) .none kV_bl0 dc_bl0 pm_bl0 an_bl0 cd_bl0 ct_bl0,fun s v=>.of_eq rfl,fun base _ _=>?_⟩
  have G_aj0:=ok_aj0 (P:=l.prog) (w:=w) (K:=K) (mg:=mg) (base:=base) (k:=0) F_aj0
  have G_af0:=ok_af0 (P:=l.prog) (w:=w) (K:=K) (mg:=mg) (base:=base) (k:=1) F_af0 (G_aj0.mono (by decide)) m_aj0 k_aj0 b_aj0 m_len
  have G_ap0:=ok_ap0 (P:=l.prog) (w:=w) (K:=K) (mg:=mg) (base:=base) (k:=1) F_ap0 (G_aj0.mono (by decide)) m_aj0 k_aj0 b_aj0 m_range
  have G_ao0:=all_ao0 (P:=l.prog) (w:=w) (K:=K) (mg:=mg) (base:=base) F_ao0 m_ao0 b_ao0 (fun k=>ok_aj0 F_aj0) m_aj0 k_aj0 b_aj0 m_len 2
  have G_bh0:=ok_bh0 (P:=l.prog) (w:=w) (K:=K) (mg:=mg) (base:=base) (k:=0) F_bh0 m_PAIRED t_PAIRED
  have G_bp0:=ok_bp0 (P:=l.prog) (w:=w) (K:=K) (mg:=mg) (base:=base) (k:=1) F_bp0 (G_bh0.mono (by decide)) m_bh0 k_bh0 b_bh0 m_len
  have G_aq0:=ok_aq0 (P:=l.prog) (w:=w) (K:=K) (mg:=mg) (base:=base) (k:=2) F_aq0 (G_bp0.mono (by decide)) m_bp0 k_bp0 b_bp0 (G_bh0.mono (by decide)) m_bh0 k_bh0 b_bh0 m_len
  have G_br0:=ok_br0 (P:=l.prog) (w:=w) (K:=K) (mg:=mg) (base:=base) (k:=2) F_br0 (G_bp0.mono (by decide)) m_bp0 k_bp0 b_bp0
  have G_bm0:=ok_bm0 (P:=l.prog) (w:=w) (K:=K) (mg:=mg) (base:=base) (k:=2) F_bm0 (G_bp0.mono (by decide)) m_bp0 k_bp0 b_bp0 (G_bh0.mono (by decide)) m_bh0 k_bh0 b_bh0 m_list m_len
  have G_bk0:=ok_bk0 (P:=l.prog) (w:=w) (K:=K) (mg:=mg) (base:=base) (k:=0) F_bk0
  have G_bf0:=ok_bf0 (P:=l.prog) (w:=w) (K:=K) (mg:=mg) (base:=base) (k:=3) F_bf0 (G_aq0.mono (by decide)) m_aq0 k_aq0 b_aq0
  have G_ba0:=ok_ba0 (P:=l.prog) (w:=w) (K:=K) (mg:=mg) (base:=base) (k:=3) F_ba0 (G_aq0.mono (by decide)) m_aq0 k_aq0 b_aq0 m_LOW t_LOW
  have G_as0:=ok_as0 (P:=l.prog) (w:=w) (K:=K) (mg:=mg) (base:=base) (k:=0) F_as0 m_list
  have G_ax0:=ok_ax0 (P:=l.prog) (w:=w) (K:=K) (mg:=mg) (base:=base) (k:=0) F_ax0 m_list
  have G_bc0:=ok_bc0 (P:=l.prog) (w:=w) (K:=K) (mg:=mg) (base:=base) (k:=0) F_bc0 m_list
  have G_bd0:=ok_bd0 (P:=l.prog) (w:=w) (K:=K) (mg:=mg) (base:=base) (k:=3) F_bd0 (G_bm0.mono (by decide)) m_bm0 k_bm0 b_bm0
  have G_bb0:=ok_bb0 (P:=l.prog) (w:=w) (K:=K) (mg:=mg) (base:=base) (k:=3) F_bb0 (G_bm0.mono (by decide)) m_bm0 k_bm0 b_bm0 (G_br0.mono (by decide)) m_br0 k_br0 b_br0
  have G_at0:=ok_at0 (P:=l.prog) (w:=w) (K:=K) (mg:=mg) (base:=base) (k:=3) F_at0 (G_bm0.mono (by decide)) m_bm0 k_bm0 b_bm0 (G_br0.mono (by decide)) m_br0 k_br0 b_br0
  have G_az0:=ok_az0 (P:=l.prog) (w:=w) (K:=K) (mg:=mg) (base:=base) (k:=3) F_az0 (G_aq0.mono (by decide)) m_aq0 k_aq0 b_aq0 (G_bm0.mono (by decide)) m_bm0 k_bm0 b_bm0 (G_br0.mono (by decide)) m_br0 k_br0 b_br0
  have G_av0:=ok_av0 (P:=l.prog) (w:=w) (K:=K) (mg:=mg) (base:=base) (k:=3) F_av0 (G_bk0.mono (by decide)) m_bk0 k_bk0 b_bk0 (G_bm0.mono (by decide)) m_bm0 k_bm0 b_bm0 (G_br0.mono (by decide)) m_br0 k_br0 b_br0
  have G_aw0:=ok_aw0 (P:=l.prog) (w:=w) (K:=K) (mg:=mg) (base:=base) (k:=3) F_aw0 (G_bk0.mono (by decide)) m_bk0 k_bk0 b_bk0 (G_bm0.mono (by decide)) m_bm0 k_bm0 b_bm0 (G_br0.mono (by decide)) m_br0 k_br0 b_br0
  have G_ay0:=ok_ay0 (P:=l.prog) (w:=w) (K:=K) (mg:=mg) (base:=base) (k:=3) F_ay0 (G_bk0.mono (by decide)) m_bk0 k_bk0 b_bk0 (G_br0.mono (by decide)) m_br0 k_br0 b_br0
  have G_au0:=ok_au0 (P:=l.prog) (w:=w) (K:=K) (mg:=mg) (base:=base) (k:=3) F_au0 (G_bk0.mono (by decide)) m_bk0 k_bk0 b_bk0 (G_bm0.mono (by decide)) m_bm0 k_bm0 b_bm0 (G_br0.mono (by decide)) m_br0 k_br0 b_br0
  have G_be0:=ok_be0 (P:=l.prog) (w:=w) (K:=K) (mg:=mg) (base:=base) (k:=3) F_be0 (G_bm0.mono (by decide)) m_bm0 k_bm0 b_bm0 m_list
  have G_bi0:=ok_bi0 (P:=l.prog) (w:=w) (K:=K) (mg:=mg) (base:=base) (k:=3) F_bi0 (G_aq0.mono (by decide)) m_aq0 k_aq0 b_aq0 m_WITHOUT_ON t_WITHOUT_ON
  have G_bo0:=ok_bo0 (P:=l.prog) (w:=w) (K:=K) (mg:=mg) (base:=base) (k:=4) (fR:=pickR f_bf0 f_ba0 f_as0 f_ax0 f_bc0 f_bd0 f_bb0 f_at0 f_az0 f_av0 f_aw0 f_ay0 f_au0 f_be0) (fdR:=pickR fd_bf0 fd_ba0 fd_as0 fd_ax0 fd_bc0 fd_bd0 fd_bb0 fd_at0 fd_az0 fd_av0 fd_aw0 fd_ay0 fd_au0 fd_be0) F_bo0 (G_bi0.mono (by decide)) m_bi0 k_bi0 b_bi0 m_RULES D_RULES m_NoRule x_NoRule (fun r=>match r with | .wish=>G_bf0.mono (by decide) | .low=>G_ba0.mono (by decide) | .both=>G_as0.mono (by decide) | .first=>G_ax0.mono (by decide) | .second=>G_bc0.mono (by decide) | .thn=>G_bd0.mono (by decide) | .parts=>G_bb0.mono (by decide) | .cases=>G_at0.mono (by decide) | .known=>G_az0.mono (by decide) | .curried=>G_av0.mono (by decide) | .either=>G_aw0.mono (by decide) | .idle=>G_ay0.mono (by decide) | .chain=>G_au0.mono (by decide) | .use=>G_be0.mono (by decide)) (fun r=>match r with | .wish=>k_bf0 | .low=>k_ba0 | .both=>k_as0 | .first=>k_ax0 | .second=>k_bc0 | .thn=>k_bd0 | .parts=>k_bb0 | .cases=>k_at0 | .known=>k_az0 | .curried=>k_av0 | .either=>k_aw0 | .idle=>k_ay0 | .chain=>k_au0 | .use=>k_be0) (fun r=>match r with | .wish=>b_bf0 | .low=>b_ba0 | .both=>b_as0 | .first=>b_ax0 | .second=>b_bc0 | .thn=>b_bd0 | .parts=>b_bb0 | .cases=>b_at0 | .known=>b_az0 | .curried=>b_av0 | .either=>b_aw0 | .idle=>b_ay0 | .chain=>b_au0 | .use=>b_be0)
  have G_ar0:=ok_ar0 (P:=l.prog) (w:=w) (K:=K) (mg:=mg) (base:=base) (k:=1) F_ar0 (G_bh0.mono (by decide)) m_bh0 k_bh0 b_bh0 m_all m_zip
  have G_bn0:=ok_bn0 (P:=l.prog) (w:=w) (K:=K) (mg:=mg) (base:=base) (k:=5) F_bn0 (G_bo0.mono (by decide)) m_bo0 k_bo0 b_bo0 m_NoRule xc_NoRule
  have G_bq0:=ok_bq0 (P:=l.prog) (w:=w) (K:=K) (mg:=mg) (base:=base) (k:=3) F_bq0 (G_bh0.mono (by decide)) m_bh0 k_bh0 b_bh0 (G_aq0.mono (by decide)) m_aq0 k_aq0 b_aq0 m_all
  have G_bj0:=ok_bj0 (P:=l.prog) (w:=w) (K:=K) (mg:=mg) (base:=base) (k:=6) F_bj0 (G_ar0.mono (by decide)) m_ar0 k_ar0 b_ar0 (G_bn0.mono (by decide)) m_bn0 k_bn0 b_bn0 (G_bq0.mono (by decide)) m_bq0 k_bq0 b_bq0 m_len m_all m_zip
  have G_bg0:=ok_bg0 (P:=l.prog) (w:=w) (K:=K) (mg:=mg) (base:=base) (k:=7) F_bg0 (G_bj0.mono (by decide)) m_bj0 k_bj0 b_bj0 m_range m_len
  have G_am0:=all_am0 (P:=l.prog) (w:=w) (K:=K) (mg:=mg) (base:=base) F_am0 m_am0 b_am0 m_len 101
  have G_al0:=ok_al0 (P:=l.prog) (w:=w) (K:=K) (mg:=mg) (base:=base) (k:=0) F_al0 m_sorted
  have G_ag0:=ok_ag0 (P:=l.prog) (w:=w) (K:=K) (mg:=mg) (base:=base) (k:=1) F_ag0 (G_al0.mono (by decide)) m_al0 k_al0 b_al0
  have G_an0:=ok_an0 (P:=l.prog) (w:=w) (K:=K) (mg:=mg) (base:=base) (k:=0) F_an0 m_len
  have G_ai0:=ok_ai0 (P:=l.prog) (w:=w) (K:=K) (mg:=mg) (base:=base) (k:=0) F_ai0 m_range m_len
  have G_ab0:=ok_ab0 (P:=l.prog) (w:=w) (K:=K) (mg:=mg) (base:=base) (k:=1) F_ab0 (G_al0.mono (by decide)) m_al0 k_al0 b_al0 (G_an0.mono (by decide)) m_an0 k_an0 b_an0 m_len m_list
  have G_ac0:=ok_ac0 (P:=l.prog) (w:=w) (K:=K) (mg:=mg) (base:=base) (k:=2) F_ac0 (G_an0.mono (by decide)) m_an0 k_an0 b_an0 (G_al0.mono (by decide)) m_al0 k_al0 b_al0 (G_ag0.mono (by decide)) m_ag0 k_ag0 b_ag0 m_len
  have G_ae0:=ok_ae0 (P:=l.prog) (w:=w) (K:=K) (mg:=mg) (base:=base) (k:=1) F_ae0 (G_an0.mono (by decide)) m_an0 k_an0 b_an0 (G_ai0.mono (by decide)) m_ai0 k_ai0 b_ai0 (G_al0.mono (by decide)) m_al0 k_al0 b_al0
  have G_ak0:=ok_ak0 (P:=l.prog) (w:=w) (K:=K) (mg:=mg) (base:=base) (k:=102) F_ak0 (G_ao0.mono (by decide)) m_ao0 k_ao0 b_ao0 (G_an0.mono (by decide)) m_an0 k_an0 b_an0 (G_aj0.mono (by decide)) m_aj0 k_aj0 b_aj0 (G_ab0.mono (by decide)) m_ab0 k_ab0 b_ab0 (G_ac0.mono (by decide)) m_ac0 k_ac0 b_ac0 (G_ae0.mono (by decide)) m_ae0 k_ae0 b_ae0 (G_am0.mono (by decide)) m_am0 k_am0 b_am0 m_len m_max
  have G_aa0:=ok_aa0 (P:=l.prog) (w:=w) (K:=K) (mg:=mg) (base:=base) (k:=103) F_aa0 (G_ao0.mono (by decide)) m_ao0 k_ao0 b_ao0 (G_af0.mono (by decide)) m_af0 k_af0 b_af0 (G_ak0.mono (by decide)) m_ak0 k_ak0 b_ak0 (G_aj0.mono (by decide)) m_aj0 k_aj0 b_aj0 m_range m_min m_len
  have G_ah0:=ok_ah0 (P:=l.prog) (w:=w) (K:=K) (mg:=mg) (base:=base) (k:=0) F_ah0 m_list
  have G_ad0:=ok_ad0 (P:=l.prog) (w:=w) (K:=K) (mg:=mg) (base:=base) (k:=8) F_ad0 (G_bo0.mono (by decide)) m_bo0 k_bo0 b_bo0 (G_bg0.mono (by decide)) m_bg0 k_bg0 b_bg0 m_list m_range m_len
  have G_bl0:=ok_bl0 (P:=l.prog) (w:=w) (K:=K) (mg:=mg) (base:=base) (k:=104) F_bl0 (G_ap0.mono (by decide)) m_ap0 k_ap0 b_ap0 (G_af0.mono (by decide)) m_af0 k_af0 b_af0 (G_aa0.mono (by decide)) m_aa0 k_aa0 b_aa0 (G_ah0.mono (by decide)) m_ah0 k_ah0 b_ah0 (G_bg0.mono (by decide)) m_bg0 k_bg0 b_bg0 (G_ad0.mono (by decide)) m_ad0 k_ad0 b_ad0 m_range m_len
  exact G_bl0
noncomputable def ask:Hd.Ask:=⟨[40,41,42,43,7,10,11,12,13,24,15,16,17,18,19,20,21,22,23,25,26,27,28,29,32,33,9,35,36,37,38,44,45,46,47,48,49,50,51,52,53,54,55,56],[6,5,31],[30],[],[Str.ofString "len",Str.ofString "range",Str.ofString "list",Str.ofString "all",Str.ofString "zip",Str.ofString "sorted",Str.ofString "max",Str.ofString "min"]⟩
noncomputable def cask:Hd.ClsAsk:=⟨[1,2,3],[(2,1)],[]⟩
noncomputable def q:Program:=PySem.W.view PySem.Challenge.pw_ken_k24_lines_checked [1,2,3,5,6,7,9,10,11,12,13,15,16,17,18,19,20,21,22,23,24,25,26,27,28,29,30,31,32,33,35,36,37,38,40,41,42,43,44,45,46,47,48,49,50,51,52,53,54,55,56]
noncomputable def loose:List Str:=[Str.ofString "RULES"]
open PySem.W.Fast
theorem h1 (w:World):(fun os=>Hd.pre PySem.Challenge.pw_ken_k24_lines_checked w os)=fun os=>Hd.preTo PySem.Challenge.pw_ken_k24_lines_checked w os:=by
  rw[hdPre_eq,hdPreTo_eq]
  kernel_rfl
theorem h2 (w:World):(fun os=>Hd.blk PySem.Challenge.pw_ken_k24_lines_checked w os)=fun os=>Hd.blkTo PySem.Challenge.pw_ken_k24_lines_checked w os:=by
  rw[hdBlk_eq,hdBlkTo_eq]
  kernel_rfl
theorem h3f (w:World):(fun os=>Hd.ev PySem.Challenge.pw_ken_k24_lines_checked q loose [] (Hd.obs2 PySem.Challenge.pw_ken_k24_lines_checked ask cask) 2313 ⟨308,0,321,67⟩ (World.withFollow w "special-get-raises" false) os)=fun _=>Hd.evTo PySem.Challenge.pw_ken_k24_lines_checked q loose (Hd.val2 PySem.Challenge.pw_ken_k24_lines_checked ask) ⟨308,0,321,67⟩ (World.withFollow w "special-get-raises" false):=by
  rw[hdEv_eq,hdEvTo_eq,hdObs2_eq]
  kernel_rfl
theorem h3t (w:World):(fun os=>Hd.ev PySem.Challenge.pw_ken_k24_lines_checked q loose [] (Hd.obs2 PySem.Challenge.pw_ken_k24_lines_checked ask cask) 2313 ⟨308,0,321,67⟩ (World.withFollow w "special-get-raises" true) os)=fun _=>Hd.evTo PySem.Challenge.pw_ken_k24_lines_checked q loose (Hd.val2 PySem.Challenge.pw_ken_k24_lines_checked ask) ⟨308,0,321,67⟩ (World.withFollow w "special-get-raises" true):=by
  rw[hdEv_eq,hdEvTo_eq,hdObs2_eq]
  kernel_rfl
theorem h3 (w:World):(fun os=>Hd.ev PySem.Challenge.pw_ken_k24_lines_checked q loose [] (Hd.obs2 PySem.Challenge.pw_ken_k24_lines_checked ask cask) 2313 ⟨308,0,321,67⟩ w os)=fun _=>Hd.evTo PySem.Challenge.pw_ken_k24_lines_checked q loose (Hd.val2 PySem.Challenge.pw_ken_k24_lines_checked ask) ⟨308,0,321,67⟩ w :=
  PySem.W.byRow2 "special-get-raises" (P:=fun w=>(fun os=>Hd.ev PySem.Challenge.pw_ken_k24_lines_checked q loose [] (Hd.obs2 PySem.Challenge.pw_ken_k24_lines_checked ask cask) 2313 ⟨308,0,321,67⟩ w os)=fun _=>Hd.evTo PySem.Challenge.pw_ken_k24_lines_checked q loose (Hd.val2 PySem.Challenge.pw_ken_k24_lines_checked ask) ⟨308,0,321,67⟩ w) h3f h3t w
theorem lft:PySem.W.LeftO PySem.Challenge.pw_ken_k24_lines_checked q loose (fun s=>PySem.W.xlAt q [] s&&PySem.W.recOk [] s) (Hd.hook2 PySem.Challenge.pw_ken_k24_lines_checked ask cask).obs (Hd.hook2 PySem.Challenge.pw_ken_k24_lines_checked ask cask).val 4750 :=
  Hd.left (by kernel_rfl) rfl (fun s=>by kernel_rfl) h1 h2 h3 rfl
theorem all_mk2 {l:PySem.W.OpenLaw} {w:World} {K:PySem.W.Frag} {h:Heap} {mg:Str→Option Value} {fa:Addr} (X:K.In h) (G:h.Ns mainGlobals mg) (hfa:mg "law"=some (.ref fa)) (E:Hd.obsK PySem.Challenge.pw_ken_k24_lines_checked ask K=Hd.valK PySem.Challenge.pw_ken_k24_lines_checked ask w.params) (D:Hd.chk PySem.Challenge.pw_ken_k24_lines_checked cask K=true) :
    ∃ fd:FuncData,(∀ (s:Shared) (v:Value),BindsTo s fd ⟨[v],[]⟩ [("_law_script",v)])∧∀ base:Heap,K.In base→base.Ns mainGlobals mg→FnOk l.prog w K mg base CX0 105 fa fd ["_law_script"] (sp_law K):=by
  obtain⟨f_aj0,fd_aj0,a_aj0,F_aj0⟩:Hd.FunF K "_law_mix" s_aj0:=Hd.fun_ofx (by kernel_rfl) (Hd.e_fn E (i:=40) (by decide))
  obtain⟨f_af0,fd_af0,a_af0,F_af0⟩:Hd.FunF K "_law_cell" s_af0:=Hd.fun_ofx (by kernel_rfl) (Hd.e_fn E (i:=41) (by decide))
  obtain⟨f_ap0,fd_ap0,a_ap0,F_ap0⟩:Hd.FunF K "_law_words" s_ap0:=Hd.fun_ofx (by kernel_rfl) (Hd.e_fn E (i:=42) (by decide))
  obtain⟨f_ao0,fd_ao0,a_ao0,F_ao0⟩:Hd.FunF K "_law_statement" s_ao0:=Hd.fun_ofx (by kernel_rfl) (Hd.e_fn E (i:=43) (by decide))
  obtain⟨f_bh0,fd_bh0,a_bh0,F_bh0⟩:Hd.FunF K "compared" s_bh0:=Hd.fun_ofx (by kernel_rfl) (Hd.e_fn E (i:=7) (by decide))
  obtain⟨f_bp0,fd_bp0,a_bp0,F_bp0⟩:Hd.FunF K "place" s_bp0:=Hd.fun_ofx (by kernel_rfl) (Hd.e_fn E (i:=10) (by decide))
  obtain⟨f_aq0,fd_aq0,a_aq0,F_aq0⟩:Hd.FunF K "among" s_aq0:=Hd.fun_ofx (by kernel_rfl) (Hd.e_fn E (i:=11) (by decide))
  obtain⟨f_br0,fd_br0,a_br0,F_br0⟩:Hd.FunF K "without" s_br0:=Hd.fun_ofx (by kernel_rfl) (Hd.e_fn E (i:=12) (by decide))
  obtain⟨f_bm0,fd_bm0,a_bm0,F_bm0⟩:Hd.FunF K "more" s_bm0:=Hd.fun_ofx (by kernel_rfl) (Hd.e_fn E (i:=13) (by decide))
  obtain⟨f_bk0,fd_bk0,a_bk0,F_bk0⟩:Hd.FunF K "is_if" s_bk0:=Hd.fun_ofx (by kernel_rfl) (Hd.e_fn E (i:=24) (by decide))
  obtain⟨f_bf0,fd_bf0,a_bf0,F_bf0⟩:Hd.FunF K "by_wish" s_bf0:=Hd.fun_ofx (by kernel_rfl) (Hd.e_fn E (i:=15) (by decide))
  obtain⟨f_ba0,fd_ba0,a_ba0,F_ba0⟩:Hd.FunF K "by_low" s_ba0:=Hd.fun_ofx (by kernel_rfl) (Hd.e_fn E (i:=16) (by decide))
  obtain⟨f_as0,fd_as0,a_as0,F_as0⟩:Hd.FunF K "by_both" s_as0:=Hd.fun_ofx (by kernel_rfl) (Hd.e_fn E (i:=17) (by decide))
  obtain⟨f_ax0,fd_ax0,a_ax0,F_ax0⟩:Hd.FunF K "by_first" s_ax0:=Hd.fun_ofx (by kernel_rfl) (Hd.e_fn E (i:=18) (by decide))
  obtain⟨f_bc0,fd_bc0,a_bc0,F_bc0⟩:Hd.FunF K "by_second" s_bc0:=Hd.fun_ofx (by kernel_rfl) (Hd.e_fn E (i:=19) (by decide))
  obtain⟨f_bd0,fd_bd0,a_bd0,F_bd0⟩:Hd.FunF K "by_then" s_bd0:=Hd.fun_ofx (by kernel_rfl) (Hd.e_fn E (i:=20) (by decide))
  obtain⟨f_bb0,fd_bb0,a_bb0,F_bb0⟩:Hd.FunF K "by_parts" s_bb0:=Hd.fun_ofx (by kernel_rfl) (Hd.e_fn E (i:=21) (by decide))
  obtain⟨f_at0,fd_at0,a_at0,F_at0⟩:Hd.FunF K "by_cases" s_at0:=Hd.fun_ofx (by kernel_rfl) (Hd.e_fn E (i:=22) (by decide))
  obtain⟨f_az0,fd_az0,a_az0,F_az0⟩:Hd.FunF K "by_known" s_az0:=Hd.fun_ofx (by kernel_rfl) (Hd.e_fn E (i:=23) (by decide))
  obtain⟨f_av0,fd_av0,a_av0,F_av0⟩:Hd.FunF K "by_curried" s_av0:=Hd.fun_ofx (by kernel_rfl) (Hd.e_fn E (i:=25) (by decide))
  obtain⟨f_aw0,fd_aw0,a_aw0,F_aw0⟩:Hd.FunF K "by_either" s_aw0:=Hd.fun_ofx (by kernel_rfl) (Hd.e_fn E (i:=26) (by decide))
  obtain⟨f_ay0,fd_ay0,a_ay0,F_ay0⟩:Hd.FunF K "by_idle" s_ay0:=Hd.fun_ofx (by kernel_rfl) (Hd.e_fn E (i:=27) (by decide))
  obtain⟨f_au0,fd_au0,a_au0,F_au0⟩:Hd.FunF K "by_chain" s_au0:=Hd.fun_ofx (by kernel_rfl) (Hd.e_fn E (i:=28) (by decide))
  obtain⟨f_be0,fd_be0,a_be0,F_be0⟩:Hd.FunF K "by_use" s_be0:=Hd.fun_ofx (by kernel_rfl) (Hd.e_fn E (i:=29) (by decide))
  obtain⟨f_bi0,fd_bi0,a_bi0,F_bi0⟩:Hd.FunF K "has_on" s_bi0:=Hd.fun_ofx (by kernel_rfl) (Hd.e_fn E (i:=32) (by decide))
  obtain⟨f_bo0,fd_bo0,a_bo0,F_bo0⟩:Hd.FunF K "needs" s_bo0:=Hd.fun_ofx (by kernel_rfl) (Hd.e_fn E (i:=33) (by decide))
  obtain⟨f_ar0,fd_ar0,a_ar0,F_ar0⟩:Hd.FunF K "are_wishes" s_ar0:=Hd.fun_ofx (by kernel_rfl) (Hd.e_fn E (i:=9) (by decide))
  obtain⟨f_bn0,fd_bn0,a_bn0,F_bn0⟩:Hd.FunF K "needed_by" s_bn0:=Hd.fun_ofx (by kernel_rfl) (Hd.e_fn E (i:=35) (by decide))
  obtain⟨f_bq0,fd_bq0,a_bq0,F_bq0⟩:Hd.FunF K "serves" s_bq0:=Hd.fun_ofx (by kernel_rfl) (Hd.e_fn E (i:=36) (by decide))
  obtain⟨f_bj0,fd_bj0,a_bj0,F_bj0⟩:Hd.FunF K "is_good" s_bj0:=Hd.fun_ofx (by kernel_rfl) (Hd.e_fn E (i:=37) (by decide))
  obtain⟨f_bg0,fd_bg0,a_bg0,F_bg0⟩:Hd.FunF K "check" s_bg0:=Hd.fun_ofx (by kernel_rfl) (Hd.e_fn E (i:=38) (by decide))
  obtain⟨f_am0,fd_am0,a_am0,F_am0⟩:Hd.FunF K "_law_parts" s_am0:=Hd.fun_ofx (by kernel_rfl) (Hd.e_fn E (i:=44) (by decide))
  obtain⟨f_al0,fd_al0,a_al0,F_al0⟩:Hd.FunF K "_law_once" s_al0:=Hd.fun_ofx (by kernel_rfl) (Hd.e_fn E (i:=45) (by decide))
  obtain⟨f_ag0,fd_ag0,a_ag0,F_ag0⟩:Hd.FunF K "_law_changed" s_ag0:=Hd.fun_ofx (by kernel_rfl) (Hd.e_fn E (i:=46) (by decide))
  obtain⟨f_an0,fd_an0,a_an0,F_an0⟩:Hd.FunF K "_law_pick" s_an0:=Hd.fun_ofx (by kernel_rfl) (Hd.e_fn E (i:=47) (by decide))
  obtain⟨f_ai0,fd_ai0,a_ai0,F_ai0⟩:Hd.FunF K "_law_found" s_ai0:=Hd.fun_ofx (by kernel_rfl) (Hd.e_fn E (i:=48) (by decide))
  obtain⟨f_ab0,fd_ab0,a_ab0,F_ab0⟩:Hd.FunF K "_law_by_goal" s_ab0:=Hd.fun_ofx (by kernel_rfl) (Hd.e_fn E (i:=49) (by decide))
  obtain⟨f_ac0,fd_ac0,a_ac0,F_ac0⟩:Hd.FunF K "_law_by_if" s_ac0:=Hd.fun_ofx (by kernel_rfl) (Hd.e_fn E (i:=50) (by decide))
  obtain⟨f_ae0,fd_ae0,a_ae0,F_ae0⟩:Hd.FunF K "_law_by_two" s_ae0:=Hd.fun_ofx (by kernel_rfl) (Hd.e_fn E (i:=51) (by decide))
  obtain⟨f_ak0,fd_ak0,a_ak0,F_ak0⟩:Hd.FunF K "_law_next" s_ak0:=Hd.fun_ofx (by kernel_rfl) (Hd.e_fn E (i:=52) (by decide))
  obtain⟨f_aa0,fd_aa0,a_aa0,F_aa0⟩:Hd.FunF K "_law_built" s_aa0:=Hd.fun_ofx (by kernel_rfl) (Hd.e_fn E (i:=53) (by decide))
  obtain⟨f_ah0,fd_ah0,a_ah0,F_ah0⟩:Hd.FunF K "_law_copy" s_ah0:=Hd.fun_ofx (by kernel_rfl) (Hd.e_fn E (i:=54) (by decide))
  obtain⟨f_ad0,fd_ad0,a_ad0,F_ad0⟩:Hd.FunF K "_law_by_needs" s_ad0:=Hd.fun_ofx (by kernel_rfl) (Hd.e_fn E (i:=55) (by decide))
  obtain⟨f_bl0,oc_bl0,od_bl0,sl_bl0,kV_bl0,dc_bl0,pm_bl0,an_bl0,cd_bl0,ct_bl0,a_bl0,l_bl0,c_bl0,k_bl0⟩:Hd.FnF K "law" s_bl0:=Hd.fn_ofx (by kernel_rfl) (Hd.e_fn E (i:=56) (by decide))
  obtain⟨aPAIRED,g_PAIRED,t_PAIRED⟩:Hd.TupF K "PAIRED" ["both","one","then"]:=Hd.tup_ofx (by kernel_rfl) (by kernel_rfl) (by decide) (Hd.e_tup E (i:=6) (by decide))
  obtain⟨aLOW,g_LOW,t_LOW⟩:Hd.TupF K "LOW" ["low"]:=Hd.tup_ofx (by kernel_rfl) (by kernel_rfl) (by decide) (Hd.e_tup E (i:=5) (by decide))
  obtain⟨aWITHOUT_ON,g_WITHOUT_ON,t_WITHOUT_ON⟩:Hd.TupF K "WITHOUT_ON" ["wish","low","both","first","second","then"]:=Hd.tup_ofx (by kernel_rfl) (by kernel_rfl) (by decide) (Hd.e_tup E (i:=31) (by decide))
  obtain⟨aRULES,g_RULES,D_RULES⟩:Hd.KfF K w "RULES" _:=Hd.kf_ofx (l:=[("wish","by_wish"),("low","by_low"),("both","by_both"),("first","by_first"),("second","by_second"),("then","by_then"),("parts","by_parts"),("cases","by_cases"),("known","by_known"),("curried","by_curried"),("either","by_either"),("idle","by_idle"),("chain","by_chain"),("use","by_use")]) [f_bf0,f_ba0,f_as0,f_ax0,f_bc0,f_bd0,f_bb0,f_at0,f_az0,f_av0,f_aw0,f_ay0,f_au0,f_be0] (by kernel_rfl) (by kernel_rfl) (.cons a_bf0 (.cons a_ba0 (.cons a_as0 (.cons a_ax0 (.cons a_bc0 (.cons a_bd0 (.cons a_bb0 (.cons a_at0 (.cons a_az0 (.cons a_av0 (.cons a_aw0 (.cons a_ay0 (.cons a_au0 (.cons a_be0 (.nil))))))))))))))) (show (["wish","low","both","first","second","then","parts","cases","known","curried","either","idle","chain","use"]:List Str).Nodup by decide) (Hd.e_kf E (i:=30) (by decide))
  have g_KenError:=Hd.c_refx (x:="KenError") D (i:=1) (by kernel_rfl) (by decide)
  have g_NoRule:=Hd.c_refx (x:="NoRule") D (i:=2) (by kernel_rfl) (by decide)
  have g_NoLine:=Hd.c_refx (x:="NoLine") D (i:=3) (by kernel_rfl) (by decide)
  obtain⟨x_NoRule,z_NoRule,i_1,i_2⟩:=Hd.c_exc D (ij:=(2,1)) (by decide)
  have z_len:PySem.W.nsIn K mainGlobals "len"=some none:=Hd.e_bl E (x:="len") (.head _)
  have z_range:PySem.W.nsIn K mainGlobals "range"=some none:=Hd.e_bl E (x:="range") (.tail _ (.head _))
  have z_list:PySem.W.nsIn K mainGlobals "list"=some none:=Hd.e_bl E (x:="list") (.tail _ (.tail _ (.head _)))
  have z_all:PySem.W.nsIn K mainGlobals "all"=some none:=Hd.e_bl E (x:="all") (.tail _ (.tail _ (.tail _ (.head _))))
  have z_zip:PySem.W.nsIn K mainGlobals "zip"=some none:=Hd.e_bl E (x:="zip") (.tail _ (.tail _ (.tail _ (.tail _ (.head _)))))
  have z_sorted:PySem.W.nsIn K mainGlobals "sorted"=some none:=Hd.e_bl E (x:="sorted") (.tail _ (.tail _ (.tail _ (.tail _ (.tail _ (.head _))))))
  have z_max:PySem.W.nsIn K mainGlobals "max"=some none:=Hd.e_bl E (x:="max") (.tail _ (.tail _ (.tail _ (.tail _ (.tail _ (.tail _ (.head _)))))))
  have z_min:PySem.W.nsIn K mainGlobals "min"=some none:=Hd.e_bl E (x:="min") (.tail _ (.tail _ (.tail _ (.tail _ (.tail _ (.tail _ (.tail _ (.head _))))))))
  exact all_mk X G hfa a_aj0 F_aj0 a_af0 F_af0 a_ap0 F_ap0 a_ao0 F_ao0 a_bh0 F_bh0 a_bp0 F_bp0 a_aq0 F_aq0 a_br0 F_br0 a_bm0 F_bm0 a_bk0 F_bk0 a_bf0 F_bf0 a_ba0 F_ba0 a_as0 F_as0 a_ax0 F_ax0 a_bc0 F_bc0 a_bd0 F_bd0 a_bb0 F_bb0 a_at0 F_at0 a_az0 F_az0 a_av0 F_av0 a_aw0 F_aw0 a_ay0 F_ay0 a_au0 F_au0 a_be0 F_be0 a_bi0 F_bi0 a_bo0 F_bo0 a_ar0 F_ar0 a_bn0 F_bn0 a_bq0 F_bq0 a_bj0 F_bj0 a_bg0 F_bg0 a_am0 F_am0 a_al0 F_al0 a_ag0 F_ag0 a_an0 F_an0 a_ai0 F_ai0 a_ab0 F_ab0 a_ac0 F_ac0 a_ae0 F_ae0 a_ak0 F_ak0 a_aa0 F_aa0 a_ah0 F_ah0 a_ad0 F_ad0 a_bl0 l_bl0 c_bl0 k_bl0 g_PAIRED t_PAIRED g_LOW t_LOW g_WITHOUT_ON t_WITHOUT_ON g_RULES D_RULES z_len z_range z_list z_all z_zip z_sorted z_max z_min g_KenError g_NoRule g_NoLine x_NoRule
noncomputable def dLaw:PySem.DefRec:=⟨"law",defArgs s_bl0,defBody s_bl0,defScope s_bl0,Hd.posOf s_bl0⟩
theorem wlk:PySem.W.WalkO q loose (PySem.W.XL q []) (Hd.hook2 PySem.Challenge.pw_ken_k24_lines_checked ask cask).says (PySem.Challenge.rw_ken_k24_lines_checked).row.toRowW dLaw [] (fun f vs=>PySem.call f vs) :=
  Hd.walkH2 (l:=PySem.Challenge.rw_ken_k24_lines_checked) (n:=63) (k:=105) (x:="_law_script") (CX:=CX0) (sp:=fun K=>sp_law K) rfl (by decide) rfl ⟨rfl,by decide,by decide⟩ (fun w mg fa h K KX G hmg E D=>all_mk2 KX G hmg E D)
    (fun _ _ a ns hl _ hS=>⟨a,ns,rfl,hS,hl,fun _=>rfl⟩) fun _ _ _ _ z=>z
end KLaw
open PySem PySem.W PyProof.Rows
set_option maxRecDepth 100000 in
set_option maxHeartbeats 0 in
theorem PySem.Challenge.cw_ken_k24_lines_checked_holds : PySem.Challenge.rw_ken_k24_lines_checked.Holds := by
  refine PySem.W.holds_law (by decide +kernel) fun said=>PySem.W.holds_open (q:=KLaw.q) (loose:=KLaw.loose) (XP:=XL KLaw.q []) (d:=KLaw.dLaw) (kwd:=[]) (YP:=(Hd.hook2 PySem.Challenge.pw_ken_k24_lines_checked KLaw.ask KLaw.cask).says)
    KLaw.lft (Hd.hook2 PySem.Challenge.pw_ken_k24_lines_checked KLaw.ask KLaw.cask).of (Hd.hook2 PySem.Challenge.pw_ken_k24_lines_checked KLaw.ask KLaw.cask).keeps
    (fun s e=>xl_of s (Bool.and_eq_true_iff.mp e).1) XL.keeps (by kernel_rfl) (by kernel_rfl) rfl (fun s e=>recFacts_of (Bool.and_eq_true_iff.mp e).2)
    rfl said (by decide +kernel) ⟨rfl,rfl,rfl,rfl,rfl,by decide +kernel⟩ ?hw ?hc
  (case hw=>w_witness2)
  exact KLaw.wlk
