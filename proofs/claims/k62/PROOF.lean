import PyProof.Rows.All
import Wide.All
import OpenK.AllK
import Wide.FinOn
import Lean
import PyProof.EqAt
import PyProof.EqKinds
import PyProof.TupleCall
import PyProof.NeData
import PyProof.P3In
import PyProof.ZipIter
import PyProof.Rows.ZipGen
import KE.KRevIter
import PyProof.CollectIter
import PyProof.ListRange
import PyProof.EnumMake
import PyProof.EnumFor
import PyProof.EnumStmt
import PyProof.Rows.SortStr
import KE.KDictList
import KE.KSortTup
import KE.KSortAsk
import PyProof.SumAny
import PyProof.WalksMore
import KE.KTupSum
import PyProof.FactsAll.set
import PyProof.Rows.SetFrom
import PyProof.InstStoreFacts
import PySem.Challenge.RW_ken_k62_swapped
import PyProof.FactsAll.tuple_2
import PyProof.Rows.Range3
import PyProof.Rows.SeqMore2
import PyProof.SeqI3
set_option Elab.async false
set_option linter.all false
set_option maxRecDepth 100000
namespace L2
open PySem PySem.Spec PyProof.Rows
noncomputable abbrev Key:=Sum Int Str
noncomputable def keyIs:Key→Value→Bool
 | .inl k,v=>Value.isInt k v
 | .inr x,v=>Value.isStrOf x v
noncomputable def keyH (w:World):Key→Int
 | .inl k=>hashInt k
 | .inr x=>hashStr w x
theorem keyIs_shape:∀ {k:Key} {v:Value},keyIs k v=true→(∃ i t,k=Sum.inl i∧v=Value.int i t)∨(∃ x t,k=Sum.inr x∧v=Value.str x t)
 | .inl i,v,h=>by
  obtain⟨t,e⟩:=Value.isInt_shape (k:=i) (v:=v) h
  exact .inl ⟨i,t,rfl,e⟩
 | .inr x,v,h=>by
  obtain⟨t,e⟩:=Value.isStrOf_shape (x:=x) (v:=v) h
  exact .inr ⟨x,t,rfl,e⟩
theorem keyIs_int (i:Int) (t:Tok):keyIs (.inl i) (.int i t)=true:=by simp[keyIs,Value.isInt]
theorem keyIs_str (x:Str) (t:Tok):keyIs (.inr x) (.str x t)=true:=by simp[keyIs,Value.isStrOf]
theorem key_ll (a b:Int):decide ((Sum.inl a:Key)=Sum.inl b)=(a == b):=by
 by_cases e:a=b
 ·subst e;simp
 ·have h:¬ (Sum.inl a:Key)=Sum.inl b:=fun q=>e (Sum.inl.inj q)
  rw[decide_eq_false h]
  exact (beq_eq_false_iff_ne.mpr e).symm
theorem key_rr (a b:Str):decide ((Sum.inr a:Key)=Sum.inr b)=decide (a=b):=by
 by_cases e:a=b
 ·subst e;simp
 ·have h:¬ (Sum.inr a:Key)=Sum.inr b:=fun q=>e (Sum.inr.inj q)
  rw[decide_eq_false h,decide_eq_false e]
theorem key_lr (a:Int) (b:Str):decide ((Sum.inl a:Key)=Sum.inr b)=false:=decide_eq_false (fun q=>nomatch q)
theorem key_rl (a:Str) (b:Int):decide ((Sum.inr a:Key)=Sum.inl b)=false:=decide_eq_false (fun q=>nomatch q)
noncomputable def mixKind (prog:Program) (w:World):PySem.KeyKind prog w Key where
  is:=keyIs
  hash:=keyH w
  inj:=fun v a b ha hb=>by
    rcases keyIs_shape ha with ⟨i,t,rfl,rfl⟩ | ⟨x,t,rfl,rfl⟩
    · rcases keyIs_shape hb with ⟨j,u,rfl,e⟩ | ⟨y,u,rfl,e⟩
      · injection e with e1 _;rw[e1]
      · exact nomatch e
    · rcases keyIs_shape hb with ⟨j,u,rfl,e⟩ | ⟨y,u,rfl,e⟩
      · exact nomatch e
      · injection e with e1 _;rw[e1]
  byValue:=fun k v h=>by
    rcases keyIs_shape h with ⟨i,t,rfl,rfl⟩ | ⟨x,t,rfl,rfl⟩<;>rfl
  pyHash:=fun hv h=>by
    rcases keyIs_shape hv with ⟨i,t,rfl,rfl⟩ | ⟨x,t,rfl,rfl⟩
    · exact wpAny_pyHash_int h
    · exact wpAny_pyHash_str h
  eqBool:=fun hu hv h=>by
    rcases keyIs_shape hu with ⟨i,t,rfl,rfl⟩ | ⟨x,t,rfl,rfl⟩
    · rcases keyIs_shape hv with ⟨j,u,rfl,rfl⟩ | ⟨y,u,rfl,rfl⟩
      · rw[key_ll] at h;exact wpAny_eqBool_int h
      · rw[key_lr] at h;exact SeqAt.EqAt.int_str i t y u _ _ _ _ h
    · rcases keyIs_shape hv with ⟨j,u,rfl,rfl⟩ | ⟨y,u,rfl,rfl⟩
      · rw[key_rl] at h;exact SeqAt.EqAt.str_int x t j u _ _ _ _ h
      · rw[key_rr] at h;exact wpAny_eqBool_str h
  «strs»:=fun k x t v h=>by
    rcases keyIs_shape h with ⟨i,u,rfl,e⟩ | ⟨y,u,rfl,e⟩
    · exact nomatch e
    · injection e with e1 _
      subst e1
      cases v<;>rfl
theorem mixKind_int (prog:Program) (w:World) (i:Int) (t:Tok):(mixKind prog w).is (.inl i) (.int i t)=true:=keyIs_int i t
theorem mixKind_str (prog:Program) (w:World) (x:Str) (t:Tok):(mixKind prog w).is (.inr x) (.str x t)=true:=keyIs_str x t
end L2
namespace L2
open PySem PySem.Spec PyProof.Rows
inductive V where
 | non | bl (b:Bool) | int (i:Int) | str (x:Str) | byt (b:Array UInt8) | flt (b:UInt64) | ref (a:Addr) | ty (n:String)
 deriving DecidableEq
noncomputable def RelV:V→Value→Prop
 | .non,u=>u=Value.none
 | .bl b,u=>u=Value.bool b
 | .int i,u=>∃ t,u=Value.int i t
 | .str x,u=>∃ t,u=Value.str x t
 | .byt b,u=>∃ t,u=Value.bytes b t
 | .flt b,u=>∃ t,u=Value.float b t
 | .ref a,u=>u=Value.ref a
 | .ty n,u=>u=Value.type n
noncomputable abbrev Vals:List V→List Value→Prop:=Paired RelV
theorem Vals.length {xs:List V} {us:List Value} (r:Vals xs us):xs.length=us.length:=Paired.length r
theorem Vals.get:∀ {xs:List V} {us:List Value} {i:Nat} {x:V},Vals xs us→xs[i]?=some x→∃ u,us[i]?=some u∧RelV x u
 | _,_,_,_,.nil,e=>by simp at e
 | _,_,0,_,.cons r _,e=>by simp at e;subst e;exact⟨_,rfl,r⟩
 | _,_,i+1,x,.cons _ t,e=>by
  obtain⟨u,h1,h2⟩:=Vals.get (i:=i) (x:=x) t (by simpa using e)
  exact⟨u,by simpa using h1,h2⟩
theorem Vals.append:∀ {xs ys:List V} {us ws:List Value},Vals xs us→Vals ys ws→Vals (xs++ys) (us++ws)
 | _,_,_,_,.nil,s=>s
 | _,_,_,_,.cons r t,s=>.cons r (Vals.append t s)
theorem Vals.take:∀ {xs:List V} {us:List Value} (n:Nat),Vals xs us→Vals (xs.take n) (us.take n)
 | _,_,0,_=>.nil
 | _,_,_+1,.nil=>.nil
 | _,_,n+1,.cons r t=>.cons r (Vals.take n t)
theorem Vals.drop:∀ {xs:List V} {us:List Value} (n:Nat),Vals xs us→Vals (xs.drop n) (us.drop n)
 | _,_,0,r=>r
 | _,_,_+1,.nil=>.nil
 | _,_,n+1,.cons _ t=>Vals.drop n t
noncomputable def RelO:Option V→Option Value→Prop
 | some v,some u=>RelV v u
 | none,none=>True
 | _,_=>False
noncomputable def KV {κ:Type}:List (κ×V)→List (κ×Value)→Prop:=Paired fun (p:κ×V) (q:κ×Value)=>p.1=q.1∧RelV p.2 q.2
noncomputable def kV:Key→V
 | .inl i=>.int i
 | .inr x=>.str x
inductive HO where
 | lst (xs:List V)
 | tup (xs:List V)
 | dK (kvs:List (Key×V)) | dT (kvs:List (List Key×V))
 | set (S:Int→Bool) (n:Nat)
 | ins (C dx:Addr) (fs:List (Str×V))
 | own (x:Addr)
 | xd (fs:List (Str×V))
 | met (f x:Addr)
 | rng (lo hi:Int)
 | frz (o:Obj) (u:HO)
 | tbl (ps:Array Value)
 | ext (φ:Heap→Prop)
noncomputable abbrev Hp:=Addr→Option HO
noncomputable def upd (H:Hp) (a:Addr) (o:HO):Hp:=fun b=>if b=a then some o else H b
theorem upd_same {H:Hp} {a:Addr} {o:HO}:upd H a o a=some o:=by unfold upd;rw[if_pos rfl]
theorem upd_ne {H:Hp} {a b:Addr} {o:HO} (h:b≠a):upd H a o b=H b:=by unfold upd;rw[if_neg h]
theorem upd_upd {H:Hp} {a:Addr} {o u:HO}:upd (upd H a o) a u=upd H a u:=by
 funext b;unfold upd;split<;>rfl
theorem ne_of {H:Hp} {a b:Addr} {o u:HO} (h:H a=some o) (h':H b=some u) (d:o≠u):a≠b:=by
 intro e;subst e;rw[h] at h';exact d (Option.some.inj h')
theorem ne_of_none {H:Hp} {a b:Addr} {o:HO} (h:H a=some o) (h':H b=none):a≠b:=by
 intro e;subst e;rw[h] at h';cases h'
section
variable (P:Program) (w:World)
noncomputable def ObjOk (H:Hp) (h:Heap) (a:Addr):HO→Prop
 | .lst xs=>xs.length≤sizeLine∧∃ (its:List Value) (n:Nat),Vals xs its∧h.get? a=some { cls:=.type "list",data:=.seq its.toArray n }
 | .tup xs=>xs.length≤sizeLine∧∃ its:List Value,Vals xs its∧IsTup h a its.toArray
 | .dK kvs=>kvs.length≤sizeLine∧(a == sysModules)=false∧∃ vs,KV kvs vs∧h.DictOf (mixKind P w) a vs
 | .dT kvs=>kvs.length≤sizeLine∧(a == sysModules)=false∧∃ xs:List (List Key×Addr×Value),
   Paired (fun (p:List Key×V) (q:List Key×Addr×Value)=>p.1=q.1∧H q.2.1=some (.tup (p.1.map kV))∧RelV p.2 q.2.2) kvs xs ∧
   ∃ o es ep,h.get? a=some o∧o.ExactDict∧o.data=.dict es ep∧es.toList=xs.map (entryOfKey (tupleKind (mixKind P w)))∧(xs.map (·.1)).Nodup
 | .set S n=>h.SetOf (intKind P w) a S n
 | .ins C dx fs=>H dx=some (.own a)∧fs.length≤1000∧dx≠a∧h.get? a=some (PySem.W.instObj C dx) ∧
   ∃ mA,h.Ns1 dx mA∧(∀ f,RelO (fs.lookup f) (mA f))∧PySem.Within mA (fs.map (·.1))
 | .own _=>∃ o,h.get? a=some o
 | .xd fs=>∃ mA,h.Ns1 a mA∧∀ f,RelO (fs.lookup f) (mA f)
 | .rng lo hi=>∃ t u v,h.get? a=some { cls:=.type "range",data:=.fields #[.int lo t,.int hi u,.int 1 v] }
 | .frz o u=>h.get? a=some o∧ObjOk H h a u
 | .tbl ps=>h.get? a=some { cls:=.none,data:=.fields ps }
 | .met f x=>h.get? a=some (PySem.W.methodObj (.ref f) (.ref x))
 | .ext φ=>φ h∧(∃ o,h.get? a=some o)∧∀ h1 h2:Heap,φ h1→(∀ o,h1.get? a=some o→h2.get? a=some o)→φ h2
noncomputable def HOk (H:Hp) (h:Heap):Prop:=∀ a o,H a=some o→ObjOk P w H h a o
end
section
variable {P:Program} {w:World} {H H':Hp} {h h':Heap} {a:Addr} {o:HO}
theorem ObjOk.lt (x:ObjOk P w H h a o):a < h.objs.size:=by
 cases o with
 | lst xs=>obtain⟨_,_,_,_,e⟩:=x;exact Heap.lt_size e
 | tup xs=>obtain⟨_,_,_,p⟩:=x;exact p.lt
 | dK kvs=>obtain⟨_,_,_,_,o,_,_,e,_⟩:=x;exact Heap.lt_size e
 | dT kvs=>obtain⟨_,_,_,_,o,_,_,e,_⟩:=x;exact Heap.lt_size e
 | set S n=>obtain⟨o,_,_,_,e,_⟩:=x;exact Heap.lt_size e
 | ins C dx fs=>obtain⟨_,_,_,e,_⟩:=x;exact Heap.lt_size e
 | own y=>obtain⟨_,e⟩:=x;exact Heap.lt_size e
 | xd fs=>obtain⟨_,⟨_,_,_,e,_⟩,_⟩:=x;exact Heap.lt_size e
 | rng lo hi=>obtain⟨_,_,_,e⟩:=x;exact Heap.lt_size e
 | frz ob u=>obtain⟨e,_⟩:=x;exact Heap.lt_size e
 | tbl ps=>exact Heap.lt_size (show h.get? a=some _ from x)
 | met f y=>exact Heap.lt_size (show h.get? a=some _ from x)
 | ext φ=>obtain⟨_,⟨_,e⟩,_⟩:=x;exact Heap.lt_size e
theorem Paired.mapP {α β:Type} {F G:α→β→Prop}:∀ {l₁:List α} {l₂:List β},Paired F l₁ l₂→(∀ a b,F a b→G a b)→Paired G l₁ l₂
 | _,_,.nil,_=>.nil
 | _,_,.cons r t,f=>.cons (f _ _ r) (Paired.mapP t f)
theorem ObjOk.stay (x:ObjOk P w H h a o) (k:∀ b u,(b=a∨H b=some (.own a))→h.get? b=some u→h'.get? b=some u)
  (ho:∀ b,H b=some (.own a)→H' b=some (.own a)) (ht:∀ b xs,H b=some (.tup xs)→H' b=some (.tup xs)):ObjOk P w H' h' a o:=by
 induction o with
 | lst xs=>obtain⟨z,its,n,r,e⟩:=x;exact⟨z,its,n,r,k _ _ (.inl rfl) e⟩
 | tup xs=>obtain⟨z,its,r,ob,e,c⟩:=x;exact⟨z,its,r,ob,k _ _ (.inl rfl) e,c⟩
 | dK kvs=>obtain⟨z,y,vs,r,ob,es,ep,e,c⟩:=x;exact⟨z,y,vs,r,ob,es,ep,k _ _ (.inl rfl) e,c⟩
 | dT kvs =>
  obtain⟨z,y,xs,r,ob,es,ep,e,c⟩:=x
  exact⟨z,y,xs,Paired.mapP r fun p q z=>⟨z.1,ht _ _ z.2.1,z.2.2⟩,ob,es,ep,k _ _ (.inl rfl) e,c⟩
 | set S n=>obtain⟨ob,es,ep,t,e,c⟩:=x;exact⟨ob,es,ep,t,k _ _ (.inl rfl) e,c⟩
 | ins C dx fs =>
  obtain⟨d,z,ne,e,mA,⟨od,es,ep,e2,c⟩,r⟩:=x
  exact⟨ho _ d,z,ne,k _ _ (.inl rfl) e,mA,⟨od,es,ep,k _ _ (.inr d) e2,c⟩,r⟩
 | own y=>obtain⟨ob,e⟩:=x;exact⟨ob,k _ _ (.inl rfl) e⟩
 | xd fs=>obtain⟨mA,⟨od,es,ep,e,c⟩,r⟩:=x;exact⟨mA,⟨od,es,ep,k _ _ (.inl rfl) e,c⟩,r⟩
 | rng lo hi=>obtain⟨t,u,v,e⟩:=x;exact⟨t,u,v,k _ _ (.inl rfl) e⟩
 | frz ob u ih=>obtain⟨e,q⟩:=x;exact⟨k _ _ (.inl rfl) e,ih q⟩
 | tbl ps =>
  have e:h.get? a=some { cls:=.none,data:=.fields ps }:=x
  show h'.get? a=some { cls:=.none,data:=.fields ps }
  exact k a _ (.inl rfl) e
 | met f y =>
  have e:h.get? a=some (PySem.W.methodObj (.ref f) (.ref y)):=x
  show h'.get? a=some (PySem.W.methodObj (.ref f) (.ref y))
  exact k a _ (.inl rfl) e
 | ext φ=>obtain⟨p,⟨o,e⟩,st⟩:=x;exact⟨st _ _ p fun o q=>k _ _ (.inl rfl) q,⟨o,k _ _ (.inl rfl) e⟩,st⟩
theorem HOk.lt (x:HOk P w H h) (e:H a=some o):a < h.objs.size:=(x a o e).lt
theorem HOk.fresh (x:HOk P w H h) (e:h.objs.size≤a):H a=none:=by
 cases q:H a with
 | none=>rfl
 | some u=>exact absurd (Nat.lt_of_lt_of_le (x.lt q) e) (Nat.lt_irrefl _)
theorem HOk.kept (x:HOk P w H h) (k:∀ b u,h.get? b=some u→h'.get? b=some u):HOk P w H h':=fun a o e =>
 (x a o e).stay (fun b u _ q=>k b u q) (fun _ q=>q) fun _ _ q=>q
theorem HOk.laid (x:HOk P w H h) (k:∀ b u,h.get? b=some u→h'.get? b=some u) (hp:h.objs.size≤a) (new:ObjOk P w (upd H a o) h' a o):HOk P w (upd H a o) h':=fun b u e=>by
 have hn:=x.fresh hp
 by_cases hb:b=a
 ·subst hb;rw[upd_same] at e;cases e;exact new
 ·rw[upd_ne hb] at e
  exact (x b u e).stay (fun c v _ q=>k c v q) (fun c q=>by rw[upd_ne (ne_of_none q hn)];exact q) fun c xs q=>by rw[upd_ne (ne_of_none q hn)];exact q
end
noncomputable def Rd (H:Hp) (a:Addr) (u:HO):Prop:=H a=some u∨∃ o,H a=some (.frz o u)
theorem Rd.ok {P:Program} {w:World} {H:Hp} {h:Heap} {a:Addr} {u:HO} (r:Rd H a u) (x:HOk P w H h):ObjOk P w H h a u:=by
 rcases r with r | ⟨o,r⟩
 ·exact x a u r
 ·obtain⟨_,q⟩:=x a _ r
  exact q
noncomputable def Mut:Option HO→Prop
 | some (.lst _)=>True
 | some (.dK _)=>True
 | some (.dT _)=>True
 | some (.set _ _)=>True
 | some (.ins _ _ _)=>True
 | some (.ext _)=>True
 | _=>False
section
variable {P:Program} {w:World} {H:Hp} {h h':Heap} {x e:Addr} {o':HO}
theorem HOk.write (ok:HOk P w H h) (mu:Mut (H x)) (he:e=x∨H e=some (.own x)) (k:∀ b u,b≠e→h.get? b=some u→h'.get? b=some u) (heo:∃ u,h'.get? e=some u)
  (new:ObjOk P w (upd H x o') h' x o'):HOk P w (upd H x o') h':=fun b u q=>by
 have nown:∀ c y,H c=some (.own y)→c≠x:=fun c y r z=>by subst z;rw[r] at mu;exact mu
 have ntup:∀ c xs,H c=some (.tup xs)→c≠x:=fun c xs r z=>by subst z;rw[r] at mu;exact mu
 by_cases hb:b=x
 ·subst hb;rw[upd_same] at q;cases q;exact new
 ·rw[upd_ne hb] at q
  by_cases hbe:b=e
  ·have q':H b=some (.own x):=by
    rcases he with z | z
    ·exact absurd (hbe.trans z) hb
    ·rw[hbe];exact z
   rw[q] at q';cases q'
   obtain⟨v,hv⟩:=heo
   exact⟨v,by rw[hbe];exact hv⟩
  ·refine (ok b u q).stay (fun c v hc r=>k c v ?_ r) (fun c r=>by rw[upd_ne (nown c b r)];exact r) fun c xs r=>by rw[upd_ne (ntup c xs r)];exact r
   rcases hc with rfl | hc
   ·exact hbe
   ·rintro rfl
    rcases he with z | z
    ·exact nown c b hc z
    ·rw[hc] at z;cases z;exact hb rfl
end
structure Un (fs ex:List Addr) (H H':Hp) (h h':Heap):Prop where
 keep:∀ b o,h.get? b=some o→H b=none→b ∉ fs→b ∉ ex→h'.get? b=some o
 slot:∀ b o,h.get? b=some o→H b=none→b∈fs→b ∉ ex→∃ sl,h'.get? b=some { o with slots:=sl }
 free:∀ b o,h.get? b=some o→H b=none→b ∉ ex→H' b=none
 there:∀ b o,h.get? b=some o→b ∉ ex→∃ o',h'.get? b=some o'
 tups:∀ b xs,H b=some (.tup xs)→H' b=some (.tup xs)
 frzs:∀ b o u,H b=some (.frz o u)→H' b=some (.frz o u)
 tbls:∀ b ps,H b=some (.tbl ps)→∃ more,H' b=some (.tbl (ps++more))
section
variable {fs fs' ex ex':List Addr} {H H1 H2:Hp} {h h1 h2 h':Heap} {a x e:Addr} {o:HO}
theorem Un.any (u:Un fs ex H H1 h h1) {b:Addr} {ob:Obj} (q:h.get? b=some ob) (n:H b=none) (hx:b ∉ ex):∃ sl,h1.get? b=some { ob with slots:=sl }:=by
 by_cases hb:b∈fs
 ·exact u.slot b ob q n hb hx
 ·exact⟨ob.slots,u.keep b ob q n hb hx⟩
theorem Un.kept (k:∀ b u,h.get? b=some u→h'.get? b=some u):Un fs ex H H h h' :=
 ⟨fun b ob q _ _ _=>k b ob q,fun b ob q _ _ _=>⟨ob.slots,k b ob q⟩,fun _ _ _ n _=>n,fun b ob q _=>⟨ob,k b ob q⟩,fun _ _ q=>q,fun _ _ _ q=>q,fun _ ps q=>⟨#[],by rw[q];simp⟩⟩
theorem Un.refl:Un fs ex H H h h:=Un.kept fun _ _ q=>q
theorem Un.laid (k:∀ b u,h.get? b=some u→h'.get? b=some u) (hp:h.objs.size≤a) (hn:H a=none):Un fs ex H (upd H a o) h h' where
 keep:=fun b u q _ _ _=>k b u q
 slot:=fun b u q _ _ _=>⟨u.slots,k b u q⟩
 free:=fun b u q n _=>by rw[upd_ne (Nat.ne_of_lt (Nat.lt_of_lt_of_le (Heap.lt_size q) hp))];exact n
 there:=fun b u q _=>⟨u,k b u q⟩
 tups:=fun b xs q=>by rw[upd_ne (ne_of_none q hn)];exact q
 frzs:=fun b u xs q=>by rw[upd_ne (ne_of_none q hn)];exact q
 tbls:=fun b ps q=>⟨#[],by rw[upd_ne (ne_of_none q hn),q];simp⟩
theorem Un.write (mu:Mut (H x)) (he:e=x∨H e=some (.own x)) (k:∀ b u,b≠e→h.get? b=some u→h'.get? b=some u) (heo:∃ u,h'.get? e=some u):Un fs ex H (upd H x o) h h':=by
 have hx:∀ b,H b=none→b≠x:=fun b n z=>by subst z;rw[n] at mu;exact mu
 have hb:∀ b,H b=none→b≠e:=fun b n z=>by
  subst z
  rcases he with r | r
  ·exact hx b n r
  ·rw[n] at r;cases r
 have hm:∀ b u,H b=some u→¬ Mut (some u)→b≠x:=fun b u q nm z=>by subst z;rw[q] at mu;exact nm mu
 refine⟨fun b u q n _ _=>k b u (hb b n) q,fun b u q n _ _=>⟨u.slots,k b u (hb b n) q⟩,fun b u q n _=>by rw[upd_ne (hx b n)];exact n,fun b u q _=>?_,
  fun b xs q=>by rw[upd_ne (hm b _ q fun z=>z)];exact q,fun b u xs q=>by rw[upd_ne (hm b _ q fun z=>z)];exact q,fun b ps q=>⟨#[],by rw[upd_ne (hm b _ q fun z=>z),q];simp⟩⟩
 by_cases hbe:b=e
 ·subst hbe;exact heo
 ·exact⟨u,k b u hbe q⟩
end
noncomputable def trk (h:Heap) (H:Hp):List Addr:=(List.range h.objs.size).filter fun a=>(H a).isSome
noncomputable def hidT (h:Heap) (H:Hp):Heap:=PySem.W.hideAll h (trk h H)
theorem hidT_size (h:Heap) (H:Hp):(hidT h H).objs.size=h.objs.size:=PySem.W.hideAll_size _ _
theorem hidT_get {h:Heap} {H:Hp} {b:Addr} {o:Obj} (e:h.get? b=some o) (n:H b=none):(hidT h H).get? b=some o :=
 PySem.W.hideAll_get _ e fun hm=>by
  have q:(H b).isSome=true:=(List.mem_filter.mp hm).2
  rw[n] at q;simp at q
theorem of_hidT {h:Heap} {H:Hp} {b:Addr} {o:Obj} (e:(hidT h H).get? b=some o):h.get? b=some o∧H b=none:=by
 have e':h.get? b=some o:=PySem.W.of_hideAll (trk h H) e
 refine⟨e',?_⟩
 cases q:H b with
 | none=>rfl
 | some x =>
  have hm:b∈trk h H:=List.mem_filter.mpr ⟨List.mem_range.mpr (Heap.lt_size e'),by simp[q]⟩
  have z:(hidT h H).get? b=none:=PySem.W.hideAll_none (trk h H) hm
  rw[z] at e;cases e
end L2
namespace L2
open PySem PySem.Spec PyProof.Rows
structure Mod (K:PySem.W.Frag) (mg:Str→Option Value) (base:Heap):Prop where
 kin:K.In base
 glob:base.Ns mainGlobals mg
 blt:∃ mb,base.Ns builtinsNs mb∧∀ x:Str,x≠"__name__"→mb x=bootBuiltins x
 nolimit:base.NoLimit
structure Cx where
 prog:Program
 w:World
 K:PySem.W.Frag
 mg:Str→Option Value
 base:Heap
 A:Around
 N:List Str
 s₀:Shared
 H₀:Hp
 env:Env
 outer:List Env
 stack:List Env
 ex:List Addr
 fn:Str→Bool
 calm:Bool
 pn:List (Addr×Obj)
 xe:Value→Shared→Prop
noncomputable def frs (l:List Env):List Addr:=l.filterMap (·.frame)
noncomputable abbrev Cx.fs (X:Cx):List Addr:=frs X.outer
noncomputable def Vis (sc:Scope) (x:Str):Prop:=sc.names.lookup x=some .local∨sc.names.lookup x=some .cell∨sc.names.lookup x=some .free
noncomputable def Loc (sc:Scope) (x:Str):Prop:=sc.names.lookup x=some .local∨sc.names.lookup x=some .cell
noncomputable def Look (env:Env) (h:Heap) (m:Str→Option Value) (x:Str) (u:Value):Prop :=
 (env.kindOf x=some .local∧m x=some u)∨((env.kindOf x=some .cell∨env.kindOf x=some .free)∧∃ c,env.cells.lookup x=some c∧h.IsCell c (some u))
structure Cx.Ok (X:Cx):Prop where
 mod:Mod X.K X.mg X.base
 kind:X.env.scope.kind=.function
 glob:X.env.globals=mainGlobals
 blt:X.env.builtins=builtinsNs
 above:X.s₀.heap.objs.size≤X.env.locals
 inj:∀ x y c,X.env.cells.lookup x=some c→X.env.cells.lookup y=some c→x=y
 has:∀ x,(X.env.kindOf x=some .cell∨X.env.kindOf x=some .free)→∃ c,X.env.cells.lookup x=some c
 cab:∀ x c,X.fn x=true→X.env.cells.lookup x=some c→X.s₀.heap.objs.size≤c
 hd:X.calm=true→X.A.handled=none
 frames:X.A.frames=some X.stack
 stk:X.stack=X.outer∨(X.stack=X.env :: X.outer∧X.env.frame=some X.env.locals)
 exf:∀ b∈X.ex,b≠X.env.locals∧∀ x c,X.env.cells.lookup x=some c→c≠b
 bs:∀ b o,X.base.get? b=some o→X.s₀.heap.get? b=some o∧X.H₀ b=none
 bsz:X.base.objs.size≤X.s₀.heap.objs.size
 noex:∀ b o,X.base.get? b=some o→b ∉ X.ex
 exfs:∀ b∈X.ex,b ∉ X.fs
 funs:X.s₀.heap.FunFrames X.base X.outer
 frf:∀ b∈X.fs,X.H₀ b=none
structure Inv (X:Cx) (pins:List (Addr×Obj)) (σ:List (Option V)) (H:Hp) (s:Shared):Prop where
 ok:X.Ok
 os:s.os=X.s₀.os
 bare:AllBare s.gens
 base:Un X.fs X.ex X.H₀ H X.s₀.heap s.heap
 loc:∃ m,s.heap.Ns X.env.locals m∧∀ (i:Nat) (x:Str) (v:V),X.N[i]?=some x→σ[i]?=some (some v)→Vis X.env.scope x→∃ u,RelV v u∧Look X.env s.heap m x u
 cell:∀ x c,X.env.cells.lookup x=some c→∃ v,s.heap.IsCell c v
 free:H X.env.locals=none
 freeC:∀ x c,X.env.cells.lookup x=some c→H c=none
 pin:∀ p∈X.pn++pins,s.heap.get? p.1=some p.2∧H p.1=none∧p.1≠X.env.locals∧p.1 ∉ X.fs∧∀ v,p.2.data≠.cell v
 hok:HOk X.prog X.w H s.heap
 len:σ.length=X.N.length
section
variable {X:Cx} {pins:List (Addr×Obj)} {σ:List (Option V)} {H H':Hp} {s:Shared} {h':Heap}
theorem Cx.Ok.nofr (ok:X.Ok) {b:Addr} {o:Obj} (e:X.base.get? b=some o):b ∉ X.fs:=fun hb=>by
 have:=(ok.funs.mem hb).1
 rw[e] at this;cases this
theorem Inv.bs (I:Inv X pins σ H s):∀ b o,X.base.get? b=some o→s.heap.get? b=some o∧H b=none:=fun b o e =>
 ⟨I.base.keep b o (I.ok.bs b o e).1 (I.ok.bs b o e).2 (I.ok.nofr e) (I.ok.noex b o e),I.base.free b o (I.ok.bs b o e).1 (I.ok.bs b o e).2 (I.ok.noex b o e)⟩
theorem Inv.bk (I:Inv X pins σ H s):∀ b o,X.base.get? b=some o→s.heap.get? b=some o:=fun b o e=>(I.bs b o e).1
theorem Inv.mod (I:Inv X pins σ H s):Mod X.K X.mg X.base:=I.ok.mod
theorem Inv.kIn (I:Inv X pins σ H s):X.K.In s.heap:=I.ok.mod.kin.keeps I.bk
theorem Inv.lt (I:Inv X pins σ H s):X.env.locals < s.heap.objs.size:=let ⟨_,hn,_⟩:=I.loc;hn.lt
theorem Inv.sz (I:Inv X pins σ H s):X.s₀.heap.objs.size≤s.heap.objs.size:=Nat.le_trans I.ok.above (Nat.le_of_lt I.lt)
theorem Inv.nofs (I:Inv X pins σ H s) {a:Addr} (h:s.heap.objs.size≤a):a ∉ X.fs:=fun hb=>by
 obtain⟨_,o,ho,_⟩:=I.ok.funs.mem hb
 exact absurd (Nat.lt_of_lt_of_le (Heap.lt_size ho) (Nat.le_trans I.sz h)) (Nat.lt_irrefl _)
theorem Inv.cne (I:Inv X pins σ H s):∀ x c,X.env.cells.lookup x=some c→c≠X.env.locals:=fun x c e z=>by
 obtain⟨v,o,ho,hd⟩:=I.cell x c e
 obtain⟨m,⟨o',es,ep,ho',hd',_⟩,_⟩:=I.loc
 rw[z,ho'] at ho;cases ho;rw[hd'] at hd;cases hd
theorem Inv.funs (I:Inv X pins σ H s):s.heap.FunFrames X.base X.outer:=by
 have all:∀ (l:List Env),(∀ b∈frs l,b∈X.fs)→X.s₀.heap.FunFrames X.base l→s.heap.FunFrames X.base l:=by
  intro l
  induction l with
  | nil=>intro _ _;trivial
  | cons env r ih =>
   intro hs hl
   obtain⟨hk,⟨L,o,hf,hn,ho,hd⟩,hr⟩:=hl
   have hL:L∈X.fs:=hs L (by unfold frs;rw[List.filterMap_cons,hf];exact List.mem_cons_self)
   obtain⟨sl,e⟩:=I.base.slot L o ho (I.ok.frf L hL) hL fun z=>I.ok.exfs L z hL
   exact⟨hk,⟨L,_,hf,hn,e,hd⟩,ih (fun b hb=>hs b (by unfold frs;rw[List.filterMap_cons,hf];exact List.mem_cons_of_mem _ hb)) hr⟩
 exact all X.outer (fun _ hb=>hb) I.ok.funs
theorem Inv.stack (I:Inv X pins σ H s):s.heap.FunFrames X.base X.stack:=by
 rcases I.ok.stk with e | ⟨e,hf⟩
 ·rw[e];exact I.funs
 ·rw[e]
  obtain⟨m,hn,_⟩:=I.loc
  refine .cons (by rw[I.ok.kind];decide) hf hn ?_ I.funs
  exact Heap.get?_none_of_le (Nat.le_trans I.ok.bsz I.ok.above)
theorem Inv.stkSub (I:Inv X pins σ H s):∀ b∈frs X.stack,b∈X.env.locals :: X.fs:=fun b hb=>by
 rcases I.ok.stk with e | ⟨e,hf⟩
 ·rw[e] at hb;exact List.mem_cons_of_mem _ hb
 ·rw[e] at hb
  unfold frs at hb
  rw[List.filterMap_cons,hf] at hb
  exact hb
theorem Inv.stkFree (I:Inv X pins σ H s):∀ b∈frs X.stack,H b=none:=fun b hb=>by
 rcases List.mem_cons.mp (I.stkSub b hb) with e | hb
 ·rw[e];exact I.free
 ·obtain⟨_,o,ho,_⟩:=I.ok.funs.mem hb
  exact I.base.free b o ho (I.ok.frf b hb) fun z=>I.ok.exfs b z hb
theorem Inv.step {g':Array GenState} {t':Nat} {d':Drawn} {ch:List Addr} (I:Inv X pins σ H s)
  (hch:∀ b∈ch,(b∈X.ex∨X.s₀.heap.objs.size≤b)∧b≠X.env.locals∧(∀ x c,X.env.cells.lookup x=some c→c≠b)∧∀ p∈X.pn++pins,p.1≠b)
  (keep:∀ b o,b≠X.env.locals→b ∉ X.fs→b ∉ ch→s.heap.get? b=some o→H b=none→h'.get? b=some o)
  (slot:∀ b o,b≠X.env.locals→b∈X.fs→b ∉ ch→s.heap.get? b=some o→H b=none→∃ sl,h'.get? b=some { o with slots:=sl }) (free:∀ b o,b ∉ ch→s.heap.get? b=some o→H b=none→H' b=none)
  (there:∀ b o,b ∉ ch→s.heap.get? b=some o→∃ o',h'.get? b=some o')
  (tups:∀ b xs,H b=some (.tup xs)→H' b=some (.tup xs)) (frzs:∀ b o u,H b=some (.frz o u)→H' b=some (.frz o u)) (tbls:∀ b ps,H b=some (.tbl ps)→∃ more,H' b=some (.tbl (ps++more)))
  (ns:∀ m,s.heap.Ns X.env.locals m→h'.Ns X.env.locals m) (hok:HOk X.prog X.w H' h') (hg:AllBare g') :
  Inv X pins σ H' { s with heap:=h',gens:=g',drawn:=d',toks:=t' }:=by
 have neL:∀ b o,X.s₀.heap.get? b=some o→b≠X.env.locals:=fun b o e=>Nat.ne_of_lt (Nat.lt_of_lt_of_le (Heap.lt_size e) I.ok.above)
 have neC:∀ b o,X.s₀.heap.get? b=some o→b ∉ X.ex→b ∉ ch:=fun b o e hx hb=>by
  rcases (hch b hb).1 with z | z
  ·exact hx z
  ·exact absurd (Nat.lt_of_lt_of_le (Heap.lt_size e) z) (Nat.lt_irrefl _)
 have cellK:∀ x c,X.env.cells.lookup x=some c→∀ v,s.heap.IsCell c v→h'.IsCell c v:=fun x c e v ⟨o,ho,hd⟩=>by
  have nch:c ∉ ch:=fun z=>(hch c z).2.2.1 x c e rfl
  by_cases hc:c∈X.fs
  ·obtain⟨sl,q⟩:=slot c o (I.cne x c e) hc nch ho (I.freeC x c e)
   exact⟨_,q,hd⟩
  ·exact⟨o,keep c o (I.cne x c e) hc nch ho (I.freeC x c e),hd⟩
 refine⟨I.ok,I.os,hg,⟨fun b o e n hb hx=>?_,fun b o e n hb hx=>?_,fun b o e n hx=>?_,fun b o e hx=>?_,fun b xs e=>tups b xs (I.base.tups b xs e),fun b o xs e=>frzs b o xs (I.base.frzs b o xs e),fun b ps e=>?_⟩,?_,fun x c e=>?_,?_,fun x c e=>?_,fun p hp=>?_,hok,I.len⟩
 ·exact keep b o (neL b o e) hb (neC b o e hx) (I.base.keep b o e n hb hx) (I.base.free b o e n hx)
 ·obtain⟨sl,e1⟩:=I.base.slot b o e n hb hx
  obtain⟨sl',e2⟩:=slot b _ (neL b o e) hb (neC b o e hx) e1 (I.base.free b o e n hx)
  exact⟨sl',e2⟩
 ·obtain⟨o',e1⟩:=I.base.there b o e hx
  exact free b o' (neC b o e hx) e1 (I.base.free b o e n hx)
 ·obtain⟨o',e1⟩:=I.base.there b o e hx
  exact there b o' (neC b o e hx) e1
 ·obtain⟨m1,e1⟩:=I.base.tbls b ps e
  obtain⟨m2,e2⟩:=tbls b _ e1
  exact⟨m1++m2,by rw[e2,Array.append_assoc]⟩
 ·obtain⟨m,hn,hl⟩:=I.loc
  refine⟨m,ns m hn,fun i x v e1 e2 e3=>?_⟩
  obtain⟨u,r,l⟩:=hl i x v e1 e2 e3
  refine⟨u,r,?_⟩
  rcases l with l | ⟨k,c,e,z⟩
  ·exact .inl l
  ·exact .inr ⟨k,c,e,cellK x c e _ z⟩
 ·obtain⟨v,z⟩:=I.cell x c e
  exact⟨v,cellK x c e v z⟩
 ·obtain⟨m,⟨o,_,_,ho,_⟩,_⟩:=I.loc
  exact free _ o (fun z=>(hch _ z).2.1 rfl) ho I.free
 ·obtain⟨v,o,ho,hd⟩:=I.cell x c e
  exact free c o (fun z=>(hch c z).2.2.1 x c e rfl) ho (I.freeC x c e)
 ·obtain⟨e,n,ne,nf,d⟩:=I.pin p hp
  have nch:p.1 ∉ ch:=fun z=>(hch p.1 z).2.2.2 p hp rfl
  exact⟨keep p.1 p.2 ne nf nch e n,free p.1 p.2 nch e n,ne,nf,d⟩
theorem Inv.un {t':Nat} (I:Inv X pins σ H s) (u:Un X.fs [] H H' s.heap h') (hok:HOk X.prog X.w H' h'):Inv X pins σ H' { s with heap:=h',toks:=t' }:=by
 obtain⟨m,⟨o,es,ep,ho,r⟩,_⟩:=id I.loc
 obtain⟨sl,hL⟩:=u.any ho I.free (by simp)
 exact I.step (g':=s.gens) (d':=s.drawn) (ch:=[]) (fun _ z=>nomatch z) (fun b o _ hb _ e n=>u.keep b o e n hb (by simp)) (fun b o _ hb _ e n=>u.slot b o e n hb (by simp)) (fun b o _ e n=>u.free b o e n (by simp)) (fun b o _ e=>u.there b o e (by simp)) u.tups u.frzs u.tbls (fun m' hm=>by
  obtain⟨o',es',ep',ho',r'⟩:=hm
  rw[ho] at ho';cases ho'
  exact⟨_,es',ep',hL,r'⟩) hok I.bare
theorem Inv.call {g':Array GenState} {t':Nat} {d':Drawn} {ch:List Addr} (I:Inv X pins σ H s) (u:Un (frs X.stack) ch H H' s.heap h') (hok:HOk X.prog X.w H' h') (hg:AllBare g')
  (hch:∀ b∈ch,(b∈X.ex∨X.s₀.heap.objs.size≤b)∧b≠X.env.locals∧(∀ x c,X.env.cells.lookup x=some c→c≠b)∧∀ p∈X.pn++pins,p.1≠b) :
  Inv X pins σ H' { s with heap:=h',gens:=g',drawn:=d',toks:=t' }:=by
 obtain⟨m,⟨o,es,ep,ho,r⟩,_⟩:=id I.loc
 obtain⟨sl,hL⟩:=u.any ho I.free fun z=>(hch _ z).2.1 rfl
 exact I.step (ch:=ch) hch (fun b o hL hb hc e n=>u.keep b o e n (fun z=>(List.mem_cons.mp (I.stkSub b z)).elim hL hb) hc) (fun b o _ _ hc e n=>u.any e n hc) (fun b o hc e n=>u.free b o e n hc) (fun b o hc e=>u.there b o e hc) u.tups u.frzs u.tbls (fun m' hm=>by
  obtain⟨o',es',ep',ho',r'⟩:=hm
  rw[ho] at ho';cases ho'
  exact⟨_,es',ep',hL,r'⟩) hok hg
theorem Inv.turned {t':Nat} {it:Addr} (I:Inv X pins σ H s) (k:∀ b o,b≠it→s.heap.get? b=some o→h'.get? b=some o) (hn:H it=none) (hL:it≠X.env.locals)
  (h1:it∈X.ex∨X.s₀.heap.objs.size≤it) (h2:∀ x c,X.env.cells.lookup x=some c→c≠it) (h3:∀ p∈X.pn++pins,p.1≠it):Inv X pins σ H { s with heap:=h',toks:=t' }:=by
 have nit:∀ b u,H b=some u→b≠it:=fun b u e z=>by rw[z,hn] at e;cases e
 refine I.step (g':=s.gens) (d':=s.drawn) (ch:=[it]) (fun b hb=>?_) (fun b o _ _ hc e _=>k b o (fun z=>hc (by simp[z])) e) (fun b o _ _ hc e _=>⟨o.slots,k b o (fun z=>hc (by simp[z])) e⟩) (fun _ _ _ _ n=>n)
  (fun b o hc e=>⟨o,k b o (fun z=>hc (by simp[z])) e⟩) (fun _ _ e=>e) (fun _ _ _ e=>e) (fun b ps e=>⟨#[],by rw[e];simp⟩) (fun m hm=>?_) (fun b u e=>?_) I.bare
 ·have e:b=it:=by simpa using hb
  subst e
  exact⟨h1,hL,h2,h3⟩
 ·obtain⟨o,es,ep,ho,r⟩:=hm
  exact⟨o,es,ep,k _ o (Ne.symm hL) ho,r⟩
 ·refine (I.hok b u e).stay (fun c v hc q=>k c v ?_ q) (fun _ q=>q) fun _ _ q=>q
  rcases hc with z | z
  ·rw[z];exact nit b u e
  ·exact nit c _ z
theorem Inv.tok (I:Inv X pins σ H s) (t:Nat):Inv X pins σ H { s with toks:=t }:=I.un (h':=s.heap) (t':=t) Un.refl I.hok
theorem Inv.kept {t':Nat} (I:Inv X pins σ H s) (k:∀ b u,s.heap.get? b=some u→h'.get? b=some u):Inv X pins σ H { s with heap:=h',toks:=t' }:=I.un (Un.kept k) (I.hok.kept k)
theorem Inv.laid {a:Addr} {o:HO} {t':Nat} (I:Inv X pins σ H s) (k:∀ b u,s.heap.get? b=some u→h'.get? b=some u) (hp:s.heap.objs.size≤a) (new:ObjOk X.prog X.w (upd H a o) h' a o) :
  Inv X pins σ (upd H a o) { s with heap:=h',toks:=t' }:=I.un (Un.laid k hp (I.hok.fresh hp)) (I.hok.laid k hp new)
theorem Inv.write {x e:Addr} {o:HO} {t':Nat} (I:Inv X pins σ H s) (mu:Mut (H x)) (he:e=x∨H e=some (.own x)) (k:∀ b u,b≠e→s.heap.get? b=some u→h'.get? b=some u) (heo:∃ u,h'.get? e=some u)
  (new:ObjOk X.prog X.w (upd H x o) h' x o):Inv X pins σ (upd H x o) { s with heap:=h',toks:=t' }:=I.un (Un.write mu he k heo) (I.hok.write mu he k heo new)
theorem Inv.weak {σ':List (Option V)} (I:Inv X pins σ H s) (hl:σ'.length=σ.length) (w:∀ (i:Nat) v,σ'[i]?=some (some v)→σ[i]?=some (some v)):Inv X pins σ' H s :=
 ⟨I.ok,I.os,I.bare,I.base,let ⟨m,hn,hl'⟩:=I.loc;⟨m,hn,fun i x v e1 e2 e3=>hl' i x v e1 (w i v e2) e3⟩,I.cell,I.free,I.freeC,I.pin,I.hok,hl.trans I.len⟩
theorem Inv.pins_of {pins':List (Addr×Obj)} (I:Inv X pins σ H s) (h:∀ p∈pins',s.heap.get? p.1=some p.2∧H p.1=none∧p.1≠X.env.locals∧p.1 ∉ X.fs∧∀ v,p.2.data≠.cell v):Inv X pins' σ H s :=
 ⟨I.ok,I.os,I.bare,I.base,I.loc,I.cell,I.free,I.freeC,fun p hp=>(List.mem_append.mp hp).elim (fun z=>I.pin p (List.mem_append_left _ z)) (h p),I.hok,I.len⟩
theorem nodup_ix {N:List Str} (hN:N.Nodup) {i j:Nat} {x:Str} (a:N[i]?=some x) (b:N[j]?=some x):i=j:=by
 obtain⟨h1,e1⟩:=List.getElem?_eq_some_iff.mp a
 obtain⟨h2,e2⟩:=List.getElem?_eq_some_iff.mp b
 exact (List.getElem_inj hN).mp (e1.trans e2.symm)
theorem store_ok2 {M:Model} {A:Around} {E:Value→Shared→Prop} {i:Nat} {x:Str} {v:V} {u:Value} {Q:Unit→Shared→Prop} (I:Inv X pins σ H s) (hN:X.N.Nodup) (hi:X.N[i]?=some x) (hx:Loc X.env.scope x) (r:RelV v u)
  (h:∀ s',Inv X pins (σ.set i (some v)) H s'→(∃ a,Heap.SameBut a s.heap s'.heap∧(a=X.env.locals∨X.env.cells.lookup x=some a))→Q () s') (hf:X.fn x=true∨X.env.scope.names.lookup x=some .local:=by first | exact .inl rfl | exact .inr rfl | assumption):wpAny M A (storeName X.env x u) Q E s:=by
 obtain⟨m,hn,hl⟩:=id I.loc
 have hcls:(X.env.scope.kind == .class||(X.env.scope.kind == .module&&X.env.locals != X.env.globals))=false:=by rw[I.ok.kind];rfl
 have hiσ:i < σ.length:=by rw[I.len];exact (List.getElem?_eq_some_iff.mp hi).1
 have cne:=I.cne
 have tracked:∀ {a:Addr} {h':Heap},(∃ o,s.heap.get? a=some o∧H a=none)→Heap.SameBut a s.heap h'→HOk X.prog X.w H h':=fun {a h'} ha hs b ob e=>by
  obtain⟨_,_,hfree⟩:=ha
  refine (I.hok b ob e).stay (fun c w' hc q=>(hs.2 c ?_).trans q) (fun _ q=>q) fun _ _ q=>q
  rintro rfl
  rcases hc with rfl | hc
  ·rw[hfree] at e;cases e
  ·rw[hfree] at hc;cases hc
 rcases hx with hk | hk
 ·refine wpAny_storeName_local hk hn (fun h' hn' hs=>?_) hcls
  obtain⟨oL,_,_,hoL,_⟩:=id hn
  refine h _ ⟨I.ok,I.os,I.bare,⟨fun b o e n hb hx=>?_,fun b o e n hb hx=>?_,I.base.free,fun b o e hx=>?_,I.base.tups,I.base.frzs,I.base.tbls⟩,⟨_,hn',fun j y v' e1 e2 e3=>?_⟩,fun y c e=>?_,I.free,I.freeC,fun p hp=>?_,tracked ⟨oL,hoL,I.free⟩ hs,by simpa using I.len⟩ ⟨_,hs,.inl rfl⟩
  ·exact (hs.2 b (Nat.ne_of_lt (Nat.lt_of_lt_of_le (Heap.lt_size e) I.ok.above))).trans (I.base.keep b o e n hb hx)
  ·obtain⟨sl,e1⟩:=I.base.slot b o e n hb hx
   exact⟨sl,(hs.2 b (Nat.ne_of_lt (Nat.lt_of_lt_of_le (Heap.lt_size e) I.ok.above))).trans e1⟩
  ·obtain⟨o',e1⟩:=I.base.there b o e hx
   exact⟨o',(hs.2 b (Nat.ne_of_lt (Nat.lt_of_lt_of_le (Heap.lt_size e) I.ok.above))).trans e1⟩
  ·by_cases hj:j=i
   ·subst hj
    rw[hi] at e1;cases e1
    rw[List.getElem?_set_self hiσ] at e2
    cases e2
    exact⟨u,r,.inl ⟨hk,by simp⟩⟩
   ·rw[List.getElem?_set_ne (Ne.symm hj)] at e2
    obtain⟨u',r',q⟩:=hl j y v' e1 e2 e3
    refine⟨u',r',?_⟩
    rcases q with ⟨k,e⟩ | ⟨k,c,e,z⟩
    ·refine .inl ⟨k,?_⟩
     have:y≠x:=fun e=>hj (nodup_ix hN e1 (e▸hi))
     simp[this,e]
    ·exact .inr ⟨k,c,e,z.sameBut hs (cne y c e)⟩
  ·obtain⟨w',z⟩:=I.cell y c e
   exact⟨w',z.sameBut hs (cne y c e)⟩
  ·obtain⟨e,n,ne,nf,d⟩:=I.pin p hp
   exact⟨(hs.2 p.1 ne).trans e,n,ne,nf,d⟩
 ·have hfn:X.fn x=true:=by
   rcases hf with z | z
   ·exact z
   ·rw[z] at hk;cases hk
  obtain⟨c,hc⟩:=I.ok.has x (.inl hk)
  obtain⟨w',z⟩:=I.cell x c hc
  refine wpAny_storeName_cell I.ok.kind hk hc z (fun h' hc' hs=>?_)
  obtain⟨oc,hoc,hocd⟩:=id z
  refine h { s with heap:=h' } ⟨I.ok,I.os,I.bare,⟨fun b o e n hb hx=>?_,fun b o e n hb hx=>?_,I.base.free,fun b o e hx=>?_,I.base.tups,I.base.frzs,I.base.tbls⟩,⟨m,hn.sameBut hs (Ne.symm (cne x c hc)),fun j y v' e1 e2 e3=>?_⟩,fun y c' e=>?_,I.free,I.freeC,fun p hp=>?_,tracked ⟨oc,hoc,I.freeC x c hc⟩ hs,by simpa using I.len⟩ ⟨c,hs,.inr hc⟩
  ·exact (hs.2 b (Nat.ne_of_lt (Nat.lt_of_lt_of_le (Heap.lt_size e) (I.ok.cab x c hfn hc)))).trans (I.base.keep b o e n hb hx)
  ·obtain⟨sl,e1⟩:=I.base.slot b o e n hb hx
   exact⟨sl,(hs.2 b (Nat.ne_of_lt (Nat.lt_of_lt_of_le (Heap.lt_size e) (I.ok.cab x c hfn hc)))).trans e1⟩
  ·obtain⟨o',e1⟩:=I.base.there b o e hx
   exact⟨o',(hs.2 b (Nat.ne_of_lt (Nat.lt_of_lt_of_le (Heap.lt_size e) (I.ok.cab x c hfn hc)))).trans e1⟩
  ·by_cases hj:j=i
   ·subst hj
    rw[hi] at e1;cases e1
    rw[List.getElem?_set_self hiσ] at e2
    cases e2
    exact⟨u,r,.inr ⟨.inl hk,c,hc,hc'⟩⟩
   ·rw[List.getElem?_set_ne (Ne.symm hj)] at e2
    obtain⟨u',r',q⟩:=hl j y v' e1 e2 e3
    refine⟨u',r',?_⟩
    rcases q with q | ⟨k,c',e,z'⟩
    ·exact .inl q
    ·refine .inr ⟨k,c',e,z'.sameBut hs ?_⟩
     rintro rfl
     exact hj (nodup_ix hN e1 (I.ok.inj _ _ _ e hc▸hi))
  ·by_cases hcc:c'=c
   ·subst hcc;exact⟨_,hc'⟩
   ·obtain⟨w2,z2⟩:=I.cell y c' e
    exact⟨w2,z2.sameBut hs hcc⟩
  ·obtain⟨e,n,ne,nf,d⟩:=I.pin p hp
   refine⟨(hs.2 p.1 ?_).trans e,n,ne,nf,d⟩
   intro q
   rw[q,hoc] at e
   have q':oc=p.2:=Option.some.inj e
   exact d w' (by rw[← q'];exact hocd)
theorem store_ok {M:Model} {A:Around} {E:Value→Shared→Prop} {i:Nat} {x:Str} {v:V} {u:Value} {Q:Unit→Shared→Prop} (I:Inv X pins σ H s) (hN:X.N.Nodup) (hi:X.N[i]?=some x) (hx:Loc X.env.scope x) (r:RelV v u)
  (h:∀ s',Inv X pins (σ.set i (some v)) H s'→Q () s') (hf:X.fn x=true∨X.env.scope.names.lookup x=some .local:=by first | exact .inl rfl | exact .inr rfl | assumption):wpAny M A (storeName X.env x u) Q E s :=
 store_ok2 I hN hi hx r (fun s' I' _=>h s' I') hf
theorem Inv.call' {s':Shared} {ch:List Addr} (I:Inv X pins σ H s) (ho:s'.os=s.os) (u:Un (frs X.stack) ch H H' s.heap s'.heap) (hok:HOk X.prog X.w H' s'.heap) (hg:AllBare s'.gens)
  (hch:∀ b∈ch,(b∈X.ex∨X.s₀.heap.objs.size≤b)∧b≠X.env.locals∧(∀ x c,X.env.cells.lookup x=some c→c≠b)∧∀ p∈X.pn++pins,p.1≠b):Inv X pins σ H' s':=by
 obtain⟨h',g',d',t',o'⟩:=s'
 have e:o'=s.os:=ho
 subst e
 exact I.call (g':=g') (t':=t') (d':=d') u hok hg hch
end
noncomputable abbrev XK:=Value→Option Addr→Hp→Prop
noncomputable abbrev St:=List (Option V)
noncomputable abbrev VK:=V→Hp→Prop
noncomputable abbrev TE:=St→Hp→VK→Prop
noncomputable abbrev TT:=St→Hp→(Bool→Hp→Prop)→Prop
noncomputable abbrev TA:=St→Hp→(List V→Hp→Prop)→Prop
structure Ends where
 nx:St→Hp→Prop
 rt:VK
 bk:St→Hp→Prop:=fun _ _=>False
 ct:St→Hp→Prop:=fun _ _=>False
noncomputable abbrev TS:=Ends→St→Hp→Prop
noncomputable def EP (X:Cx) (pins:List (Addr×Obj)) (σ:St) (Q:VK) (u:Value) (s':Shared):Prop:=∃ v H',Inv X pins σ H' s'∧RelV v u∧Q v H'
noncomputable def TP (X:Cx) (pins:List (Addr×Obj)) (σ:St) (Q:Bool→Hp→Prop) (b:Bool) (s':Shared):Prop:=∃ H',Inv X pins σ H' s'∧Q b H'
noncomputable def AP (X:Cx) (pins:List (Addr×Obj)) (σ:St) (Q:List V→Hp→Prop) (us:List Value) (s':Shared):Prop:=∃ vs H',Inv X pins σ H' s'∧Vals vs us∧Q vs H'
noncomputable def SP (X:Cx) (pins:List (Addr×Obj)) (D:Ends) (f:Flow) (s':Shared):Prop :=
 match f with
 | .next=>∃ σ' H',Inv X pins σ' H' s'∧D.nx σ' H'
 | .brk=>∃ σ' H',Inv X pins σ' H' s'∧D.bk σ' H'
 | .cont=>∃ σ' H',Inv X pins σ' H' s'∧D.ct σ' H'
 | .ret u=>∃ v σ' H',Inv X pins σ' H' s'∧RelV v u∧D.rt v H'
noncomputable def PE (X:Cx) (e:Expr) (t:TE):Prop :=
 ∀ (pins:List (Addr×Obj)) (s:Shared) (σ:St) (H:Hp) (Q:VK),Inv X pins σ H s→t σ H Q→wpAny (model X.prog X.w) X.A (eval e X.env) (EP X pins σ Q) X.xe s
noncomputable def PT (X:Cx) (e:Expr) (t:TT):Prop :=
 ∀ (pins:List (Addr×Obj)) (s:Shared) (σ:St) (H:Hp) (Q:Bool→Hp→Prop),Inv X pins σ H s→t σ H Q→wpAny (model X.prog X.w) X.A (isTrue e X.env (eval e X.env)) (TP X pins σ Q) X.xe s
noncomputable def PW (X:Cx) (e:Expr) (t:TT):Prop :=
 ∀ (whole:Sem Value) (pins:List (Addr×Obj)) (s:Shared) (σ:St) (H:Hp) (Q:Bool→Hp→Prop),Inv X pins σ H s→t σ H Q→wpAny (model X.prog X.w) X.A (isTrue e X.env whole) (TP X pins σ Q) X.xe s
theorem PW.pt {X:Cx} {e:Expr} {t:TT} (h:PW X e t):PT X e t:=h _
noncomputable def PA (X:Cx) (es:List Expr) (t:TA):Prop :=
 ∀ (pos:Pos) (pins:List (Addr×Obj)) (s:Shared) (σ:St) (H:Hp) (Q:List V→Hp→Prop),Inv X pins σ H s→t σ H Q→wpAny (model X.prog X.w) X.A (spliced (backTo pos (starEach es X.env))) (AP X pins σ Q) X.xe s
noncomputable def PS (X:Cx) (st:Stmt) (t:TS):Prop :=
 ∀ (pins:List (Addr×Obj)) (s:Shared) (σ:St) (H:Hp) (D:Ends),Inv X pins σ H s→t D σ H→wpAny (model X.prog X.w) X.A (exec st X.env) (SP X pins D) X.xe s
noncomputable def PSs (X:Cx) (st:List Stmt) (t:TS):Prop :=
 ∀ (pins:List (Addr×Obj)) (s:Shared) (σ:St) (H:Hp) (D:Ends),Inv X pins σ H s→t D σ H→wpAny (model X.prog X.w) X.A (execs st X.env) (SP X pins D) X.xe s
theorem thn {α:Type} {t:Sem α} {Q Q':α→Shared→Prop} {M:Model} {A:Around} {E:Value→Shared→Prop} {s:Shared} (h:wpAny M A t Q E s) (hQ:∀ a s,Q a s→Q' a s):wpAny M A t Q' E s:=wpAny_mono h hQ fun _ _ x=>x
end L2
namespace L2
open PySem PySem.Spec PyProof.Rows
section
variable {X:Cx}
noncomputable def tVar (i:Nat):TE:=fun σ H Q=>∃ v,σ[i]?=some (some v)∧Q v H
noncomputable def tC (v:V):TE:=fun _ H Q=>Q v H
theorem pe_var {i:Nat} {x:Str} {pos:Pos} (hN:X.N[i]?=some x) (hv:Vis X.env.scope x) (hd:(x == ("__debug__":Str))=false:=by decide) (hcd:(x == ("__classdict__":Str))=false:=by decide):PE X (.Name x pos) (tVar i):=by
 intro pins s σ H Q I h
 obtain⟨v,e,h⟩:=h
 obtain⟨m,hn,hl⟩:=I.loc
 obtain⟨u,r,l⟩:=hl i x v hN e hv
 have fin:EP X pins σ Q u s:=⟨v,H,I,r,h⟩
 rcases l with ⟨hk,hm⟩ | ⟨hk,c,hc,hcell⟩
 ·exact wpAny_Name (wpAny_loadName_local I.ok.kind hk hn hm fin) hd
 ·rcases hk with hk | hk
  ·exact wpAny_Name (wpAny_loadName_cell I.ok.kind hk hc hcell fin) hd
  ·exact wpAny_Name (wpAny_loadName_free I.ok.kind hk hc hcell fin hcd) hd
theorem pe_int {i j pos}:PE X (.Constant (.int i) j pos) (tC (.int i)):=fun _ _ _ H _ I h=>wpAny_Constant_int ⟨.int i,H,I.tok _,⟨_,rfl⟩,h⟩
theorem pe_bl {b j pos}:PE X (.Constant (.bool b) j pos) (tC (.bl b)):=fun _ _ _ H _ I h=>Constant_bool ⟨.bl b,H,I,rfl,h⟩
theorem pe_non {j pos}:PE X (.Constant .none j pos) (tC .non):=fun _ _ _ H _ I h=>Constant_none ⟨.non,H,I,rfl,h⟩
theorem pe_str {x j pos}:PE X (.Constant (.str x) j pos) (tC (.str x)):=fun _ _ _ H _ I h=>Calls.Constant_str ⟨.str x,H,I.tok _,⟨_,rfl⟩,h⟩
noncomputable def Gl (X:Cx) (x:Str):Prop:=X.env.kindOf x=some .globalImplicit
theorem ld_glob {E:Value→Shared→Prop} {pins:List (Addr×Obj)} {s:Shared} {σ:St} {H:Hp} {x:Str} {u:Value} {pos:Pos} {Q:Value→Shared→Prop} (I:Inv X pins σ H s) (hg:Gl X x) (hm:X.mg x=some u) (h:Q u s)
  (hd:(x == ("__debug__":Str))=false:=by decide):wpAny (model X.prog X.w) X.A (eval (.Name x pos) X.env) Q E s :=
 Calls.Name_function_global I.ok.kind hg (Calls.loadGlobal_global (by rw[I.ok.glob];exact I.mod.glob.keeps I.bk) hm h) hd
theorem ld_blt {E:Value→Shared→Prop} {pins:List (Addr×Obj)} {s:Shared} {σ:St} {H:Hp} {x:Str} {u:Value} {pos:Pos} {Q:Value→Shared→Prop} (I:Inv X pins σ H s) (hg:Gl X x) (hm:X.mg x=none) (hv:bootBuiltins x=some u) (h:Q u s)
  (hn:x≠"__name__":=by decide) (hd:(x == ("__debug__":Str))=false:=by decide):wpAny (model X.prog X.w) X.A (eval (.Name x pos) X.env) Q E s:=by
 obtain⟨mb,h1,h2⟩:=I.mod.blt
 exact Calls.Name_function_global I.ok.kind hg (Calls.loadGlobal_builtin (by rw[I.ok.glob];exact I.mod.glob.keeps I.bk) hm (by rw[I.ok.blt];exact h1.keeps I.bk) ((h2 x hn).trans hv) h) hd
theorem pe_glob {x:Str} {v:V} {u:Value} {pos:Pos} (hg:Gl X x) (hm:X.mg x=some u) (r:RelV v u) (hd:(x == ("__debug__":Str))=false:=by decide):PE X (.Name x pos) (tC v) :=
 fun _ _ _ H _ I h=>ld_glob I hg hm ⟨v,H,I,r,h⟩ hd
theorem pe_bltn {x:Str} {v:V} {u:Value} {pos:Pos} (hg:Gl X x) (hm:X.mg x=none) (hv:bootBuiltins x=some u) (r:RelV v u) (hn:x≠"__name__":=by decide) (hd:(x == ("__debug__":Str))=false:=by decide):PE X (.Name x pos) (tC v) :=
 fun _ _ _ H _ I h=>ld_blt I hg hm hv ⟨v,H,I,r,h⟩ hn hd
variable {a b:Expr} {ta tb:TE} {pos:Pos}
noncomputable def tB (t:TE):TT:=fun σ H Q=>t σ H fun x H1=>∃ c,x=.bl c∧Q c H1
theorem pt_val {e:Expr} {t:TE} (h:PE X e t) (he:∀ whole,isTrue e X.env whole=(do let v ← whole;standAt e.pos;holding [v] (truthy v)):=by intro _;rfl):PT X e (tB t):=by
 intro pins s σ H Q I hw
 refine isTrue_plain (thn (h pins s σ H _ I hw) fun v s1 ⟨x,H1,I1,r1,q1⟩=>?_) (he _)
 obtain⟨d,rfl,q⟩:=q1
 cases r1
 exact wpAny_truthy_bool ⟨H1,I1,q⟩
variable {tA tB':TT} {rest:List Expr}
noncomputable def tAnd (t u:TT):TT:=fun σ H Q=>t σ H fun c H1=>if c=true then u σ H1 Q else Q false H1
noncomputable def tOr (t u:TT):TT:=fun σ H Q=>t σ H fun c H1=>if c=true then Q true H1 else u σ H1 Q
noncomputable def tNot (t:TT):TT:=fun σ H Q=>t σ H fun c H1=>Q (!c) H1
theorem pw_and1 (ha:PT X a tA):PW X (.BoolOp .And [a] pos) tA:=by
 intro wh pins s σ H Q I h
 refine isTrue_and (thn (ha pins s σ H Q I h) fun c s1 e=>?_)
 cases c with
 | true=>exact isTrue_and_nil e
 | false=>exact e
theorem pw_or1 (ha:PT X a tA):PW X (.BoolOp .Or [a] pos) tA:=by
 intro wh pins s σ H Q I h
 refine isTrue_or (thn (ha pins s σ H Q I h) fun c s1 e=>?_)
 cases c with
 | false=>exact isTrue_or_nil e
 | true=>exact e
theorem pw_and (ha:PT X a tA) (hb:PW X (.BoolOp .And (b :: rest) pos) tB'):PW X (.BoolOp .And (a :: b :: rest) pos) (tAnd tA tB'):=by
 intro wh pins s σ H Q I h
 refine isTrue_and (thn (ha pins s σ H _ I h) fun c s1 ⟨H1,I1,q1⟩=>?_)
 cases c with
 | true=>exact hb wh pins s1 σ H1 Q I1 q1
 | false=>exact⟨H1,I1,q1⟩
theorem pw_or (ha:PT X a tA) (hb:PW X (.BoolOp .Or (b :: rest) pos) tB'):PW X (.BoolOp .Or (a :: b :: rest) pos) (tOr tA tB'):=by
 intro wh pins s σ H Q I h
 refine isTrue_or (thn (ha pins s σ H _ I h) fun c s1 ⟨H1,I1,q1⟩=>?_)
 cases c with
 | true=>exact⟨H1,I1,q1⟩
 | false=>exact hb wh pins s1 σ H1 Q I1 q1
theorem pt_not (ha:PT X a tA):PT X (.UnaryOp .Not a pos) (tNot tA):=by
 intro pins s σ H Q I h
 exact isTrue_not (ha pins s σ H (fun c H1=>Q (!c) H1) I h)
noncomputable def tAndV (ta tb:TE):TE:=fun σ H Q=>ta σ H fun x H1=>∃ c,x=.bl c∧if c=true then tb σ H1 Q else Q (.bl false) H1
noncomputable def tNotV (ta:TE):TE:=fun σ H Q=>ta σ H fun x H1=>∃ c,x=.bl c∧Q (.bl (!c)) H1
theorem pe_one {op} {t:TE} (h:PE X a t):PE X (.BoolOp op [a] pos) t:=fun pins s σ H Q I hw=>BoolOp_one (h pins s σ H Q I hw)
theorem pe_and (ha:PE X a ta) (hb:PE X (.BoolOp .And (b :: rest) pos) tb):PE X (.BoolOp .And (a :: b :: rest) pos) (tAndV ta tb):=by
 intro pins s σ H Q I h
 refine BoolOp_and (thn (ha pins s σ H _ I h) fun v s1 ⟨x,H1,I1,r1,q1⟩=>?_)
 obtain⟨c,rfl,q1⟩:=q1
 cases r1
 refine wpAny_truthy_bool ?_
 cases c with
 | true=>exact hb pins s1 σ H1 Q I1 q1
 | false=>exact⟨.bl false,H1,I1,rfl,q1⟩
theorem pe_not (ha:PE X a ta):PE X (.UnaryOp .Not a pos) (tNotV ta):=by
 intro pins s σ H Q I h
 refine UnaryOp_ (thn (ha pins s σ H _ I h) fun v s1 ⟨x,H1,I1,r1,q1⟩=>?_)
 obtain⟨c,rfl,q1⟩:=q1
 cases r1
 exact not_of (wpAny_truthy_bool ⟨.bl (!c),H1,I1,rfl,q1⟩)
noncomputable def tIf (t:TT) (ta tb:TE):TE:=fun σ H Q=>t σ H fun c H1=>if c=true then ta σ H1 Q else tb σ H1 Q
theorem pe_ifExp {c:Expr} (hc:PT X c tA) (ha:PE X a ta) (hb:PE X b tb):PE X (.IfExp c a b pos) (tIf tA ta tb):=by
 intro pins s σ H Q I h
 refine wpAny_IfExp (thn (hc pins s σ H _ I h) fun d s1 ⟨H1,I1,q1⟩=>?_)
 cases d with
 | true=>exact ha pins s1 σ H1 Q I1 q1
 | false=>exact hb pins s1 σ H1 Q I1 q1
end
end L2
namespace L2
open PySem PySem.Spec PyProof.Rows
noncomputable def SqL (K:PySem.W.Frag) (H:Hp) (a:Addr) (xs:List V):Prop :=
 Rd H a (.lst xs) ∨
  ∃ (o:Obj) (its:Array Value) (n:Nat),K.lookup a=some o∧o.cls=.type "list"∧o.dict=none∧o.data=.seq its n∧its.size≤sizeLine∧Vals xs its.toList
noncomputable def SqT (K:PySem.W.Frag) (H:Hp) (a:Addr) (xs:List V):Prop :=
 Rd H a (.tup xs) ∨
  ∃ (o:Obj) (its:Array Value) (n:Nat),K.lookup a=some o∧o.cls=.type "tuple"∧o.data=.seq its n∧its.size≤sizeLine∧Vals xs its.toList
noncomputable def absV:Value→Option V
 | .none=>some .non
 | .bool b=>some (.bl b)
 | .int i _=>some (.int i)
 | .str x _=>some (.str x)
 | .bytes b _=>some (.byt b)
 | .float b _=>some (.flt b)
 | .ref a=>some (.ref a)
 | .type n=>some (.ty n)
 | _=>none
theorem RelV.abs {x:V} {u:Value} (r:RelV x u):absV u=some x:=by
 cases x with
 | non=>cases r;rfl
 | bl _=>cases r;rfl
 | int _=>obtain⟨t,rfl⟩:=r;rfl
 | str _=>obtain⟨t,rfl⟩:=r;rfl
 | byt _=>obtain⟨t,rfl⟩:=r;rfl
 | flt _=>obtain⟨t,rfl⟩:=r;rfl
 | ref _=>cases r;rfl
 | ty _=>cases r;rfl
theorem RelV.inj {x y:V} {u:Value} (r:RelV x u) (q:RelV y u):x=y:=Option.some.inj (r.abs.symm.trans q.abs)
theorem Vals.inj:∀ {xs ys:List V} {us:List Value},Vals xs us→Vals ys us→xs=ys
 | _,_,_,.nil,.nil=>rfl
 | _,_,_,.cons r t,.cons r' t'=>by rw[r.inj r',Vals.inj t t']
section
variable {X:Cx} {pins:List (Addr×Obj)} {σ:St} {H:Hp} {s:Shared} {a:Addr} {xs ys:List V}
theorem SqL.of {K:PySem.W.Frag} (h:H a=some (.lst xs)):SqL K H a xs:=.inl (.inl h)
theorem Inv.list (I:Inv X pins σ H s) (h:SqL X.K H a xs):∃ its:List Value,Vals xs its∧PlainL s.heap a its.toArray∧xs.length≤sizeLine:=by
 rcases h with h | ⟨o,its,n,hk,hc,hd,hs,hz,r⟩
 ·obtain⟨z,its,n,r,e⟩:=h.ok I.hok
  exact⟨its,r,⟨_,n,e,rfl,rfl,rfl⟩,z⟩
 ·refine⟨its.toList,r,⟨o,n,I.kIn a o hk,hc,hd,by simpa using hs⟩,?_⟩
  have e:=r.length
  simp only[Array.length_toList] at e
  omega
theorem Inv.tuple (I:Inv X pins σ H s) (h:SqT X.K H a xs):∃ its:List Value,Vals xs its∧IsTup s.heap a its.toArray∧xs.length≤sizeLine:=by
 rcases h with h | ⟨o,its,n,hk,hc,hs,hz,r⟩
 ·obtain⟨z,its,r,p⟩:=h.ok I.hok
  exact⟨its,r,p,z⟩
 ·refine⟨its.toList,r,⟨o,I.kIn a o hk,hc,n,by simpa using hs⟩,?_⟩
  have e:=r.length
  simp only[Array.length_toList] at e
  omega
theorem Inv.list_inj (I:Inv X pins σ H s) (h:SqL X.K H a xs) (h':SqL X.K H a ys):xs=ys:=by
 obtain⟨its,r,⟨o,n,e,_,_,d⟩,_⟩:=I.list h
 obtain⟨its',r',⟨o',n',e',_,_,d'⟩,_⟩:=I.list h'
 rw[e] at e';cases e'
 rw[d] at d'
 injection d' with d1 _
 have:its=its':=by simpa using congrArg Array.toList d1
 subst this
 exact r.inj r'
theorem Inv.tuple_inj (I:Inv X pins σ H s) (h:SqT X.K H a xs) (h':SqT X.K H a ys):xs=ys:=by
 obtain⟨its,r,⟨o,e,_,n,d⟩,_⟩:=I.tuple h
 obtain⟨its',r',⟨o',e',_,n',d'⟩,_⟩:=I.tuple h'
 rw[e] at e';cases e'
 rw[d] at d'
 injection d' with d1 _
 have:its=its':=by simpa using congrArg Array.toList d1
 subst this
 exact r.inj r'
end
noncomputable abbrev Cx.wish (X:Cx) (E:Value→Shared→Prop):Cx:={ X with xe:=E }
noncomputable abbrev Cx.nox (X:Cx):Cx:=X.wish fun _ _=>False
theorem Cx.Ok.wish {X:Cx} (ok:X.Ok) (E:Value→Shared→Prop):(X.wish E).Ok :=
 ⟨ok.mod,ok.kind,ok.glob,ok.blt,ok.above,ok.inj,ok.has,ok.cab,ok.hd,ok.frames,ok.stk,ok.exf,ok.bs,ok.bsz,ok.noex,ok.exfs,ok.funs,ok.frf⟩
theorem Cx.Ok.unwish {X:Cx} {E:Value→Shared→Prop} (ok:(X.wish E).Ok):X.Ok :=
 ⟨ok.mod,ok.kind,ok.glob,ok.blt,ok.above,ok.inj,ok.has,ok.cab,ok.hd,ok.frames,ok.stk,ok.exf,ok.bs,ok.bsz,ok.noex,ok.exfs,ok.funs,ok.frf⟩
section
variable {X:Cx} {pins:List (Addr×Obj)} {σ:St} {H:Hp} {s:Shared} {E:Value→Shared→Prop}
theorem Inv.wish (I:Inv X pins σ H s) (E:Value→Shared→Prop):Inv (X.wish E) pins σ H s:=⟨I.ok.wish E,I.os,I.bare,I.base,I.loc,I.cell,I.free,I.freeC,I.pin,I.hok,I.len⟩
theorem Inv.unwish (I:Inv (X.wish E) pins σ H s):Inv X pins σ H s:=⟨I.ok.unwish,I.os,I.bare,I.base,I.loc,I.cell,I.free,I.freeC,I.pin,I.hok,I.len⟩
theorem SP.unwish {D:Ends} {f:Flow} {s':Shared} (h:SP (X.wish E) pins D f s'):SP X pins D f s':=by
 cases f with
 | next=>obtain⟨σ',H',I,q⟩:=h;exact⟨σ',H',I.unwish,q⟩
 | brk=>obtain⟨σ',H',I,q⟩:=h;exact⟨σ',H',I.unwish,q⟩
 | cont=>obtain⟨σ',H',I,q⟩:=h;exact⟨σ',H',I.unwish,q⟩
 | ret u=>obtain⟨v,σ',H',I,r,q⟩:=h;exact⟨v,σ',H',I.unwish,r,q⟩
theorem PSs.nox {st:List Stmt} {t:TS} (h:PSs X.nox st t):PSs X st t:=fun pins s σ H D I hw =>
 wpAny_mono (h pins s σ H D (I.wish _) hw) (fun _ _ q=>q.unwish) fun _ _ z=>False.elim z
end
section
variable {X:Cx} {st:Stmt} {rest:List Stmt} {t u:TS} {e:Expr} {te:TE} {pos:Pos}
noncomputable def tNext:TS:=fun D σ H=>D.nx σ H
noncomputable def tSeq (t u:TS):TS:=fun D σ H=>t { D with nx:=u D } σ H
theorem pss_nil:PSs X [] tNext:=fun _ _ σ H _ I h=>wpAny_execs_nil ⟨σ,H,I,h⟩
theorem pss_cons (h1:PS X st t) (h2:PSs X rest u):PSs X (st :: rest) (tSeq t u):=by
 intro pins s σ H D I h
 refine wpAny_execs_cons (thn (h1 pins s σ H { D with nx:=u D } I h) fun f s1 q=>?_)
 cases f with
 | next =>
  obtain⟨σ',H',I',q⟩:=q
  exact h2 pins s1 σ' H' D I' q
 | ret v=>exact q
 | brk=>exact q
 | cont=>exact q
theorem pss_one (h1:PS X st t):PSs X [st] t:=by
 intro pins s σ H D I h
 refine wpAny_execs_cons (thn (h1 pins s σ H D I h) fun f s1 q=>?_)
 cases f with
 | next=>exact wpAny_execs_nil q
 | ret v=>exact q
 | brk=>exact q
 | cont=>exact q
theorem Inv.quiet {pins:List (Addr×Obj)} {σ:St} {H:Hp} {s:Shared} (I:Inv X pins σ H s):interactive X.env=false:=by simp[interactive,I.ok.kind]
noncomputable def tDrop (te:TE):TS:=fun D σ H=>te σ H fun _ H1=>D.nx σ H1
theorem ps_expr (he:PE X e te) (hs:swapsWith e none pos.line X.env=pure false:=by rfl):PS X (.Expr e pos) (tDrop te):=by
 intro pins s σ H D I h
 exact wpAny_Expr_any (thn (he pins s σ H _ I h) fun v s1 ⟨x,H1,I1,r1,q1⟩=>⟨σ,H1,I1,q1⟩) I.quiet hs
noncomputable def tRet (te:TE):TS:=fun D σ H=>te σ H D.rt
theorem ps_ret (he:PE X e te):PS X (.Return (some e) pos) (tRet te):=by
 intro pins s σ H D I h
 exact wpAny_Return_some (thn (he pins s σ H _ I h) fun v s1 ⟨x,H1,I1,r1,q1⟩=>⟨x,σ,H1,I1,r1,q1⟩)
noncomputable def tIfS (c:TT) (t u:TS):TS:=fun D σ H=>c σ H fun b H1=>if b=true then t D σ H1 else u D σ H1
theorem ps_if {c:Expr} {a b:List Stmt} {tc:TT} (hc:PT X c tc) (ha:PSs X a t) (hb:PSs X b u):PS X (.If c a b pos) (tIfS tc t u):=by
 intro pins s σ H D I h
 refine wpAny_If (thn (hc pins s σ H _ I h) fun d s1 ⟨H1,I1,q1⟩=>?_)
 cases d with
 | true=>exact ha pins s1 σ H1 D I1 q1
 | false=>exact hb pins s1 σ H1 D I1 q1
end
noncomputable abbrev TG:=V→St→Hp→(St→Hp→Prop)→Prop
noncomputable abbrev TGs:=List V→St→Hp→(St→Hp→Prop)→Prop
noncomputable def PG (X:Cx) (target:Expr) (t:TG):Prop :=
 ∀ (pins:List (Addr×Obj)) (s:Shared) (σ:St) (H:Hp) (v:V) (u:Value) (Q:St→Hp→Prop),Inv X pins σ H s→RelV v u→t v σ H Q →
  wpAny (model X.prog X.w) X.A (assign target X.env u) (fun _ s'=>∃ σ' H',Inv X pins σ' H' s'∧Q σ' H') X.xe s
noncomputable def PGs (X:Cx) (ts:List Expr) (t:TGs):Prop :=
 ∀ (pins:List (Addr×Obj)) (s:Shared) (σ:St) (H:Hp) (vs:List V) (us:List Value) (Q:St→Hp→Prop),Inv X pins σ H s→Vals vs us→t vs σ H Q →
  wpAny (model X.prog X.w) X.A (assignInOrder ((assignEach ts X.env).map (·.2)) us) (fun _ s'=>∃ σ' H',Inv X pins σ' H' s'∧Q σ' H') X.xe s
section
variable {X:Cx} {pos:Pos}
noncomputable def gName (i:Nat):TG:=fun v σ H Q=>Q (σ.set i (some v)) H
theorem pg_name {i:Nat} {x:Str} (hN:X.N.Nodup) (hi:X.N[i]?=some x) (hx:Loc X.env.scope x) (hf:X.fn x=true∨X.env.scope.names.lookup x=some .local:=by first | exact .inl rfl | exact .inr rfl | assumption):PG X (.Name x pos) (gName i):=by
 intro pins s σ H v u Q I r h
 exact wpAny_assign_Name (store_ok I hN hi hx r (fun s' I'=>⟨_,H,I',h⟩) hf)
noncomputable def gNil:TGs:=fun vs σ H Q=>vs=[]∧Q σ H
noncomputable def gCons (t:TG) (u:TGs):TGs:=fun vs σ H Q=>∃ v r,vs=v :: r∧t v σ H fun σ' H'=>u r σ' H' Q
theorem pgs_nil:PGs X [] gNil:=by
 intro pins s σ H vs us Q I r h
 obtain⟨e,h⟩:=h
 subst e
 cases r
 exact assignInOrder_nil ⟨σ,H,I,h⟩
theorem pgs_cons {e:Expr} {es:List Expr} {t:TG} {u:TGs} (h1:PG X e t) (h2:PGs X es u)
  (hs:(assignEach (e :: es) X.env).map (·.2)=assign e X.env :: (assignEach es X.env).map (·.2):=by rfl):PGs X (e :: es) (gCons t u):=by
 intro pins s σ H vs us Q I r h
 obtain⟨v,vr,e1,h⟩:=h
 subst e1
 cases r with
 | cons r rr =>
  rw[hs]
  refine assignInOrder_cons (thn (h1 pins s σ H _ _ _ I r h) fun _ s1 ⟨σ1,H1,I1,q1⟩=>?_)
  exact h2 pins s1 σ1 H1 _ _ Q I1 rr q1
noncomputable def gTup (K:PySem.W.Frag) (n:Nat) (t:TGs):TG:=fun v σ H Q=>∃ a xs,v=.ref a∧SqT K H a xs∧xs.length=n∧t xs σ H Q
theorem pg_tup {es:List Expr} {k:Nat} {t:TGs} {n:Nat} (hc:X.calm=true) (h:PGs X es t)
  (hn:(assignEach es X.env).length=n:=by rfl) (hst:(assignEach es X.env).findIdx? (·.1)=none:=by rfl):PG X (.Tuple es k pos) (gTup X.K n t):=by
 intro pins s σ H v u Q I r hw
 obtain⟨a,xs,e1,hq,hl,hw⟩:=hw
 subst e1
 cases r
 obtain⟨its,rv,ht,hz⟩:=I.tuple hq
 refine assign_Tuple_tuple (I.ok.hd hc) ht (by simp[hn,← hl,rv.length]) hst fun h' hx=>?_
 have I1:Inv X pins σ H { s with heap:=h' }:=I.kept (t':=s.toks) fun b o e=>hx b o (Nat.ne_of_lt (Heap.lt_size e)) e
 exact h pins _ σ H xs _ Q I1 (by simpa using rv) hw
noncomputable def tAsg (te:TE) (g:TG):TS:=fun D σ H=>te σ H fun x H1=>g x σ H1 D.nx
theorem ps_asg {tg e:Expr} {te:TE} {g:TG} (he:PE X e te) (hg:PG X tg g) (hs:swapsWithSole [tg] e pos.line X.env=pure false:=by rfl) (hw:swappedStores [tg] e X.env=pure none:=by rfl)
  (h1:(assignEach [tg] X.env).map (·.2)=[assign tg X.env]:=by rfl):PS X (.Assign [tg] e pos) (tAsg te g):=by
 intro pins s σ H D I h
 refine wpAny_Assign_stores (thn (he pins s σ H _ I h) fun v s1 ⟨x,H1,I1,r1,q1⟩=>?_) hs hw
 rw[h1]
 exact thn (hg pins s1 σ H1 x v _ I1 r1 q1) fun _ s2 q=>q
theorem ps_set {i:Nat} {x:Str} {e:Expr} {te:TE} {pos':Pos} (hN:X.N.Nodup) (hi:X.N[i]?=some x) (hx:Loc X.env.scope x) (he:PE X e te) (hs:swapsWith e (some (.Name x pos')) pos.line X.env=pure false:=by rfl) (hf:X.fn x=true∨X.env.scope.names.lookup x=some .local:=by first | exact .inl rfl | exact .inr rfl | assumption) :
  PS X (.Assign [.Name x pos'] e pos) (tAsg te (gName i)):=by
 intro pins s σ H D I h
 refine wpAny_Assign_Name (thn (he pins s σ H _ I h) fun v s1 ⟨y,H1,I1,r1,q1⟩=>?_) hs
 exact store_ok I1 hN hi hx r1 (fun s2 I2=>⟨_,H1,I2,q1⟩) hf
noncomputable def tPar (i j:Nat) (ta:TA):TS:=fun D σ H=>ta σ H fun vs H1=>∃ v w,vs=[v,w]∧D.nx ((σ.set i (some v)).set j (some w)) H1
theorem ps_par {i j:Nat} {x y:Str} {a b:Expr} {ta:TA} {px py pt:Pos} {kt k2 pt2} (hc:X.calm=true) (hN:X.N.Nodup) (hi:X.N[i]?=some x) (hj:X.N[j]?=some y) (hij:i≠j)
  (hx:X.env.scope.names.lookup x=some .local) (hy:X.env.scope.names.lookup y=some .local) (ha:PA X [a,b] ta)
  (hw:swappedStores [.Tuple [.Name x px,.Name y py] kt pt] (.Tuple [a,b] k2 pt2) X.env=pure (some [x,y]))
  (hs:swapsWithSole [.Tuple [.Name x px,.Name y py] kt pt] (.Tuple [a,b] k2 pt2) pos.line X.env=pure false:=by rfl) :
  PS X (.Assign [.Tuple [.Name x px,.Name y py] kt pt] (.Tuple [a,b] k2 pt2) pos) (tPar i j ta):=by
 intro pins s σ H D I h
 rw[exec_Assign_arm]
 refine wpAny_bind (wpAny_standAt ?_)
 rw[hs]
 refine wpAny_bind (wpAny_pure ?_)
 rw[if_neg (by decide)]
 refine wpAny_bind (Tuple_ (thn (ha _ pins s σ H _ I h) fun us s1 ⟨vs,H1,I1,r1,q1⟩=>?_))
 obtain⟨v,w,e1,q1⟩:=q1
 subst e1
 obtain⟨u1,u2,rfl,rv,rw'⟩:∃ u1 u2,us=[u1,u2]∧RelV v u1∧RelV w u2:=by
  cases r1 with
  | cons p q =>
   cases q with
   | cons p' q' =>
    cases q'
    exact⟨_,_,rfl,p,p'⟩
 refine wpAny_newObj_type ?_ (by show 2≤sizeLine;decide)
 have I2:Inv X pins σ H1 { s1 with heap:=s1.heap.push { cls:=.type "tuple",data:=.seq [u1,u2].toArray } }:=I1.kept (t':=s1.toks) fun b o e=>Heap.get?_push_of_some _ e
 rw[hw]
 refine wpAny_bind (wpAny_pure ?_)
 show wpAny (model X.prog X.w) X.A (do rule "assign.swapped-stores";let items ← unpackItems (.ref s1.heap.objs.size) 2 none;assignInOrder [fun v=>bindName X.env y v,fun v=>bindName X.env x v] items.reverse;pure Flow.next) _ _ _
 refine wpAny_bind (wpAny_rule (wpAny_bind (unpackItems_tuple (items:=#[u1,u2]) (I.ok.hd hc) (IsTup.new s1.heap _) fun h' hx'=>?_)))
 have I3:=I2.kept (h':=h') (t':=s1.toks) fun b o e=>hx' b o (Nat.ne_of_lt (Heap.lt_size e)) e
 show wpAny _ _ (assignInOrder [fun v=>bindName X.env y v,fun v=>bindName X.env x v] [u2,u1] >>= fun _=>pure Flow.next) _ _ _
 refine wpAny_bind (assignInOrder_cons (wpAny_bindName (store_ok I3 hN hj (.inl hy) rw' (fun s2 I4=>?_) (.inr hy))))
 refine assignInOrder_cons (wpAny_bindName (store_ok I4 hN hi (.inl hx) rv (fun s3 I5=>assignInOrder_nil (wpAny_pure ?_)) (.inr hx)))
 rw[List.set_comm _ _ (Ne.symm hij)] at I5
 exact⟨_,H1,I5,q1⟩
end
section
variable {X:Cx} {pos:Pos}
noncomputable def tWhile (c:TT) (tb:TS):TS:=fun D σ H=>∃ W:Nat→St→Hp→Prop,(∃ m,W m σ H)∧∀ m σ H,W m σ H →
 c σ H fun b H1=>if b=true then ∃ N:St→Hp→Prop,(∀ σ' H',N σ' H'→∃ m',m' < m∧W m' σ' H')∧tb { D with nx:=N,ct:=N,bk:=D.nx } σ H1 else D.nx σ H1
theorem ps_while {c:Expr} {body:List Stmt} {tc:TT} {tb:TS} (hp:PassesOwn (model X.prog X.w) X.A X.env X.xe) (hc:PT X c tc) (hb:PSs X body tb):PS X (.While c body [] pos) (tWhile tc tb):=by
 intro pins s σ H D I h
 obtain⟨W,⟨m0,w0⟩,turn⟩:=h
 refine wpAny_While (codeAny_whileLoop (fun n s'=>∃ σ' H',Inv X pins σ' H' s'∧W n σ' H') ?_ m0 ⟨σ,H,I,w0⟩)
 rintro n s1 ⟨σ1,H1,I1,w1⟩
 refine wpAny_passesOwn hp (thn (hc pins s1 σ1 H1 _ I1 (turn n σ1 H1 w1)) fun b s2 ⟨H2,I2,q2⟩=>?_)
 cases b with
 | true =>
  obtain⟨N,hN,q2⟩:=q2
  rw[if_pos rfl]
  refine wpAny_passesOwn hp (thn (hb pins s2 σ1 H2 _ I2 q2) fun f s3 q3=>?_)
  cases f with
  | next =>
   obtain⟨σ3,H3,I3,n3⟩:=q3
   obtain⟨m',hm,w3⟩:=hN σ3 H3 n3
   exact⟨m',hm,σ3,H3,I3,w3⟩
  | cont =>
   obtain⟨σ3,H3,I3,n3⟩:=q3
   obtain⟨m',hm,w3⟩:=hN σ3 H3 n3
   exact⟨m',hm,σ3,H3,I3,w3⟩
  | brk=>exact q3
  | ret v=>exact q3
 | false =>
  rw[if_neg Bool.false_ne_true]
  exact wpAny_execs_nil ⟨σ1,H2,I2,q2⟩
end
structure It where
 go:Nat→Hp→Prop
 yld:Nat→Hp→V→Hp→Prop
 stop:Nat→Hp→Prop
noncomputable def FpOk (X:Cx) (pins:List (Addr×Obj)) (H:Hp) (b:Addr):Prop :=
 H b=none∧b≠X.env.locals∧b ∉ X.fs∧(b∈X.ex∨X.s₀.heap.objs.size≤b)∧(∀ x c,X.env.cells.lookup x=some c→c≠b)∧∀ p∈X.pn++pins,p.1≠b
theorem Inv.fpOk {X:Cx} {pins:List (Addr×Obj)} {σ:St} {H H':Hp} {s:Shared} {b:Addr} (I:Inv X pins σ H s) (hb:s.heap.objs.size≤b) (hn:H' b=none):FpOk X pins H' b:=by
 refine⟨hn,Nat.ne_of_gt (Nat.lt_of_lt_of_le I.lt hb),I.nofs hb,.inr (Nat.le_trans I.sz hb),fun x c e z=>?_,fun p hp z=>?_⟩
 ·obtain⟨v,q⟩:=I.cell x c e
  exact absurd (Nat.lt_of_lt_of_le q.lt (by rw[z];exact hb)) (Nat.lt_irrefl _)
 ·exact absurd (Nat.lt_of_lt_of_le (Heap.lt_size (I.pin p hp).1) (by rw[z];exact hb)) (Nat.lt_irrefl _)
structure Turn (P:Program) (w:World) (K:PySem.W.Frag) (tg:Expr) (J:It) (fp:List Addr) (it:Addr) (tn:Nat→Heap→Prop):Prop where
  mem:it∈fp
  obj:∀ i h,tn i h→∀ b∈fp,∃ o,h.get? b=some o∧∀ v,o.data≠.cell v
  keep:∀ i h h',tn i h→(∀ b∈fp,∀ o,h.get? b=some o→h'.get? b=some o)→tn i h'
  item:∀ (X:Cx),X.prog=P→X.w=w→X.K=K→X.calm=true→∀ (i:Nat) (pins:List (Addr×Obj)) (s:Shared) (σ:St) (H:Hp) (E:Value→Shared→Prop),Inv X pins σ H s→(∀ b∈fp,FpOk X pins H b)→tn i s.heap→J.go i H →
    wpAny (model P w) X.A (pyNext (.ref it)) (fun r s1=>∃ u,r=some u ∧
      wpAny (model P w) X.A (letOwnedTupleGo tg (.ref it) u) (fun _ s2=>∃ x H',Inv X pins σ H' s2∧RelV x u∧J.yld i H x H'∧tn (i+1) s2.heap∧∀ b∈fp,H' b=none) E s1) E s
  done:∀ (X:Cx),X.prog=P→X.w=w→X.K=K→X.calm=true→∀ (i:Nat) (pins:List (Addr×Obj)) (s:Shared) (σ:St) (H:Hp) (E:Value→Shared→Prop),Inv X pins σ H s→(∀ b∈fp,FpOk X pins H b)→tn i s.heap→J.stop i H →
    wpAny (model P w) X.A (pyNext (.ref it)) (fun r s1=>r=none∧Inv X pins σ H s1) E s
  self:∀ (A:Around) (i:Nat) (s:Shared) (Q:Value→Shared→Prop) (E:Value→Shared→Prop),tn i s.heap→Q (.ref it) s→wpAny (model P w) A (pyIter (.ref it)) Q E s
noncomputable abbrev TI:=St→Hp→(It→Hp→Prop)→Prop
noncomputable def PIE (X:Cx) (pins:List (Addr×Obj)) (σ:St) (tg:Expr) (R:It→Hp→Prop) (itv:Value) (s2:Shared):Prop :=
 ∃ (it:Addr) (fp:List Addr) (tn:Nat→Heap→Prop) (J:It) (H':Hp),itv=.ref it∧Inv X pins σ H' s2∧Turn X.prog X.w X.K tg J fp it tn∧tn 0 s2.heap∧(∀ b∈fp,FpOk X pins H' b)∧R J H'
noncomputable def PI (X:Cx) (tg iter:Expr) (wi:TI):Prop :=
 ∀ (pins:List (Addr×Obj)) (s:Shared) (σ:St) (H:Hp) (R:It→Hp→Prop),Inv X pins σ H s→wi σ H R →
  wpAny (model X.prog X.w) X.A (eval iter X.env) (fun v s1=>wpAny (model X.prog X.w) X.A (pyIter v) (PIE X pins σ tg R) X.xe s1) X.xe s
theorem go_of {M:Model} {A:Around} {E:Value→Shared→Prop} {s:Shared} {tg:Expr} {it:Addr} {u:Value} {o:Obj} {n:String} {vs:Array Value} {Q:Unit→Shared→Prop} (ho:s.heap.get? it=some o) (hc:o.cls=.type n) (hd:o.data=.fields vs)
    (hn:["enumerate","zip","dict_itemiterator","dict_reverseitemiterator","odict_iterator","itertools.zip_longest","itertools.pairwise"].contains n=false) (hQ:Q () s):wpAny M A (letOwnedTupleGo tg (.ref it) u) Q E s:=by
  unfold letOwnedTupleGo
  cases tg<;>first
    | exact wpAny_pure hQ
    | (cases u<;>first
        | exact wpAny_pure hQ
        | (refine wpAny_bind (wpAny_load ho ?_)
           rw[hc,hd]
           show wpAny M A (if (["enumerate","zip","dict_itemiterator","dict_reverseitemiterator","odict_iterator","itertools.zip_longest","itertools.pairwise"].contains n&&vs[0]? == some (rawInt _))=true then _ else _) Q E s
           rw[if_neg (by intro h;rw[hn,Bool.false_and] at h;cases h)]
           exact wpAny_pure hQ))
noncomputable def Itl (K:PySem.W.Frag) (a:Addr):It :=
 ⟨fun i H=>∃ xs x,SqL K H a xs∧xs[i]?=some x,fun i H x H'=>H'=H∧∀ xs,SqL K H a xs→xs[i]?=some x,fun i H=>∃ xs,SqL K H a xs∧xs.length≤i⟩
noncomputable def Itt (K:PySem.W.Frag) (a:Addr):It :=
 ⟨fun i H=>∃ xs x,SqT K H a xs∧xs[i]?=some x,fun i H x H'=>H'=H∧∀ xs,SqT K H a xs→xs[i]?=some x,fun i H=>∃ xs,SqT K H a xs∧xs.length≤i⟩
noncomputable def Itr (lo:Int) (n:Nat):It:=⟨fun i _=>i < n,fun i H x H'=>H'=H∧x=.int (lo+i),fun i _=>n≤i⟩
theorem turn_list {P:Program} {w:World} {K:PySem.W.Frag} {tg:Expr} (a it:Addr):Turn P w K tg (Itl K a) [it] it (fun i h=>h.IsListIter it a i) where
  mem:=by simp
  obj:=fun i h st b hb=>by
    have e:b=it:=by simpa using hb
    subst e
    obtain⟨o,e,c,d⟩:=st
    exact⟨o,e,fun v z=>by rw[d] at z;cases z⟩
  keep:=fun i h h' st k=>st.at fun o e=>k it (by simp) o e
  item:=by
    intro X hP hw hK hc i pins s σ H E I hf st hg
    subst hP hw hK
    obtain⟨xs,x,hq,hx⟩:=hg
    obtain⟨its,rv,p,hz⟩:=I.list hq
    obtain⟨u,hu,ru⟩:=rv.get hx
    obtain⟨f0,f1,f2,f3,f4,f5⟩:=hf it (by simp)
    refine wpAny_pyNext_list_item st p.isList (x:=u) (by simpa using hu) fun h' st' sb=>?_
    have I1:Inv X pins σ H { s with heap:=h' }:=I.turned (t':=s.toks) (fun b o hb e=>(sb.2 b hb).trans e) f0 f1 f3 f4 f5
    obtain⟨o,e,c,d⟩:=id st'
    exact⟨u,rfl,go_of (s:={ s with heap:=h' }) e c d (by decide) ⟨x,H,I1,ru,⟨rfl,fun ys hy=>by rw[I.list_inj hy hq];exact hx⟩,st',fun b hb=>(hf b hb).1⟩⟩
  done:=by
    intro X hP hw hK hc i pins s σ H E I hf st hg
    subst hP hw hK
    obtain⟨xs,hq,hx⟩:=hg
    obtain⟨its,rv,p,hz⟩:=I.list hq
    obtain⟨f0,f1,f2,f3,f4,f5⟩:=hf it (by simp)
    have hl:=rv.length
    exact wpAny_pyNext_list_end (I.ok.hd hc) st p.isList (by simp;omega) fun h' eb=>⟨rfl,I.turned (t':=s.toks) (fun b o hb e=>eb b o hb e) f0 f1 f3 f4 f5⟩
  self:=fun _ _ _ _ _ st h=>wpAny_pyIter_listiter st h
theorem turn_tuple {P:Program} {w:World} {K:PySem.W.Frag} {tg:Expr} (a it:Addr):Turn P w K tg (Itt K a) [it] it (fun i h=>h.IsTupleIter it a i) where
  mem:=by simp
  obj:=fun i h st b hb=>by
    have e:b=it:=by simpa using hb
    subst e
    obtain⟨o,e,c,d⟩:=st
    exact⟨o,e,fun v z=>by rw[d] at z;cases z⟩
  keep:=fun i h h' st k=>st.at fun o e=>k it (by simp) o e
  item:=by
    intro X hP hw hK hc i pins s σ H E I hf st hg
    subst hP hw hK
    obtain⟨xs,x,hq,hx⟩:=hg
    obtain⟨its,rv,p,hz⟩:=I.tuple hq
    obtain⟨u,hu,ru⟩:=rv.get hx
    obtain⟨f0,f1,f2,f3,f4,f5⟩:=hf it (by simp)
    refine wpAny_pyNext_tuple_item st (show s.heap.IsTuple a its.toArray from p) (x:=u) (by simpa using hu) fun h' st' sb=>?_
    have I1:Inv X pins σ H { s with heap:=h' }:=I.turned (t':=s.toks) (fun b o hb e=>(sb.2 b hb).trans e) f0 f1 f3 f4 f5
    obtain⟨o,e,c,d⟩:=id st'
    exact⟨u,rfl,go_of (s:={ s with heap:=h' }) e c d (by decide) ⟨x,H,I1,ru,⟨rfl,fun ys hy=>by rw[I.tuple_inj hy hq];exact hx⟩,st',fun b hb=>(hf b hb).1⟩⟩
  done:=by
    intro X hP hw hK hc i pins s σ H E I hf st hg
    subst hP hw hK
    obtain⟨xs,hq,hx⟩:=hg
    obtain⟨its,rv,p,hz⟩:=I.tuple hq
    obtain⟨f0,f1,f2,f3,f4,f5⟩:=hf it (by simp)
    have hl:=rv.length
    exact wpAny_pyNext_tuple_end (I.ok.hd hc) st (show s.heap.IsTuple a its.toArray from p) (by simp;omega) fun h' eb=>⟨rfl,I.turned (t':=s.toks) (fun b o hb e=>eb b o hb e) f0 f1 f3 f4 f5⟩
  self:=fun _ _ _ _ _ st h=>wpAny_pyIter_tupleiter st h
theorem turn_range {P:Program} {w:World} {K:PySem.W.Frag} {tg:Expr} (it:Addr) (lo:Int) (n:Nat):Turn P w K tg (Itr lo n) [it] it (fun i h=>IsRangeIter h it (lo+(i:Nat)*1) ((n:Int) - (i:Nat)) 1) where
  mem:=by simp
  obj:=fun i h st b hb=>by
    have e:b=it:=by simpa using hb
    subst e
    exact⟨_,st,fun v z=>by
      have z':Data.fields _=Data.cell v:=z
      cases z'⟩
  keep:=fun i h h' st k=>k it (by simp) _ st
  item:=by
    intro X hP hw hK hc i pins s σ H E I hf st hg
    subst hP hw hK
    obtain⟨f0,f1,f2,f3,f4,f5⟩:=hf it (by simp)
    have W:=Walks.range (prog:=X.prog) (w:=X.w) (I.ok.hd hc) it lo 1 n
    refine W.item i s _ _ hg st fun v h' tk hv st' kk=>?_
    obtain⟨t,rfl⟩:=hv
    have I1:Inv X pins σ H { s with heap:=h',toks:=tk }:=I.turned (fun b o hb e=>kk b o (by simpa using hb) e) f0 f1 f3 f4 f5
    refine⟨_,rfl,go_of (s:={ s with heap:=h',toks:=tk }) (n:="range_iterator") st' rfl rfl (by decide) ⟨.int (lo+i),H,I1,⟨t,?_⟩,⟨rfl,rfl⟩,st',fun b hb=>(hf b hb).1⟩⟩
    rw[Int.mul_one]
  done:=by
    intro X hP hw hK hc i pins s σ H E I hf st hg
    subst hP hw hK
    obtain⟨f0,f1,f2,f3,f4,f5⟩:=hf it (by simp)
    exact wpAny_pyNext_range_end (I.ok.hd hc) st (by have:n≤i:=hg;omega) fun h' eb=>⟨rfl,I.turned (t':=s.toks) (fun b o hb e=>eb b o hb e) f0 f1 f3 f4 f5⟩
  self:=fun _ _ _ _ _ st h=>wpAny_pyIter_rangeiter st h
end L2
namespace L2
open PySem PySem.Spec PyProof.Rows
section
variable {X:Cx} {tg:Expr}
noncomputable def iList (K:PySem.W.Frag) (tl:TE):TI:=fun σ H R=>tl σ H fun x H1=>∃ a,x=.ref a∧(∃ xs,SqL K H1 a xs)∧R (Itl K a) H1
noncomputable def iTup (K:PySem.W.Frag) (tl:TE):TI:=fun σ H R=>tl σ H fun x H1=>∃ a,x=.ref a∧(∃ xs,SqT K H1 a xs)∧R (Itt K a) H1
theorem pi_list {l:Expr} {tl:TE} (hl:PE X l tl):PI X tg l (iList X.K tl):=by
 intro pins s σ H R I h
 refine thn (hl pins s σ H _ I h) fun v s1 ⟨x,H1,I1,r1,q1⟩=>?_
 obtain⟨a,e,⟨xs,hq⟩,q⟩:=q1
 subst e
 cases r1
 obtain⟨its,rv,p,hz⟩:=I1.list hq
 refine wpAny_pyIter_list p.isList ?_
 refine⟨s1.heap.objs.size,[s1.heap.objs.size],_,_,H1,rfl,I1.kept (t':=s1.toks) fun b o e=>Heap.get?_push_of_some _ e,turn_list a _,⟨_,Heap.get?_push_size _ rfl,rfl,rfl⟩,fun b hb=>?_,q⟩
 have e:b=s1.heap.objs.size:=by simpa using hb
 subst e
 exact I1.fpOk (Nat.le_refl _) (I1.hok.fresh (Nat.le_refl _))
theorem pi_tup {l:Expr} {tl:TE} (hl:PE X l tl):PI X tg l (iTup X.K tl):=by
 intro pins s σ H R I h
 refine thn (hl pins s σ H _ I h) fun v s1 ⟨x,H1,I1,r1,q1⟩=>?_
 obtain⟨a,e,⟨xs,hq⟩,q⟩:=q1
 subst e
 cases r1
 obtain⟨its,rv,p,hz⟩:=I1.tuple hq
 refine wpAny_pyIter_tuple (show s1.heap.IsTuple a its.toArray from p) ?_
 refine⟨s1.heap.objs.size,[s1.heap.objs.size],_,_,H1,rfl,I1.kept (t':=s1.toks) fun b o e=>Heap.get?_push_of_some _ e,turn_tuple a _,⟨_,Heap.get?_push_size _ rfl,rfl,rfl⟩,fun b hb=>?_,q⟩
 have e:b=s1.heap.objs.size:=by simpa using hb
 subst e
 exact I1.fpOk (Nat.le_refl _) (I1.hok.fresh (Nat.le_refl _))
theorem range_it {pins:List (Addr×Obj)} {σ:St} {H:Hp} {s:Shared} {R:It→Hp→Prop} {E:Value→Shared→Prop} {lo hi:Int} {t u v:Tok} {tk:Nat} (I:Inv X pins σ H s) (h1:-(2 ^ 62)≤lo) (h2:lo < 2 ^ 62) (h3:-(2 ^ 62)≤hi) (h4:hi < 2 ^ 62)
  (q:R (Itr lo (hi - lo).toNat) H):wpAny (model X.prog X.w) X.A (pyIter (.ref s.heap.objs.size)) (PIE X pins σ tg R) E { s with heap:=s.heap.push { cls:=.type "range",data:=.fields #[.int lo t,.int hi u,.int 1 v] },toks:=tk }:=by
 refine wpAny_pyIter_range (IsRange.new ..) (small_one h1 h2 h3 h4) ?_
 have I1:Inv X pins σ H { s with heap:=s.heap.push { cls:=.type "range",data:=.fields #[.int lo t,.int hi u,.int 1 v] },toks:=tk }:=I.kept fun b o e=>Heap.get?_push_of_some _ e
 refine⟨(s.heap.push { cls:=.type "range",data:=.fields #[.int lo t,.int hi u,.int 1 v] }).objs.size,[(s.heap.push { cls:=.type "range",data:=.fields #[.int lo t,.int hi u,.int 1 v] }).objs.size],_,_,H,rfl,
  I1.kept (t':=tk) fun b o e=>Heap.get?_push_of_some _ e,turn_range _ lo (hi - lo).toNat,?_,fun b hb=>?_,q⟩
 ·have e1:lo+((0:Nat):Int)*1=lo:=by simp
  have e2:(((hi - lo).toNat:Nat):Int) - ((0:Nat):Int)=Builtin.Range.rangeSize lo hi 1:=by rw[rangeSize_one];split<;>omega
  show IsRangeIter _ _ (lo+((0:Nat):Int)*1) ((((hi - lo).toNat:Nat):Int) - ((0:Nat):Int)) 1
  rw[e1,e2]
  exact Heap.get?_push_size _ rfl
 ·have e:b=(s.heap.push { cls:=.type "range",data:=.fields #[.int lo t,.int hi u,.int 1 v] }).objs.size:=by simpa using hb
  subst e
  exact I1.fpOk (Nat.le_refl _) (I1.hok.fresh (Nat.le_refl _))
noncomputable def iRng1 (ta:TA):TI:=fun σ H R=>ta σ H fun vs H1=>∃ j:Int,vs=[.int j]∧-(2 ^ 62)≤j∧j < 2 ^ 62∧R (Itr 0 j.toNat) H1
noncomputable def iRng2 (ta:TA):TI:=fun σ H R=>ta σ H fun vs H1=>∃ i j:Int,vs=[.int i,.int j]∧(-(2 ^ 62)≤i∧i < 2 ^ 62∧-(2 ^ 62)≤j∧j < 2 ^ 62)∧R (Itr i (j - i).toNat) H1
theorem pi_range1 {a:Expr} {ta:TA} {p pos:Pos} (hg:Gl X "range") (hm:X.mg "range"=none) (ha:PA X [a] ta) (hs:starEach [a] X.env=[(false,eval a X.env)]:=by rfl):PI X tg (.Call (.Name "range" p) [a] [] pos) (iRng1 ta):=by
 intro pins s σ H R I h
 refine Call_ (ld_blt I hg hm boot_range (PyProof.Rows.callWith_type1 (thn (ha pos pins s σ H _ I h) fun us s1 ⟨vs,H1,I1,r1,q1⟩=>?_) hs rfl))
 obtain⟨j,e,q1,q2,q⟩:=q1
 subst e
 cases r1 with
 | cons r rr =>
  cases rr
  obtain⟨t,rfl⟩:=r
  exact call_range_1 (range_it I1 (by omega) (by omega) q1 q2 (by simpa using q))
theorem pi_range2 {a b:Expr} {ta:TA} {p pos:Pos} (hg:Gl X "range") (hm:X.mg "range"=none) (ha:PA X [a,b] ta) (hs:starEach [a,b] X.env=[(false,eval a X.env),(false,eval b X.env)]:=by rfl) (hs2:starEach [b] X.env=[(false,eval b X.env)]:=by rfl) :
  PI X tg (.Call (.Name "range" p) [a,b] [] pos) (iRng2 ta):=by
 intro pins s σ H R I h
 refine Call_ (ld_blt I hg hm boot_range (PyProof.Rows.callWith_type1 (thn (ha pos pins s σ H _ I h) fun us s1 ⟨vs,H1,I1,r1,q1⟩=>?_) (by rw[hs,hs2]) (by rw[hs2];rfl)))
 obtain⟨i,j,e,⟨q1,q2,q3,q4⟩,q⟩:=q1
 subst e
 cases r1 with
 | cons r rr =>
  cases rr with
  | cons r' rr =>
   cases rr
   obtain⟨t,rfl⟩:=r
   obtain⟨t',rfl⟩:=r'
   exact call_range_2 (range_it I1 q1 q2 q3 q4 q)
noncomputable def tFor (wi:TI) (g:TG) (tb:TS):TS:=fun D σ H=>wi σ H fun J H1=>∃ W:Nat→Nat→St→Hp→Prop,(∃ m,W 0 m σ H1)∧∀ i m σ H,W i m σ H →
 (J.stop i H∧D.nx σ H)∨(J.go i H∧∃ N:St→Hp→Prop,(∀ σ' H',N σ' H'→∃ m',m' < m∧W (i+1) m' σ' H')∧∀ x H',J.yld i H x H'→g x σ H' fun σ2 H2=>tb { D with nx:=N,ct:=N,bk:=D.nx } σ2 H2)
noncomputable def pinsAt (fp:List Addr) (h:Heap):List (Addr×Obj):=fp.filterMap fun b=>(h.get? b).map fun o=>(b,o)
theorem mem_pinsAt {fp:List Addr} {h:Heap} {b:Addr} {o:Obj} (hb:b∈fp) (e:h.get? b=some o):(b,o)∈pinsAt fp h:=List.mem_filterMap.mpr ⟨b,hb,by rw[e];rfl⟩
theorem of_pinsAt {fp:List Addr} {h:Heap} {p:Addr×Obj} (hp:p∈pinsAt fp h):p.1∈fp∧h.get? p.1=some p.2:=by
 obtain⟨b,hb,e⟩:=List.mem_filterMap.mp hp
 cases q:h.get? b with
 | none=>rw[q] at e;cases e
 | some o =>
  rw[q] at e
  have e':(b,o)=p:=Option.some.inj e
  subst e'
  exact⟨hb,q⟩
theorem Inv.pinned {pins:List (Addr×Obj)} {σ:St} {H:Hp} {s:Shared} {fp:List Addr} (I:Inv X pins σ H s) (hf:∀ b∈fp,FpOk X pins H b) (ho:∀ b∈fp,∃ o,s.heap.get? b=some o∧∀ v,o.data≠.cell v):Inv X (pins++pinsAt fp s.heap) σ H s :=
 I.pins_of fun p hp=>(List.mem_append.mp hp).elim (fun z=>I.pin p (List.mem_append_right _ z)) fun z=>by
  obtain⟨hb,e⟩:=of_pinsAt z
  obtain⟨f0,f1,f2,_⟩:=hf p.1 hb
  obtain⟨o,e',d⟩:=ho p.1 hb
  rw[e] at e';cases e'
  exact⟨e,f0,f1,f2,d⟩
theorem Inv.unpinned {pins pl:List (Addr×Obj)} {σ:St} {H:Hp} {s:Shared} (I:Inv X (pins++pl) σ H s):Inv X pins σ H s:=I.pins_of fun p hp=>I.pin p (List.mem_append_right _ (List.mem_append_left _ hp))
theorem ps_for {iter:Expr} {body:List Stmt} {wi:TI} {g:TG} {tb:TS} {pos:Pos} (hp:PassesOwn (model X.prog X.w) X.A X.env X.xe) (hc:X.calm=true) (hi:PI X tg iter wi) (hg:PG X tg g) (hb:PSs X body tb)
  (hs:∀ x,foldedSetIterable iter X.env x=pure x:=by intro _;rfl):PS X (.For tg iter body [] pos) (tFor wi g tb):=by
 intro pins s σ H D I h
 refine wpAny_For (thn (hi pins s σ H _ I h) fun v s1 h1=>thn h1 fun itv s2 h2=>?_) hs
 obtain⟨it,fp,tn,J,H2,e,I2,T,st2,f2,W,⟨m0,w0⟩,turn⟩:=h2
 subst e
 have stat:∀ {H':Hp},(∀ b∈fp,H' b=none)→∀ b∈fp,FpOk X pins H' b:=fun hn b hb=>⟨hn b hb,(f2 b hb).2⟩
 refine codeAny_forLoop_any (fun n s'=>∃ i σ' H',Inv X pins σ' H' s'∧tn i s'.heap∧(∀ b∈fp,H' b=none)∧W i n σ' H') ?_ m0 ⟨0,σ,H2,I2,st2,fun b hb=>(f2 b hb).1,w0⟩
 rintro n s3 ⟨i,σ3,H3,I3,st3,fr3,w3⟩
 rcases turn i n σ3 H3 w3 with ⟨stop,qn⟩ | ⟨go,N,hN,step⟩
 ·refine wpAny_passesOwn hp (thn (T.done X rfl rfl rfl hc i pins s3 σ3 H3 X.xe I3 (stat fr3) st3 stop) fun r s4 ⟨hr,I4⟩=>?_)
  subst hr
  exact wpAny_execs_nil ⟨σ3,H3,I4,qn⟩
 ·refine wpAny_passesOwn hp (thn (T.item X rfl rfl rfl hc i pins s3 σ3 H3 X.xe I3 (stat fr3) st3 go) fun r s4 ⟨u,hr,h4⟩=>?_)
  subst hr
  refine wpAny_passesOwn hp (thn h4 fun _ s5 ⟨x,H5,I5,r5,y5,st5,fr5⟩=>?_)
  have I5':=I5.pinned (stat fr5) (T.obj _ _ st5)
  refine wpAny_passesOwn hp (thn (hg _ s5 σ3 H5 x u _ I5' r5 (step x H5 y5)) fun _ s6 ⟨σ6,H6,I6,q6⟩=>?_)
  refine wpAny_passesOwn hp (thn (hb _ s6 σ6 H6 _ I6 q6) fun f s7 q7=>?_)
  have again:∀ {σ7:St} {H7:Hp},Inv X (pins++pinsAt fp s5.heap) σ7 H7 s7→N σ7 H7→∃ m,m < n∧∃ i σ' H',Inv X pins σ' H' s7∧tn i s7.heap∧(∀ b∈fp,H' b=none)∧W i m σ' H':=fun {σ7 H7} I7 n7=>by
   obtain⟨m',hm,w7⟩:=hN σ7 H7 n7
   refine⟨m',hm,i+1,σ7,H7,I7.unpinned,T.keep _ _ _ st5 fun b hb o e=>(I7.pin (b,o) (List.mem_append_right _ (List.mem_append_right _ (mem_pinsAt hb e)))).1,fun b hb=>?_,w7⟩
   obtain⟨o,e,d⟩:=T.obj _ _ st5 b hb
   exact (I7.pin (b,o) (List.mem_append_right _ (List.mem_append_right _ (mem_pinsAt hb e)))).2.1
  cases f with
  | next=>obtain⟨σ7,H7,I7,n7⟩:=q7;exact again I7 n7
  | cont=>obtain⟨σ7,H7,I7,n7⟩:=q7;exact again I7 n7
  | brk=>obtain⟨σ7,H7,I7,q7⟩:=q7;exact⟨σ7,H7,I7.unpinned,q7⟩
  | ret v=>obtain⟨x7,σ7,H7,I7,r7,q7⟩:=q7;exact⟨x7,σ7,H7,I7.unpinned,r7,q7⟩
end
theorem for_list {K:PySem.W.Frag} {a:Addr} {xs:List V} {g:TG} {tb:TS} {D:Ends} {σ:St} {H:Hp} (Pv:Nat→St→Hp→Prop) (h0:Pv 0 σ H) (hl:∀ i σ H,i≤xs.length→Pv i σ H→SqL K H a xs)
  (hs:∀ i x σ H,xs[i]?=some x→Pv i σ H→g x σ H fun σ2 H2=>tb { D with nx:=Pv (i+1),ct:=Pv (i+1),bk:=D.nx } σ2 H2) (hd:∀ σ H,Pv xs.length σ H→D.nx σ H) :
  ∃ W:Nat→Nat→St→Hp→Prop,(∃ m,W 0 m σ H)∧∀ i m σ H,W i m σ H →
   ((Itl K a).stop i H∧D.nx σ H)∨((Itl K a).go i H∧∃ N:St→Hp→Prop,(∀ σ' H',N σ' H'→∃ m',m' < m∧W (i+1) m' σ' H')∧∀ x H',(Itl K a).yld i H x H'→g x σ H' fun σ2 H2=>tb { D with nx:=N,ct:=N,bk:=D.nx } σ2 H2):=by
 refine⟨fun i m σ H=>m=xs.length - i∧i≤xs.length∧Pv i σ H,⟨xs.length,by simp,Nat.zero_le _,h0⟩,?_⟩
 rintro i m σ H ⟨rfl,hi,p⟩
 have q:=hl i σ H hi p
 by_cases hlt:i < xs.length
 ·refine .inr ⟨⟨xs,xs[i],q,by simp[hlt]⟩,Pv (i+1),fun σ' H' p'=>⟨xs.length - (i+1),by omega,rfl,hlt,p'⟩,fun x H' y=>?_⟩
  obtain⟨e,y⟩:=y
  subst e
  exact hs i x σ _ (y xs q) p
 ·have e:i=xs.length:=by omega
  subst e
  exact .inl ⟨⟨xs,q,Nat.le_refl _⟩,hd σ H p⟩
theorem for_range {lo:Int} {n:Nat} {g:TG} {tb:TS} {D:Ends} {σ:St} {H:Hp} (Pv:Nat→St→Hp→Prop) (h0:Pv 0 σ H)
  (hs:∀ i σ H,i < n→Pv i σ H→g (.int (lo+i)) σ H fun σ2 H2=>tb { D with nx:=Pv (i+1),ct:=Pv (i+1),bk:=D.nx } σ2 H2) (hd:∀ σ H,Pv n σ H→D.nx σ H) :
  ∃ W:Nat→Nat→St→Hp→Prop,(∃ m,W 0 m σ H)∧∀ i m σ H,W i m σ H →
   ((Itr lo n).stop i H∧D.nx σ H)∨((Itr lo n).go i H∧∃ N:St→Hp→Prop,(∀ σ' H',N σ' H'→∃ m',m' < m∧W (i+1) m' σ' H')∧∀ x H',(Itr lo n).yld i H x H'→g x σ H' fun σ2 H2=>tb { D with nx:=N,ct:=N,bk:=D.nx } σ2 H2):=by
 refine⟨fun i m σ H=>m=n - i∧i≤n∧Pv i σ H,⟨n,by simp,Nat.zero_le _,h0⟩,?_⟩
 rintro i m σ H ⟨rfl,hi,p⟩
 by_cases hlt:i < n
 ·refine .inr ⟨hlt,Pv (i+1),fun σ' H' p'=>⟨n - (i+1),by omega,rfl,hlt,p'⟩,fun x H' y=>?_⟩
  obtain⟨e,y⟩:=y
  subst e y
  exact hs i σ _ hlt p
 ·have e:i=n:=by omega
  subst e
  exact .inl ⟨Nat.le_refl _,hd σ H p⟩
end L2
namespace L2
open PySem PySem.Spec PyProof.Rows
noncomputable abbrev R2:=V→V→Hp→VK→Prop
noncomputable def OpR (X:Cx) (f:Value→Value→Sem Value) (r:R2):Prop :=
 ∀ (pins:List (Addr×Obj)) (s:Shared) (σ:St) (H:Hp) (x y:V) (v u:Value) (Q:VK),Inv X pins σ H s→RelV x v→RelV y u→r x y H Q →
  wpAny (model X.prog X.w) X.A (f v u) (EP X pins σ Q) X.xe s
noncomputable def UnR (X:Cx) (f:Value→Sem Value) (r:V→Hp→VK→Prop):Prop :=
 ∀ (pins:List (Addr×Obj)) (s:Shared) (σ:St) (H:Hp) (x:V) (v:Value) (Q:VK),Inv X pins σ H s→RelV x v→r x H Q →
  wpAny (model X.prog X.w) X.A (f v) (EP X pins σ Q) X.xe s
noncomputable def CallR (X:Cx) (f:Value) (r:List V→Hp→VK→Prop):Prop :=
 ∀ (pins:List (Addr×Obj)) (s:Shared) (σ:St) (H:Hp) (xs:List V) (us:List Value) (Q:VK),Inv X pins σ H s→Vals xs us→r xs H Q →
  wpAny (model X.prog X.w) X.A (call f us) (EP X pins σ Q) X.xe s
noncomputable def TruR (X:Cx) (r:V→Hp→(Bool→Hp→Prop)→Prop):Prop :=
 ∀ (pins:List (Addr×Obj)) (s:Shared) (σ:St) (H:Hp) (x:V) (v:Value) (Q:Bool→Hp→Prop),Inv X pins σ H s→RelV x v→r x H Q →
  wpAny (model X.prog X.w) X.A (truthy v) (TP X pins σ Q) X.xe s
noncomputable def tOp (r:R2) (ta tb:TE):TE:=fun σ H Q=>ta σ H fun x H1=>tb σ H1 fun y H2=>r x y H2 Q
noncomputable def tUn (r:V→Hp→VK→Prop) (ta:TE):TE:=fun σ H Q=>ta σ H fun x H1=>r x H1 Q
noncomputable def rI (C:Int→Int→Prop) (g:Int→Int→V):R2:=fun x y H Q=>∃ i j,x=.int i∧y=.int j∧C i j∧Q (g i j) H
noncomputable def rI0 (g:Int→Int→V):R2:=fun x y H Q=>∃ i j,x=.int i∧y=.int j∧Q (g i j) H
noncomputable def rU (g:Int→V):V→Hp→VK→Prop:=fun x H Q=>∃ i,x=.int i∧Q (g i) H
section
variable {X:Cx} {a b c:Expr} {ta tb tc:TE} {pos:Pos}
theorem binT (ha:PE X a ta) (hb:PE X b tb) {pins:List (Addr×Obj)} {s:Shared} {σ:St} {H:Hp} {R:V→V→Hp→Prop} (I:Inv X pins σ H s)
  (h:ta σ H fun x H1=>tb σ H1 fun y H2=>R x y H2) {Q:Value→Shared→Prop} {f:Value→Value→Sem Value}
  (hf:∀ v u s2 x y H2,Inv X pins σ H2 s2→RelV x v→RelV y u→R x y H2→wpAny (model X.prog X.w) X.A (f v u) Q X.xe s2) :
  wpAny (model X.prog X.w) X.A (eval a X.env) (fun v s₁=>wpAny (model X.prog X.w) X.A (eval b X.env) (fun u s₂=>wpAny (model X.prog X.w) X.A (f v u) Q X.xe s₂) X.xe s₁) X.xe s:=by
 refine thn (ha pins s σ H _ I h) fun v s1 ⟨x,H1,I1,r1,q1⟩=>?_
 refine thn (hb pins s1 σ H1 _ I1 q1) fun u s2 ⟨y,H2,I2,r2,q2⟩=>?_
 exact hf v u s2 x y H2 I2 r1 r2 q2
theorem pe_op {op:Operator} {r:R2} (ho:OpR X (binaryOp op) r) (ha:PE X a ta) (hb:PE X b tb):PE X (.BinOp a op b pos) (tOp r ta tb):=by
 intro pins s σ H Q I h
 exact wpAny_BinOp (binT ha hb I h fun v u s2 x y H2 I2 rx ry q=>ho pins s2 σ H2 x y v u Q I2 rx ry q)
theorem pe_un {op:UnaryOp} {r:V→Hp→VK→Prop} (ho:UnR X (unaryOp op) r) (ha:PE X a ta):PE X (.UnaryOp op a pos) (tUn r ta):=by
 intro pins s σ H Q I h
 exact UnaryOp_ (thn (ha pins s σ H _ I h) fun v s1 ⟨x,H1,I1,r1,q1⟩=>ho pins s1 σ H1 x v Q I1 r1 q1)
theorem opI {f:Value→Value→Sem Value} {C:Int→Int→Prop} {g:Int→Int→Int}
  (rule:∀ (i j:Int) (t u:Tok) (s:Shared) (Q:Value→Shared→Prop) (E:Value→Shared→Prop),C i j→Q (.int (g i j) s.toks) { s with toks:=s.toks+1 }→wpAny (model X.prog X.w) X.A (f (.int i t) (.int j u)) Q E s) :
  OpR X f (rI C fun i j=>.int (g i j)):=by
 intro pins s σ H x y v u Q I rx ry h
 obtain⟨i,j,rfl,rfl,hc,q⟩:=h
 obtain⟨t,rfl⟩:=rx
 obtain⟨t',rfl⟩:=ry
 exact rule i j t t' s _ _ hc ⟨.int (g i j),H,I.tok _,⟨_,rfl⟩,q⟩
theorem opI0 {f:Value→Value→Sem Value} {g:Int→Int→Int}
  (rule:∀ (i j:Int) (t u:Tok) (s:Shared) (Q:Value→Shared→Prop) (E:Value→Shared→Prop),Q (.int (g i j) s.toks) { s with toks:=s.toks+1 }→wpAny (model X.prog X.w) X.A (f (.int i t) (.int j u)) Q E s) :
  OpR X f (rI0 fun i j=>.int (g i j)):=by
 intro pins s σ H x y v u Q I rx ry h
 obtain⟨i,j,rfl,rfl,q⟩:=h
 obtain⟨t,rfl⟩:=rx
 obtain⟨t',rfl⟩:=ry
 exact rule i j t t' s _ _ ⟨.int (g i j),H,I.tok _,⟨_,rfl⟩,q⟩
theorem opB0 {f:Value→Value→Sem Value} {g:Int→Int→Bool}
  (rule:∀ (i j:Int) (t u:Tok) (s:Shared) (Q:Value→Shared→Prop) (E:Value→Shared→Prop),Q (.bool (g i j)) s→wpAny (model X.prog X.w) X.A (f (.int i t) (.int j u)) Q E s) :
  OpR X f (rI0 fun i j=>.bl (g i j)):=by
 intro pins s σ H x y v u Q I rx ry h
 obtain⟨i,j,rfl,rfl,q⟩:=h
 obtain⟨t,rfl⟩:=rx
 obtain⟨t',rfl⟩:=ry
 exact rule i j t t' s _ _ ⟨.bl (g i j),H,I,rfl,q⟩
noncomputable def CDiv (i j:Int):Prop:=0 < j∧j < 1073741824
noncomputable def CMul (i j:Int):Prop:=(-(2 ^ 64) < i∧i < 2 ^ 64)∨(-(2 ^ 64) < j∧j < 2 ^ 64)
theorem CMul.ok {i j:Int} (h:CMul i j):IntMulOk i j:=by
 rcases h with ⟨h1,h2⟩ | ⟨h1,h2⟩
 ·exact .of_left (intBits_le_64 h1 h2)
 ·exact .of_right (intBits_le_64 h1 h2)
theorem op_add:OpR X (binaryOp .Add) (rI0 fun i j=>.int (i+j)):=opI0 fun _ _ _ _ _ _ _ q=>add_int q
theorem op_sub:OpR X (binaryOp .Sub) (rI0 fun i j=>.int (i - j)):=opI0 fun _ _ _ _ _ _ _ q=>sub_int q
theorem op_mul:OpR X (binaryOp .Mult) (rI CMul fun i j=>.int (i*j)):=opI fun _ _ _ _ _ _ _ hc q=>mul_int q hc.ok
theorem op_fdiv:OpR X (binaryOp .FloorDiv) (rI CDiv fun i j=>.int (i / j)):=opI fun i j _ _ _ _ _ hc q=>by
 have h1:(0:Int) < j:=hc.1
 have h2:j < 1073741824:=hc.2
 exact floordiv_int (by omega) (by rw[Int.fdiv_eq_ediv_of_nonneg i (by omega)];exact q) (.inl (PyProof.noPylong_small (by omega)))
theorem op_mod:OpR X (binaryOp .Mod) (rI (fun _ j=>0 < j) fun i j=>.int (i % j)):=opI fun i j _ _ _ _ _ hc q=>by
 have h1:(0:Int) < j:=hc
 exact mod_int' (by omega) (by rw[Int.fmod_eq_emod_of_nonneg i (by omega)];exact q)
theorem unI {f:Value→Sem Value} {g:Int→Int}
  (rule:∀ (i:Int) (t:Tok) (s:Shared) (Q:Value→Shared→Prop) (E:Value→Shared→Prop),Q (.int (g i) s.toks) { s with toks:=s.toks+1 }→wpAny (model X.prog X.w) X.A (f (.int i t)) Q E s) :
  UnR X f (rU fun i=>.int (g i)):=by
 intro pins s σ H x v Q I rx h
 obtain⟨i,rfl,q⟩:=h
 obtain⟨t,rfl⟩:=rx
 exact rule i t s _ _ ⟨.int (g i),H,I.tok _,⟨_,rfl⟩,q⟩
theorem un_neg:UnR X (unaryOp .USub) (rU fun i=>.int (-i)):=unI fun _ _ _ _ _ q=>neg_int q
end
noncomputable def scal:V→V→Bool
 | .non,.non=>true | .non,.int _=>true | .int _,.non=>true | .non,.bl _=>true | .bl _,.non=>true | .non,.str _=>true | .str _,.non=>true
 | .int _,.int _=>true | .bl _,.bl _=>true | .str _,.str _=>true | .byt _,.byt _=>true
 | .int _,.str _=>true | .str _,.int _=>true | .bl _,.str _=>true | .str _,.bl _=>true
 | _,_=>false
noncomputable def rEq:R2:=fun x y H Q=>scal x y=true∧Q (.bl (decide (x=y))) H
noncomputable def rNe:R2:=fun x y H Q=>scal x y=true∧Q (.bl (!decide (x=y))) H
theorem dec_int {i j:Int}:decide (V.int i=V.int j)=(i == j):=by
 rw[Bool.eq_iff_iff]
 simp
theorem dec_bl {i j:Bool}:decide (V.bl i=V.bl j)=(i == j):=by
 rw[Bool.eq_iff_iff]
 simp
theorem dec_str {i j:Str}:decide (V.str i=V.str j)=(i == j):=by
 rw[Bool.eq_iff_iff]
 simp
theorem dec_byt {i j:Array UInt8}:decide (V.byt i=V.byt j)=(i.toList == j.toList):=by
 rw[Bool.eq_iff_iff]
 cases i
 cases j
 simp
section
variable {X:Cx} {a b c:Expr} {ta tb tc:TE} {pos:Pos}
theorem fin_bl {pins:List (Addr×Obj)} {σ:St} {H:Hp} {s:Shared} {Q:VK} {k k':Bool} (I:Inv X pins σ H s) (q:Q (.bl k) H) (e:k=k'):EP X pins σ Q (.bool k') s:=by
 subst e
 exact⟨.bl k,H,I,rfl,q⟩
theorem op_eq:OpR X (compareOp .Eq) rEq:=by
 intro pins s σ H x y v u Q I rx ry h
 obtain⟨hs,q⟩:=h
 cases x with
 | non =>
  cases rx
  cases y with
  | non=>cases ry;exact PySem.EqNone.eq_none_none (fin_bl I q (by simp))
  | bl j=>cases ry;exact PySem.EqNone.eq_none_bool (fin_bl I q (by simp))
  | int j=>obtain⟨t',rfl⟩:=ry;exact PySem.EqNone.eq_none_int (fin_bl I q (by simp))
  | str j=>obtain⟨t',rfl⟩:=ry;exact PySem.EqNone.eq_none_str (fin_bl I q (by simp))
  | _=>exact absurd (show false=true from hs) Bool.false_ne_true
 | bl i =>
  cases rx
  cases y with
  | non=>cases ry;exact PySem.EqNone.eq_bool_none (fin_bl I q (by simp))
  | bl j=>cases ry;exact eq_bool (fin_bl I q dec_bl)
  | str j=>obtain⟨t',rfl⟩:=ry;exact PySem.EqMixed.eq_bool_str (fin_bl I q (by simp))
  | _=>exact absurd (show false=true from hs) Bool.false_ne_true
 | int i =>
  obtain⟨t,rfl⟩:=rx
  cases y with
  | non=>cases ry;exact PySem.EqNone.eq_int_none (fin_bl I q (by simp))
  | int j=>obtain⟨t',rfl⟩:=ry;exact eq_int (fin_bl I q dec_int)
  | str j=>obtain⟨t',rfl⟩:=ry;exact PySem.EqMixed.eq_int_str (fin_bl I q (by simp))
  | _=>exact absurd (show false=true from hs) Bool.false_ne_true
 | str i =>
  obtain⟨t,rfl⟩:=rx
  cases y with
  | non=>cases ry;exact PySem.EqNone.eq_str_none (fin_bl I q (by simp))
  | bl j=>cases ry;exact PySem.EqMixed.eq_str_bool (fin_bl I q (by simp))
  | int j=>obtain⟨t',rfl⟩:=ry;exact PySem.EqMixed.eq_str_int (fin_bl I q (by simp))
  | str j=>obtain⟨t',rfl⟩:=ry;exact eq_str (fin_bl I q dec_str)
  | _=>exact absurd (show false=true from hs) Bool.false_ne_true
 | byt i =>
  obtain⟨t,rfl⟩:=rx
  cases y with
  | byt j=>obtain⟨t',rfl⟩:=ry;exact PySem.W.eq_bytes (fin_bl I q dec_byt)
  | _=>exact absurd (show false=true from hs) Bool.false_ne_true
 | _=>cases y<;>exact absurd (show false=true from hs) Bool.false_ne_true
theorem op_ne:OpR X (compareOp .NotEq) rNe:=by
 intro pins s σ H x y v u Q I rx ry h
 obtain⟨hs,q⟩:=h
 cases x with
 | non =>
  cases rx
  cases y with
  | non=>cases ry;exact PySem.EqNone.ne_none_none (fin_bl I q (by simp))
  | bl j=>cases ry;exact PySem.EqNone.ne_none_bool (fin_bl I q (by simp))
  | int j=>obtain⟨t',rfl⟩:=ry;exact PySem.EqNone.ne_none_int (fin_bl I q (by simp))
  | str j=>obtain⟨t',rfl⟩:=ry;exact PySem.EqNone.ne_none_str (fin_bl I q (by simp))
  | _=>exact absurd (show false=true from hs) Bool.false_ne_true
 | bl i =>
  cases rx
  cases y with
  | non=>cases ry;exact PySem.EqNone.ne_bool_none (fin_bl I q (by simp))
  | bl j=>cases ry;exact ne_bool (fin_bl I q (congrArg not dec_bl))
  | str j=>obtain⟨t',rfl⟩:=ry;exact PySem.EqMixed.ne_bool_str (fin_bl I q (by simp))
  | _=>exact absurd (show false=true from hs) Bool.false_ne_true
 | int i =>
  obtain⟨t,rfl⟩:=rx
  cases y with
  | non=>cases ry;exact PySem.EqNone.ne_int_none (fin_bl I q (by simp))
  | int j=>obtain⟨t',rfl⟩:=ry;exact ne_int (fin_bl I q (congrArg not dec_int))
  | str j=>obtain⟨t',rfl⟩:=ry;exact PySem.EqMixed.ne_int_str (fin_bl I q (by simp))
  | _=>exact absurd (show false=true from hs) Bool.false_ne_true
 | str i =>
  obtain⟨t,rfl⟩:=rx
  cases y with
  | non=>cases ry;exact PySem.EqNone.ne_str_none (fin_bl I q (by simp))
  | bl j=>cases ry;exact PySem.EqMixed.ne_str_bool (fin_bl I q (by simp))
  | int j=>obtain⟨t',rfl⟩:=ry;exact PySem.EqMixed.ne_str_int (fin_bl I q (by simp))
  | str j=>obtain⟨t',rfl⟩:=ry;exact ne_str (fin_bl I q (congrArg not dec_str))
  | _=>exact absurd (show false=true from hs) Bool.false_ne_true
 | byt i =>
  obtain⟨t,rfl⟩:=rx
  cases y with
  | byt j=>obtain⟨t',rfl⟩:=ry;exact PySem.W.ne_bytes (fin_bl I q (congrArg not dec_byt))
  | _=>exact absurd (show false=true from hs) Bool.false_ne_true
 | _=>cases y<;>exact absurd (show false=true from hs) Bool.false_ne_true
theorem op_lt:OpR X (compareOp .Lt) (rI0 fun i j=>.bl (decide (i < j))):=opB0 fun _ _ _ _ _ _ _ q=>lt_int q
theorem op_gt:OpR X (compareOp .Gt) (rI0 fun i j=>.bl (decide (j < i))):=opB0 fun _ _ _ _ _ _ _ q=>gt_int q
theorem op_ge:OpR X (compareOp .GtE) (rI0 fun i j=>.bl (decide (j≤i))):=opB0 fun _ _ _ _ _ _ _ q=>ge_int q
theorem op_lt_str:OpR X (compareOp .Lt) (fun x y H Q=>∃ i j,x=.str i∧y=.str j∧Q (.bl (decide (i.cps.toList < j.cps.toList))) H):=by
 intro pins s σ H x y v u Q I rx ry h
 obtain⟨i,j,rfl,rfl,q⟩:=h
 obtain⟨t,rfl⟩:=rx
 obtain⟨t',rfl⟩:=ry
 exact lt_str (fin_bl I q rfl)
theorem op_isN:OpR X (compareOp .Is) (fun x y H Q=>y=.non∧Q (.bl (decide (x=.non))) H):=by
 intro pins s σ H x y v u Q I rx ry h
 obtain⟨rfl,q⟩:=h
 cases ry
 refine is_none_gen (fin_bl I q ?_)
 cases x<;>first
  | (cases rx;rfl)
  | (obtain⟨t,rfl⟩:=rx;rfl)
theorem op_notN:OpR X (compareOp .IsNot) (fun x y H Q=>y=.non∧Q (.bl (!decide (x=.non))) H):=by
 intro pins s σ H x y v u Q I rx ry h
 obtain⟨rfl,q⟩:=h
 cases ry
 refine isnot_none_gen (fin_bl I q ?_)
 cases x<;>first
  | (cases rx;rfl)
  | (obtain⟨t,rfl⟩:=rx;rfl)
theorem nomark (b:Expr) {op:CmpOp} (h:op≠.In:=by decide) (h2:op≠.NotIn:=by decide):behindInMarks op b=false:=by
 have e1:(op == CmpOp.In)=false:=by cases op<;>first | rfl | exact absurd rfl h
 have e2:(op == CmpOp.NotIn)=false:=by cases op<;>first | rfl | exact absurd rfl h2
 cases b<;>simp[behindInMarks,e1,e2]
theorem pe_cmpR {op:CmpOp} {r:R2} (ho:OpR X (compareOp op) r) (ha:PE X a ta) (hb:PE X b tb) (hm:behindInMarks op b=false):PE X (.Compare a [op] [b] pos) (tOp r ta tb):=by
 intro pins s σ H Q I h
 exact wpAny_Compare1 (binT ha hb I h fun v u s2 x y H2 I2 rx ry q=>ho pins s2 σ H2 x y v u Q I2 rx ry q) hm
noncomputable def tTest (t:TE):TT:=fun σ H Q=>t σ H fun x H'=>∃ k,x=.bl k∧Q k H'
theorem pt_cmpR {op:CmpOp} {r:R2} (ho:OpR X (compareOp op) r) (ha:PE X a ta) (hb:PE X b tb) (hm:behindInMarks op b=false):PT X (.Compare a [op] [b] pos) (tTest (tOp r ta tb)):=by
 intro pins s σ H Q I h
 refine wpAny_isTrue_Compare1 (thn (ha pins s σ H _ I h) fun v s1 ⟨x,H1,I1,r1,q1⟩=>thn (hb pins s1 σ H1 _ I1 q1) fun u s2 ⟨y,H2,I2,r2,q2⟩ =>
  thn (ho pins s2 σ H2 x y v u _ I2 r1 r2 q2) fun c s3 ⟨z,H3,I3,r3,k,e,q3⟩=>?_) hm
 subst e
 cases r3
 exact wpAny_truthy_bool ⟨H3,I3,q3⟩
noncomputable def TruV (K:PySem.W.Frag) (x:V) (H:Hp) (k:Bool):Prop :=
 match x with
 | .non=>k=false
 | .bl b=>k=b
 | .int i=>k=(i != 0)
 | .str y=>y.length≤sizeLine∧k=((y.length:Int) != 0)
 | .byt y=>y.size≤sizeLine∧k=((y.size:Int) != 0)
 | .ref p=>(∃ xs,SqL K H p xs∧k=!xs.isEmpty)∨(∃ xs,SqT K H p xs∧k=!xs.isEmpty)∨∃ kvs,H p=some (.dK kvs)∧k=!kvs.isEmpty
 | _=>False
theorem isEmpty_kv {κ:Type} {kvs:List (κ×V)} {vs:List (κ×Value)} (r:KV kvs vs):(!vs.isEmpty)=!kvs.isEmpty:=by
 cases r<;>rfl
theorem isEmpty_of {xs:List V} {its:List Value} (r:Vals xs its):(!its.toArray.isEmpty)=!xs.isEmpty:=by
 cases r<;>simp
theorem line63:(sizeLine:Nat) < 2 ^ 63:=by rw[sizeLine_eq];decide
theorem tru_ok:TruR X (fun x H Q=>∃ k,TruV X.K x H k∧Q k H):=by
 intro pins s σ H x v Q I rx h
 obtain⟨k,e,q⟩:=h
 have hl:=line63
 have hs:sizeLine=16777216:=sizeLine_eq
 cases x with
 | non =>
  cases rx
  have e':k=false:=e
  subst e'
  exact truthy_none ⟨H,I,q⟩
 | bl b =>
  cases rx
  have e':k=b:=e
  subst e'
  exact wpAny_truthy_bool ⟨H,I,q⟩
 | int i =>
  obtain⟨t,rfl⟩:=rx
  have e':k=(i != 0):=e
  subst e'
  exact PySem.P.truthy_int ⟨H,I,q⟩
 | str y =>
  obtain⟨t,rfl⟩:=rx
  obtain⟨hy,e'⟩:y.length≤sizeLine∧k=((y.length:Int) != 0):=e
  subst e'
  exact PySem.P.truthy_str (by omega) ⟨H,I.tok _,q⟩
 | byt y =>
  obtain⟨t,rfl⟩:=rx
  obtain⟨hy,e'⟩:y.size≤sizeLine∧k=((y.size:Int) != 0):=e
  subst e'
  exact PySem.W.truthy_bytes (by omega) ⟨H,I.tok _,q⟩
 | ref p =>
  cases rx
  have e':(∃ xs,SqL X.K H p xs∧k=!xs.isEmpty)∨(∃ xs,SqT X.K H p xs∧k=!xs.isEmpty)∨∃ kvs,H p=some (.dK kvs)∧k=!kvs.isEmpty:=e
  rcases e' with ⟨xs,hx,e'⟩ | ⟨xs,hx,e'⟩ | ⟨kvs,hx,e'⟩
  ·subst e'
   obtain⟨its,r,pl,hz⟩:=I.list hx
   have hlen:=r.length
   exact wpAny_truthy_list pl.isList (by simp only[List.size_toArray];omega) ⟨H,I.tok _,by rw[isEmpty_of r];exact q⟩
  ·subst e'
   obtain⟨its,r,pl,hz⟩:=I.tuple hx
   have hlen:=r.length
   exact truthy_tuple pl (by simp only[List.size_toArray];omega) ⟨H,I.tok _,by rw[isEmpty_of r];exact q⟩
  ·subst e'
   obtain⟨hz,hS,vs,r,m⟩:kvs.length≤sizeLine∧(p == sysModules)=false∧∃ vs,KV kvs vs∧s.heap.DictOf (mixKind X.prog X.w) p vs:=I.hok p _ hx
   have hlen:kvs.length=vs.length:=Paired.length r
   exact wpAny_truthy_dict hS m (by omega) ⟨H,I.tok _,by rw[isEmpty_kv r];exact q⟩
 | _=>exact (show False from e).elim
theorem pt_truth (ha:PE X a ta) (he:∀ whole,isTrue a X.env whole=(do let v ← whole;standAt a.pos;holding [v] (truthy v))) :
  PT X a (fun σ H Q=>ta σ H fun x H'=>∃ k,TruV X.K x H' k∧Q k H'):=by
 intro pins s σ H Q I h
 exact isTrue_plain (thn (ha pins s σ H _ I h) fun v s1 ⟨x,H1,I1,r1,q1⟩=>tru_ok pins s1 σ H1 x v Q I1 r1 q1) (he _)
theorem op_add_str:OpR X (binaryOp .Add) (fun x y H Q=>∃ i j,x=.str i∧y=.str j∧i.length+j.length≤sizeLine∧Q (.str (i++j)) H):=by
 intro pins s σ H x y v u Q I rx ry h
 obtain⟨i,j,rfl,rfl,hz,q⟩:=h
 obtain⟨t,rfl⟩:=rx
 obtain⟨t',rfl⟩:=ry
 exact add_str (fun t' tk=>⟨.str (i++j),H,I.tok _,⟨_,rfl⟩,q⟩) hz
theorem vals1 {x:V} {us:List Value} (r:Vals [x] us):∃ u,us=[u]∧RelV x u:=by
 cases r with
 | cons r1 r2=>cases r2;exact⟨_,rfl,r1⟩
theorem vals2 {x y:V} {us:List Value} (r:Vals [x,y] us):∃ u w',us=[u,w']∧RelV x u∧RelV y w':=by
 cases r with
 | cons r1 r2 =>
  cases r2 with
  | cons r3 r4=>cases r4;exact⟨_,_,rfl,r1,r3⟩
theorem call_min2 (hc:X.calm=true):CallR X (.builtin "min") (fun xs H Q=>∃ i j,xs=[.int i,.int j]∧Q (.int (if j < i then j else i)) H):=by
 intro pins s σ H xs us Q I r h
 obtain⟨i,j,rfl,q⟩:=h
 obtain⟨u,w',rfl,⟨t,rfl⟩,⟨t',rfl⟩⟩:=vals2 r
 refine min_two_ints (I.ok.hd hc) fun h' tk k=>⟨_,H,I.kept k,?_,q⟩
 by_cases hj:j < i
 ·rw[if_pos hj,if_pos hj];exact⟨_,rfl⟩
 ·rw[if_neg hj,if_neg hj];exact⟨_,rfl⟩
theorem call_int1:CallR X (.type "int") (fun xs H Q=>(∃ i,xs=[.int i]∧Q (.int i) H)∨∃ k,xs=[.bl k]∧Q (.int (if k then 1 else 0)) H):=by
 intro pins s σ H xs us Q I r h
 rcases h with ⟨i,rfl,q⟩ | ⟨k,rfl,q⟩
 ·obtain⟨u,rfl,t,rfl⟩:=vals1 r
  exact call_int_int ⟨.int i,H,I,⟨_,rfl⟩,q⟩
 ·obtain⟨u,rfl,r1⟩:=vals1 r
  cases r1
  exact call_int_bool ⟨.int (if k then 1 else 0),H,I.tok _,⟨_,rfl⟩,q⟩
end
end L2
namespace L2
open PySem PySem.Spec PyProof.Rows
structure ObjM (h:Heap) (x dx C:Addr) (mA:Str→Option Value):Prop where
 obj:h.get? x=some (PySem.W.instObj C dx)
 ns:h.Ns1 dx mA
 ne:dx≠x
theorem lookIn_ns {h:Heap} {dx:Addr} {mA:Str→Option Value} (n:h.Ns1 dx mA):∃ od,h.get? dx=some od∧∀ name,PySem.W.lookIn name od=some (mA name):=by
 obtain⟨o,es,ep,ho,hd,hk,_,hm⟩:=n
 refine⟨o,ho,fun name=>?_⟩
 have e:=hm name
 unfold nsFind findBy at e
 rw[← Array.find?_toList] at e
 unfold PySem.W.lookIn
 rw[hd]
 dsimp only
 split
 ·rename_i y q
  rw[q] at e
  exact congrArg some e
 ·rename_i q
  rw[q] at e
  have a:es.toList.any (·.refKey)=false:=by
   rw[List.any_eq_false]
   intro y hy
   obtain⟨z,t,hkey⟩:=hk y (Array.mem_toList_iff.mp hy)
   simp[DictEntry.refKey,hkey]
  have a':¬ es.toList.any (·.refKey)=true:=by rw[a];exact Bool.false_ne_true
  rw[if_neg a']
  exact congrArg some e
theorem ObjM.look {h:Heap} {x dx C:Addr} {mA:Str→Option Value} (I:ObjM h x dx C mA):∃ od,PySem.W.InstAt h x (PySem.W.instObj C dx) C (some od)∧∀ name,PySem.W.lookIn name od=some (mA name) :=
 let ⟨od,ho,hl⟩:=lookIn_ns I.ns
 ⟨od,⟨I.obj,rfl,rfl,ho⟩,hl⟩
theorem RelO.some_of {v:V} {o:Option Value} (r:RelO (some v) o):∃ u,o=some u∧RelV v u:=by
 cases o with
 | none=>exact (show False from r).elim
 | some u=>exact⟨u,rfl,r⟩
section
variable {P:Program} {w:World} {H H':Hp} {h h':Heap} {a C dx:Addr} {fs fs':List (Str×V)}
theorem ins_get (hok:HOk P w H h) (e:H a=some (.ins C dx fs)):∃ mA,ObjM h a dx C mA∧(∀ f,RelO (fs.lookup f) (mA f))∧PySem.Within mA (fs.map (·.1))∧fs.length≤1000∧H dx=some (.own a):=by
 obtain⟨d,z,ne,ob,mA,n,r,q⟩:=(show ObjOk P w H h a (.ins C dx fs) from hok a _ e)
 exact⟨mA,⟨ob,n,ne⟩,r,q,z,d⟩
end
structure Cls (K:PySem.W.Frag) (C:Addr):Prop where
 pg:PySem.W.plainGet K C Str.empty=true
 hd:PySem.W.hasDictIn K C=true
 po:PySem.W.plainOver K C=true
 sa:PySem.W.findIn K (.ref C) "__setattr__"=some (some (.builtin "object.__setattr__"))
theorem Cls.get {K:PySem.W.Frag} {C:Addr} (c:Cls K C) (f:Str):PySem.W.plainGet K C f=true:=c.pg
section
variable {X:Cx} {pins:List (Addr×Obj)} {σ:St} {H:Hp} {s:Shared} {A:Around} {E:Value→Shared→Prop} {Q:Value→Shared→Prop} {c:Value} {b:Bool}
inductive TyOf (K:PySem.W.Frag) (H:Hp):V→Value→Prop where
 | non:TyOf K H .non (.type "NoneType")
 | bl (x:Bool):TyOf K H (.bl x) (.type "bool")
 | int (i:Int):TyOf K H (.int i) (.type "int")
 | str (x:Str):TyOf K H (.str x) (.type "str")
 | flt (x:UInt64):TyOf K H (.flt x) (.type "float")
 | lst {a:Addr} {xs:List V} (e:H a=some (.lst xs)):TyOf K H (.ref a) (.type "list")
 | frz {a:Addr} {o:Obj} {xs:List V} (e:H a=some (.frz o (.lst xs))):TyOf K H (.ref a) (.type "list")
 | tup {a:Addr} {xs:List V} (e:H a=some (.tup xs)):TyOf K H (.ref a) (.type "tuple")
 | dK {a:Addr} {kvs:List (Key×V)} (e:H a=some (.dK kvs)):TyOf K H (.ref a) (.type "dict")
 | dT {a:Addr} {kvs:List (List Key×V)} (e:H a=some (.dT kvs)):TyOf K H (.ref a) (.type "dict")
 | ins {a C dx:Addr} {fs:List (Str×V)} (e:H a=some (.ins C dx fs)) (cl:Cls K C) (ha:PySem.W.findIn K (.ref C) "__class__"=some (some (.builtin "object.__class__")))
   (hn:PySem.W.specialIn K (.builtin "object.__class__") "__get__"=some (some (.builtin "getset_descriptor.__get__"))) (htk:PySem.W.takesIn K (.builtin "object.__class__")=some true)
   (hm:PySem.W.mroIn K C (.type "object")=some true):TyOf K H (.ref a) (.ref C)
theorem isinst_ok {x:V} {u t:Value} (I:Inv X pins σ H s) (rx:RelV x u) (ty:TyOf X.K H x t) (e:PySem.W.kitOne X.K t c=some b) (h:∀ tk,Q (.bool b) { s with toks:=tk }) :
  wpAny (model X.prog X.w) A (call (.builtin "isinstance") [u,c]) Q E s:=by
 cases ty with
 | non=>cases (show u=Value.none from rx);exact PySem.W.kia_one PySem.W.kitx_none I.kIn True.intro e (fun z=>nomatch z) h
 | bl y=>cases (show u=Value.bool y from rx);exact PySem.W.kia_one PySem.W.kitx_bool I.kIn True.intro e (fun z=>nomatch z) h
 | int i=>obtain⟨t,q⟩:=(show ∃ t,u=Value.int i t from rx);cases q;exact PySem.W.kia_one PySem.W.kitx_int I.kIn True.intro e (fun z=>nomatch z) h
 | str y=>obtain⟨t,q⟩:=(show ∃ t,u=Value.str y t from rx);cases q;exact PySem.W.kia_one PySem.W.kitx_str I.kIn True.intro e (fun z=>nomatch z) h
 | flt y=>obtain⟨t,q⟩:=(show ∃ t,u=Value.float y t from rx);cases q;exact PySem.W.kia_one PySem.W.kitx_float I.kIn True.intro e (fun z=>nomatch z) h
 | @lst a xs ea =>
  cases (show u=Value.ref a from rx)
  obtain⟨_,_,n,_,h1⟩:=(show ObjOk X.prog X.w H s.heap a (.lst xs) from I.hok a _ ea)
  exact PySem.W.kia_one PySem.W.kitx_list I.kIn ⟨_,h1,rfl⟩ e (fun z=>nomatch z) h
 | @frz a ob xs ea =>
  cases (show u=Value.ref a from rx)
  obtain⟨_,_,_,n,_,h1⟩:=(show ObjOk X.prog X.w H s.heap a (.frz ob (.lst xs)) from I.hok a _ ea)
  exact PySem.W.kia_one PySem.W.kitx_list I.kIn ⟨_,h1,rfl⟩ e (fun z=>nomatch z) h
 | @tup a xs ea =>
  cases (show u=Value.ref a from rx)
  obtain⟨_,_,_,p⟩:=(show ObjOk X.prog X.w H s.heap a (.tup xs) from I.hok a _ ea)
  obtain⟨o,h1,h2,_⟩:=p
  exact PySem.W.kia_one PySem.W.kitx_tuple I.kIn ⟨o,h1,h2⟩ e (fun z=>nomatch z) h
 | @dK a kvs ea =>
  cases (show u=Value.ref a from rx)
  obtain⟨_,_,vs,_,p⟩:=(show ObjOk X.prog X.w H s.heap a (.dK kvs) from I.hok a _ ea)
  obtain⟨o,es,ep,h1,h2,_⟩:=p
  exact PySem.W.kia_one PySem.W.kitx_dict I.kIn ⟨o,h1,h2.1⟩ e (fun z=>nomatch z) h
 | @dT a kvs ea =>
  cases (show u=Value.ref a from rx)
  obtain⟨_,_,xs,_,o,es,ep,h1,h2,_⟩:=(show ObjOk X.prog X.w H s.heap a (.dT kvs) from I.hok a _ ea)
  exact PySem.W.kia_one PySem.W.kitx_dict I.kIn ⟨o,h1,h2.1⟩ e (fun z=>nomatch z) h
 | @ins a C dx fs ea cl ha hn htk hm =>
  cases (show u=Value.ref a from rx)
  obtain⟨mA,O,_⟩:=ins_get I.hok ea
  obtain⟨od,J,_⟩:=O.look
  exact PySem.W.kia_one (PySem.W.kitx_own (cl.get _) cl.hd ha hn htk hm) I.kIn J e (fun z=>nomatch z) h
end
end L2
namespace L2
open PySem PySem.Spec PyProof.Rows
structure Room (k:Nat) (A:Around):Prop where
 hd:A.handled=none
 dp:A.depth+3*k+5 < recursionLimit
 un:A.units+16*k+200 < cLine
theorem Room.mono {j k:Nat} {A:Around} (r:Room k A) (h:j≤k):Room j A:=⟨r.hd,by have:=r.dp;omega,by have:=r.un;omega⟩
theorem Room.deeper {k:Nat} {A:Around} (r:Room (k+1) A) (env:Env):Room k (A.deeper env) :=
 ⟨r.hd,by have:=r.dp;show A.depth+1+3*k+5 < _;omega,by have:=r.un;show A.units+3+16*k+200 < _;omega⟩
theorem Room.depth {k:Nat} {A:Around} (r:Room k A):A.depth < recursionLimit:=by have:=r.dp;omega
theorem Room.units {k:Nat} {A:Around} (r:Room k A):A.units+64 < cLine:=by have:=r.un;omega
noncomputable def tNil:TA:=fun _ H Q=>Q [] H
noncomputable def tCons (ta:TE) (tr:TA):TA:=fun σ H Q=>ta σ H fun x H1=>tr σ H1 fun xs H2=>Q (x :: xs) H2
section
variable {X:Cx} {e:Expr} {es:List Expr} {te:TE} {t:TA} {pos:Pos}
theorem pa_nil:PA X [] tNil:=fun _ _ _ _ H Q I h=>Calls.spliced_nil ⟨[],H,I,.nil,h⟩
theorem pa_cons (ha:PE X e te) (hr:PA X es t) (hs:starEach (e :: es) X.env=(false,eval e X.env) :: starEach es X.env:=by rfl):PA X (e :: es) (tCons te t):=by
 intro pos pins s σ H Q I h
 rw[hs]
 show wpAny _ _ (spliced ((false,eval e X.env) :: backTo pos (starEach es X.env))) _ _ s
 refine Calls.spliced_cons (thn (ha pins s σ H _ I h) fun u s1 ⟨x,H1,I1,r1,q1⟩=>?_)
 exact thn (hr pos pins s1 σ H1 _ I1 q1) fun us s2 ⟨xs,H2,I2,r2,q2⟩=>⟨x :: xs,H2,I2,.cons r1 r2,q2⟩
noncomputable def tTup (t:TA):TE:=fun σ H Q=>t σ H fun xs H1=>xs.length≤sizeLine∧∀ p,H1 p=none→Q (.ref p) (upd H1 p (.tup xs))
noncomputable def tLst (t:TA):TE:=fun σ H Q=>t σ H fun xs H1=>xs.length≤sizeLine∧∀ p,H1 p=none→Q (.ref p) (upd H1 p (.lst xs))
theorem pe_tup {x1} (h:PA X es t):PE X (.Tuple es x1 pos) (tTup t):=by
 intro pins s σ H Q I hq
 refine wpAny_Tuple_spliced (thn (h pos pins s σ H _ I hq) fun us s1 ⟨xs,H1,I1,r,z,q⟩=>⟨by rw[← r.length];exact z,?_⟩)
 have hf:H1 s1.heap.objs.size=none:=I1.hok.fresh (Nat.le_refl _)
 refine⟨.ref s1.heap.objs.size,upd H1 s1.heap.objs.size (.tup xs),I1.laid (t':=s1.toks) (fun b u e=>Heap.get?_push_of_some _ e) (Nat.le_refl _) ?_,rfl,q _ hf⟩
 exact⟨z,us,r,⟨_,Heap.get?_push_size _ rfl,rfl,_,rfl⟩⟩
theorem pe_lst (h:PA X es t):PE X (.List es pos) (tLst t):=by
 intro pins s σ H Q I hq
 refine wpAny_List_spliced (thn (h pos pins s σ H _ I hq) fun us s1 ⟨xs,H1,I1,r,z,q⟩=>⟨by rw[← r.length];exact z,?_⟩)
 have hf:H1 s1.heap.objs.size=none:=I1.hok.fresh (Nat.le_refl _)
 refine⟨.ref s1.heap.objs.size,upd H1 s1.heap.objs.size (.lst xs),I1.laid (t':=s1.toks) (fun b u e=>Heap.get?_push_of_some _ e) (Nat.le_refl _) ?_,rfl,q _ hf⟩
 exact⟨z,us,0,r,Heap.get?_push_size _ rfl⟩
end
noncomputable abbrev Sp:=List V→Hp→VK→XK→Prop
noncomputable abbrev CXT:=List Env→Hp→Shared→XK→Value→Shared→Prop
structure Env0 (P:Program) (w:World) (K:PySem.W.Frag) (mg:Str→Option Value) (base:Heap) (A:Around) (outer:List Env) (s:Shared) (H:Hp):Prop where
 frames:A.frames=some outer
 mod:Mod K mg base
 bs:∀ b o,base.get? b=some o→s.heap.get? b=some o∧H b=none
 bsz:base.objs.size≤s.heap.objs.size
 funs:s.heap.FunFrames base outer
 frf:∀ b∈frs outer,H b=none
 hok:HOk P w H s.heap
 bare:AllBare s.gens
noncomputable def CE (outer:List Env) (P:Program) (w:World) (H:Hp) (s:Shared) (Q:VK) (u:Value) (s':Shared):Prop :=
 ∃ v H',s'.os=s.os∧AllBare s'.gens∧Un (frs outer) [] H H' s.heap s'.heap∧HOk P w H' s'.heap∧RelV v u∧Q v H'
noncomputable def CR (CX:CXT) (outer:List Env) (P:Program) (w:World) (H:Hp) (s:Shared) (Q:VK) (E:XK) (r:Result) (s':Shared):Prop :=
 match r with
 | .ok (.ret u)=>CE outer P w H s Q u s'
 | .ok _=>False
 | .error e=>CX outer H s E e s'
structure FnOk (P:Program) (w:World) (K:PySem.W.Frag) (mg:Str→Option Value) (base:Heap) (CX:CXT) (k:Nat) (f:Addr) (fd:FuncData) (ps:List Str) (sp:Sp):Prop where
 len:∀ vs H Q E,sp vs H Q E→vs.length=ps.length
 run:∀ (A:Around) (outer:List Env) (s:Shared) (H:Hp) (args:Args) (us:List Value) (vs:List V) (Q:VK) (E:XK),Room k A→Env0 P w K mg base A outer s H→BindsTo s fd args (ps.zip us)→Vals vs us→sp vs H Q E →
  codeAny (model P w) A (.call (.ref f) args) (CR CX outer P w H s Q E) s
theorem FnOk.mono {P:Program} {w:World} {K:PySem.W.Frag} {mg:Str→Option Value} {base:Heap} {CX:CXT} {j k:Nat} {f:Addr} {fd:FuncData} {ps:List Str} {sp:Sp} (F:FnOk P w K mg base CX j f fd ps sp) (h:j≤k) :
  FnOk P w K mg base CX k f fd ps sp:=⟨F.len,fun A outer s H args us vs Q E hr=>F.run A outer s H args us vs Q E (hr.mono h)⟩
section
variable {X:Cx} {pins:List (Addr×Obj)} {σ:St} {H:Hp} {s s':Shared}
theorem Inv.env0 (I:Inv X pins σ H s):Env0 X.prog X.w X.K X.mg X.base X.A X.stack s H :=
 ⟨I.ok.frames,I.ok.mod,I.bs,Nat.le_trans I.ok.bsz I.sz,I.stack,I.stkFree,I.hok,I.bare⟩
theorem Inv.after {Q:VK} {u:Value} (I:Inv X pins σ H s) (h:CE X.stack X.prog X.w H s Q u s'):EP X pins σ Q u s':=by
 obtain⟨v,H',os,bare,un,hok,r,q⟩:=h
 obtain⟨hh,g,d,t,os'⟩:=s'
 obtain rfl:os'=s.os:=os
 exact⟨v,H',I.call (h':=hh) (g':=g) (d':=d) (t':=t) (ch:=[]) un hok bare (fun b z=>absurd z (by simp)),r,q⟩
end
noncomputable def tCall (sp:Sp) (dvs:List V) (E:XK) (t:TA):TE:=fun σ H Q=>t σ H fun vs H1=>sp (vs++dvs) H1 Q E
noncomputable def Binds (K:PySem.W.Frag) (fd:FuncData) (ps:List Str) (ds:List Value):Prop :=
 ∀ (s:Shared) (us:List Value),K.In s.heap→(us++ds).length=ps.length→BindsTo s fd ⟨us,[]⟩ (ps.zip (us++ds))
theorem Binds.all {K:PySem.W.Frag} {fd:FuncData} {ps:List Str} (h:∀ us:List Value,us.length=ps.length→bindArgs fd ⟨us,[]⟩=pure (ps.zip us)):Binds K fd ps []:=fun s us _ hl=>by
 rw[List.append_nil] at hl ⊢
 exact .of_eq (h us hl)
noncomputable def Passes (CX:CXT) (X:Cx) (E:XK):Prop:=∀ (pins:List (Addr×Obj)) (σ:St) (H:Hp) (s:Shared) (e:Value) (s':Shared),Inv X pins σ H s→CX X.stack H s E e s'→X.xe e s'
section
variable {X:Cx} {CX:CXT} {k:Nat} {f C:Addr} {fd:FuncData} {ps:List Str} {sp:Sp} {dvs:List V} {ds:List Value} {E:XK} {x m:Str} {p pos apos:Pos} {e o:Expr} {es:List Expr} {ta:TE} {t:TA}
theorem run_fn {pins:List (Addr×Obj)} {σ:St} {H:Hp} {s:Shared} {Q:VK} {us:List Value} {vs:List V} (F:FnOk X.prog X.w X.K X.mg X.base CX k f fd ps sp) (hr:Room k X.A) (hb:Binds X.K fd ps ds) (hd:Vals dvs ds) (hx:Passes CX X E)
  (I:Inv X pins σ H s) (r:Vals vs us) (h:sp (vs++dvs) H Q E):wpAny (model X.prog X.w) X.A (call (.ref f) us) (EP X pins σ Q) X.xe s:=by
 have r2:Vals (vs++dvs) (us++ds):=r.append hd
 have hl:(us++ds).length=ps.length:=by rw[← r2.length];exact F.len _ _ _ _ h
 refine wpAny_call (codeAny_mono (F.run X.A X.stack s H ⟨us,[]⟩ (us++ds) (vs++dvs) Q E hr I.env0 (hb s us I.kIn hl) r2 h) fun r s' hq=>?_)
 cases r with
 | error e=>exact hx pins σ H s e s' I hq
 | ok fl =>
  cases fl with
  | ret u=>exact I.after hq
  | next=>exact False.elim hq
  | brk=>exact False.elim hq
  | cont=>exact False.elim hq
theorem pe_call (F:FnOk X.prog X.w X.K X.mg X.base CX k f fd ps sp) (hr:Room k X.A) (hg:Gl X x) (hm:X.mg x=some (.ref f)) (hk:PySem.W.keepIn X.K (.ref f)=true) (hb:Binds X.K fd ps ds) (hd:Vals dvs ds) (hx:Passes CX X E)
  (ha:PA X (e :: es) t) (hdb:(x == ("__debug__":Str))=false:=by decide) (he:starEach (e :: es) X.env=(false,eval e X.env) :: starEach es X.env:=by rfl) (hpl:(backTo pos (starEach es X.env)).any (·.1)=false:=by rfl) :
  PE X (.Call (.Name x p) (e :: es) [] pos) (tCall sp dvs E t):=by
 intro pins s σ H Q I h
 refine wpAny_Call_Name_kw (ld_glob I hg hm ?_ hdb)
 refine PySem.W.callWith_K (h₀:=X.base) I.ok.mod.kin hk (thn (ha pos pins s σ H _ I h) fun us s1 ⟨vs,H1,I1,r,q⟩=>⟨I1.kIn,?_⟩) he hpl
 exact run_fn F hr hb hd hx I1 r q
end
structure FnScope (N P:List Str) (sc:Scope):Prop where
 kind:sc.kind=.function
 co:sc.isCoroutine=false
 gen:sc.isGenerator=false
 nd:N.Nodup
 pre:N.take P.length=P
 par:∀ x∈P,sc.names.lookup x=some .local∨sc.names.lookup x=some .cell
 nofree:∀ y∈sc.names,y.2≠.free
theorem bindL_out {kindOf:Str→Option NameKind} {x:Str}:∀ {binds:List (Str×Value)} {m:Str→Option Value},(∀ v,(x,v) ∉ binds)→bindL kindOf binds m x=m x
 | [],_,_=>rfl
 | (n,v) :: r,m,h=>by
  unfold bindL
  rw[bindL_out fun w hw=>h w (List.mem_cons_of_mem _ hw)]
  split
  ·have:x≠n:=by rintro rfl;exact h v List.mem_cons_self
   simp[this]
  ·rfl
theorem bindC_out {kindOf:Str→Option NameKind} {x:Str}:∀ {binds:List (Str×Value)} {m:Str→Option Value},(∀ v,(x,v) ∉ binds)→bindC kindOf binds m x=m x
 | [],_,_=>rfl
 | (n,v) :: r,m,h=>by
  unfold bindC
  rw[bindC_out fun w hw=>h w (List.mem_cons_of_mem _ hw)]
  split
  ·rfl
  ·have:x≠n:=by rintro rfl;exact h v List.mem_cons_self
   simp[this]
theorem bindL_get {kindOf:Str→Option NameKind} {x:Str} {v:Value}:∀ {P:List Str} {vs:List Value} {i:Nat} {m:Str→Option Value},P.Nodup→P[i]?=some x→vs[i]?=some v→kindOf x=some .local →
  bindL kindOf (P.zip vs) m x=some v
 | [],_,_,_,_,h,_,_=>by simp at h
 | _ :: _,[],_,_,_,_,h,_=>by simp at h
 | p :: P,w :: vs,0,m,nd,h1,h2,hk=>by
  simp at h1 h2;subst h1;subst h2
  show bindL kindOf ((p,w) :: P.zip vs) m p=_
  unfold bindL
  rw[bindL_out fun v hv=>(List.nodup_cons.mp nd).1 (List.of_mem_zip hv).1,if_pos hk]
  simp
 | p :: P,w :: vs,i+1,m,nd,h1,h2,hk=>by
  show bindL kindOf ((p,w) :: P.zip vs) m x=_
  unfold bindL
  exact bindL_get (i:=i) (List.nodup_cons.mp nd).2 (by simpa using h1) (by simpa using h2) hk
theorem bindC_get {kindOf:Str→Option NameKind} {x:Str} {v:Value}:∀ {P:List Str} {vs:List Value} {i:Nat} {m:Str→Option Value},P.Nodup→P[i]?=some x→vs[i]?=some v→kindOf x≠some .local →
  bindC kindOf (P.zip vs) m x=some v
 | [],_,_,_,_,h,_,_=>by simp at h
 | _ :: _,[],_,_,_,_,h,_=>by simp at h
 | p :: P,w :: vs,0,m,nd,h1,h2,hk=>by
  simp at h1 h2;subst h1;subst h2
  show bindC kindOf ((p,w) :: P.zip vs) m p=_
  unfold bindC
  rw[bindC_out fun v hv=>(List.nodup_cons.mp nd).1 (List.of_mem_zip hv).1,if_neg hk]
  simp
 | p :: P,w :: vs,i+1,m,nd,h1,h2,hk=>by
  show bindC kindOf ((p,w) :: P.zip vs) m x=_
  unfold bindC
  exact bindC_get (i:=i) (List.nodup_cons.mp nd).2 (by simpa using h1) (by simpa using h2) hk
noncomputable def start (N:List Str) (vs:List V):St:=vs.map some++List.replicate (N.length - vs.length) none
noncomputable def cxOf (CX:CXT) (P:Program) (w:World) (K:PySem.W.Frag) (mg:Str→Option Value) (base:Heap) (N:List Str) (qual:Str) (scope:Scope) (f:Addr) (cd:Value) (A:Around) (outer:List Env) (s:Shared) (H:Hp) (E:XK):Cx where
 prog:=P
 w:=w
 K:=K
 mg:=mg
 base:=base
 A:=A.deeper (envOfC qual scope s.heap.objs.size f cd)
 N:=N
 s₀:=s
 H₀:=H
 env:=envOfC qual scope s.heap.objs.size f cd
 outer:=outer
 stack:=envOfC qual scope s.heap.objs.size f cd :: outer
 ex:=[]
 calm:=true
 fn:=fun _=>true
 pn:=[]
 xe:=fun e s'=>wpAny (model P w) (A.deeper (envOfC qual scope s.heap.objs.size f cd)) (leaving (envOfC qual scope s.heap.objs.size f cd) e) (fun _ s''=>CX outer H s E e s'') (fun e' s''=>CX outer H s E e' s'') s'
theorem cell_has {sc:Scope} {n:Nat} {x:Str} (h:sc.names.lookup x=some .cell):∃ c,(cellsFrom n sc.names []).lookup x=some c:=by
 have q:=PySem.W.cellsFrom_some sc.names n [] (.inl h)
 exact Option.isSome_iff_exists.mp q
theorem inv_start {CX:CXT} {P:Program} {w:World} {K:PySem.W.Frag} {mg:Str→Option Value} {base:Heap} {N ps:List Str} {qual:Str} {scope:Scope} {f:Addr} {cd:Value} {A:Around} {outer:List Env} {s s1:Shared} {H:Hp} {E:XK} {us:List Value} {vs:List V}
  (S:FnScope N ps scope) (hd:A.handled=none) (e0:Env0 P w K mg base A outer s H) (hl:vs.length=ps.length) (r:Vals vs us)
  (x:InCallC s s.heap.objs.size (bindL (envOfC qual scope s.heap.objs.size f cd).kindOf (ps.zip us) fun _=>none) (cellsFrom (s.heap.objs.size+1) scope.names []) (bindC (envOfC qual scope s.heap.objs.size f cd).kindOf (ps.zip us) fun _=>none) s1) :
  Inv (cxOf CX P w K mg base N qual scope f cd A outer s H E) [] (start N vs) H s1:=by
 have hpl:ps.length≤N.length:=by have:=congrArg List.length S.pre;rw[List.length_take] at this;omega
 obtain⟨h1,tk,rfl,hk⟩:=x.done
 have noA:∀ b:Addr,b ∉ (cxOf CX P w K mg base N qual scope f cd A outer s H E).ex:=fun b z=>absurd (show b∈([]:List Addr) from z) (by simp)
 refine⟨⟨e0.mod,S.kind,rfl,rfl,Nat.le_refl _,fun y z c h1 h2=>?_,fun y hy=>?_,fun y c _ h=>?_,fun _=>hd,Around.frames_deeper e0.frames,.inr ⟨rfl,rfl⟩,fun b z=>absurd z (noA b),e0.bs,e0.bsz,fun b _ _=>noA b,fun b z=>absurd z (noA b),e0.funs,e0.frf⟩,
  rfl,e0.bare,Un.kept hk,⟨_,x.toInCall.ns,fun i y v h1 h2 h3=>?_⟩,fun y c h=>⟨_,x.cell y c h⟩,e0.hok.fresh (Nat.le_refl _),fun y c h=>?_,fun p hp=>absurd (show p∈([]:List (Addr×Obj)) from hp) (by simp),e0.hok.kept hk,?_⟩
 ·exact name_of_addr x.apart (PySem.mem_of_lookup h1) (PySem.mem_of_lookup h2)
 ·have hy:scope.names.lookup y=some .cell∨scope.names.lookup y=some .free:=hy
  rcases hy with hy | hy
  ·exact cell_has hy
  ·exact absurd rfl (S.nofree _ (PySem.mem_of_lookup hy))
 ·exact Nat.le_of_lt (x.above y c (PySem.mem_of_lookup h))
 ·have hi:i < vs.length:=by
   unfold start at h2
   by_cases hi:i < vs.length
   ·exact hi
   ·rw[List.getElem?_append_right (by simpa using hi)] at h2
    rw[List.getElem?_replicate] at h2
    split at h2<;>cases h2
  have ha:vs[i]?=some v:=by
   unfold start at h2
   rw[List.getElem?_append_left (by simpa using hi),List.getElem?_map] at h2
   cases e:vs[i]? with
   | none=>rw[e] at h2;cases h2
   | some a=>rw[e] at h2;cases h2;rfl
  obtain⟨u,hu,rv⟩:=r.get ha
  have hp:ps[i]?=some y:=by
   rw[← S.pre,List.getElem?_take_of_lt (by omega)];exact h1
  have ndP:ps.Nodup:=by rw[← S.pre];exact S.nd.sublist (List.take_sublist _ _)
  refine⟨u,rv,?_⟩
  rcases S.par y (List.mem_of_getElem? hp) with k | k
  ·exact .inl ⟨k,bindL_get ndP hp hu k⟩
  ·obtain⟨c,e⟩:=cell_has (n:=s.heap.objs.size+1) k
   refine .inr ⟨.inl k,c,e,?_⟩
   have q:=x.cell y c e
   rw[bindC_get ndP hp hu (by show scope.names.lookup y≠_;rw[k];decide)] at q
   exact q
 ·exact e0.hok.fresh (Nat.le_of_lt (x.above y c (PySem.mem_of_lookup h)))
 ·unfold start
  show _=N.length
  rw[List.length_append,List.length_map,List.length_replicate]
  omega
theorem fn_of {CX:CXT} {P:Program} {w:World} {K:PySem.W.Frag} {mg:Str→Option Value} {base:Heap} {k:Nat} {f:Addr} {name qual:Str} {params:Arguments} {body:List Stmt} {scope:Scope} {dV kV doc pm cdv ct oc:Value} {an od:Option Addr}
  {osl:Array (Option Value)} {N ps:List Str} {sp:Sp} (lk:K.lookup f=some ⟨oc,od,.func (PySem.W.fnOf name qual params body scope dV kV doc pm an cdv ct),osl⟩) (hcd:PySem.W.codeIn K cdv qual=true) (S:FnScope N ps scope)
  (len:∀ vs H Q E,sp vs H Q E→vs.length=ps.length)
  (hbody:∀ (A:Around) (outer:List Env) (s:Shared) (H:Hp) (vs:List V) (Q:VK) (E:XK),Room k (A.deeper (envOfC qual scope s.heap.objs.size f cdv))→sp vs H Q E →
   ∃ t,PSs (cxOf CX P w K mg base N qual scope f cdv A outer s H E) body t∧t { nx:=fun _ H'=>Q .non H',rt:=Q } (start N vs) H) :
  FnOk P w K mg base CX (k+1) f (PySem.W.fnOf name qual params body scope dV kV doc pm an cdv ct) ps sp:=by
 refine⟨len,fun A outer s H args us vs Q E hr e0 hb r hsp=>?_⟩
 have hl:=len _ _ _ _ hsp
 have KX:K.In s.heap:=e0.mod.kin.keeps fun b o e=>(e0.bs b o e).1
 have lim:s.heap.NoLimit:=e0.mod.nolimit.keeps fun b o e=>(e0.bs b o e).1
 have hkind:∀ y∈ps.zip us,scope.names.lookup y.1=some .local∨(scope.names.lookup y.1=some .cell∧((cellsFrom (s.heap.objs.size+1) scope.names []).lookup y.1).isSome=true):=fun⟨n,v⟩ hy=>by
  rcases S.par n (List.of_mem_zip hy).1 with q | q
  ·exact .inl q
  ·exact .inr ⟨q,PySem.W.cellsFrom_some _ _ _ (.inl q)⟩
 refine codeAny_call_function hr.depth (KX _ _ lk) rfl S.co S.gen rfl (PySem.W.codeRec_of KX hcd) (hb _ _ _ _ ?_)
 refine wpAny_newFunctionEnv_cells S.kind hkind fun env he s1 x=>?_
 subst he
 refine⟨lim.keeps x.toInCall.keep,codeAny_func ?_⟩
 obtain⟨t,ht,hq⟩:=hbody A outer s H vs Q E (hr.deeper _) hsp
 have I:Inv (cxOf CX P w K mg base N qual scope f cdv A outer s H E) [] (start N vs) H s1:=inv_start S hr.hd e0 hl r x
 refine wpAny_mono (ht [] s1 (start N vs) H _ I hq) (fun fl s' hs=>?_) fun e s' hs=>hs
 have fin:∀ {σ':St} {H':Hp} {v:V} {u:Value},Inv (cxOf CX P w K mg base N qual scope f cdv A outer s H E) [] σ' H' s'→RelV v u→Q v H'→CE outer P w H s Q u s' :=
  fun {σ' H' v u} J rv q=>⟨v,H',J.os,J.bare,J.base,J.hok,rv,q⟩
 cases fl with
 | ret u =>
  obtain⟨v,σ',H',J,rv,q⟩:=hs
  exact fin J rv q
 | next =>
  obtain⟨σ',H',J,q⟩:=hs
  exact fin (v:=V.non) (u:=Value.none) J rfl q
 | brk =>
  obtain⟨_,_,_,q⟩:=hs
  exact False.elim q
 | cont =>
  obtain⟨_,_,_,q⟩:=hs
  exact False.elim q
end L2
namespace L2
open PySem PySem.Spec PyProof.Rows
section
variable {X:Cx} {x:Str} {p pos:Pos} {e:Expr} {es:List Expr} {t:TA} {id T:String} {r:List V→Hp→VK→Prop}
noncomputable def tCB (r:List V→Hp→VK→Prop) (t:TA):TE:=fun σ H Q=>t σ H fun vs H1=>r vs H1 Q
theorem pe_callB (hc:CallR X (.builtin id) r) (hg:Gl X x) (hm:X.mg x=none) (hv:bootBuiltins x=some (.builtin id)) (ha:PA X (e :: es) t) (hn:x≠"__name__":=by decide) (hdb:(x == ("__debug__":Str))=false:=by decide)
  (he:starEach (e :: es) X.env=(false,eval e X.env) :: starEach es X.env:=by rfl) (hpl:(backTo pos (starEach es X.env)).any (·.1)=false:=by rfl):PE X (.Call (.Name x p) (e :: es) [] pos) (tCB r t):=by
 intro pins s σ H Q I h
 refine wpAny_Call_Name_kw (ld_blt I hg hm hv ?_ hn hdb)
 exact PyProof.Rows.callWith_builtin1 (thn (ha pos pins s σ H _ I h) fun us s1 ⟨vs,H1,I1,r1,q1⟩=>hc pins s1 σ H1 vs us Q I1 r1 q1) he hpl
theorem pe_callTy (hc:CallR X (.type T) r) (hg:Gl X x) (hm:X.mg x=none) (hv:bootBuiltins x=some (.type T)) (ha:PA X (e :: es) t) (hn:x≠"__name__":=by decide) (hdb:(x == ("__debug__":Str))=false:=by decide)
  (he:starEach (e :: es) X.env=(false,eval e X.env) :: starEach es X.env:=by rfl) (hpl:(backTo pos (starEach es X.env)).any (·.1)=false:=by rfl):PE X (.Call (.Name x p) (e :: es) [] pos) (tCB r t):=by
 intro pins s σ H Q I h
 refine wpAny_Call_Name_kw (ld_blt I hg hm hv ?_ hn hdb)
 exact PyProof.Rows.callWith_type1 (thn (ha pos pins s σ H _ I h) fun us s1 ⟨vs,H1,I1,r1,q1⟩=>hc pins s1 σ H1 vs us Q I1 r1 q1) he hpl
end
end L2
namespace HT
open PySem PyProof.Rows
section
variable {prog:Program} {w:World} {A:Around} {E:Value→Shared→Prop} {s:Shared}
noncomputable def sIx (n d:Nat):Option Int→Nat
 | none=>d
 | some v=>if v < 0 then (v+(n:Int)).toNat else min v.toNat n
theorem sIx_none (n d:Nat):sIx n d none=d:=rfl
end
end HT
namespace L2
open PySem PySem.Spec PyProof.Rows
noncomputable abbrev TO:=St→Hp→(Option Int→Hp→Prop)→Prop
noncomputable def PO (X:Cx) (e:Option Expr) (t:TO):Prop :=
 ∀ (pins:List (Addr×Obj)) (s:Shared) (σ:St) (H:Hp) (Q:Option Int→Hp→Prop),Inv X pins σ H s→t σ H Q →
  wpAny (model X.prog X.w) X.A (evalPart e X.env) (fun u s'=>∃ o H',Inv X pins σ H' s'∧IsPart u o∧Q o H') X.xe s
noncomputable def tNoPart:TO:=fun _ H Q=>Q none H
noncomputable def tPart (t:TE):TO:=fun σ H Q=>t σ H fun x H1=>∃ i,x=.int i∧Q (some i) H1
section
variable {X:Cx} {e:Expr} {te:TE} {lo hi:Option Expr} {tl th:TO} {pos p2:Pos}
theorem po_none:PO X none tNoPart:=by
 intro pins s σ H Q I h
 rw[evalPart_none]
 exact wpAny_pure ⟨none,H,I,.none,h⟩
theorem po_some (h:PE X e te):PO X (some e) (tPart te):=by
 intro pins s σ H Q I hw
 rw[evalPart_some]
 refine thn (h pins s σ H _ I hw) fun u s1 ⟨x,H1,I1,r1,q1⟩=>?_
 obtain⟨i,rfl,q⟩:=q1
 obtain⟨t,rfl⟩:=r1
 exact⟨some i,H1,I1,.int i t,q⟩
noncomputable def SlR (X:Cx) (r:V→Option Int→Option Int→Hp→VK→Prop):Prop :=
 ∀ (pins:List (Addr×Obj)) (s:Shared) (σ:St) (H:Hp) (x:V) (v vl vu:Value) (lo hi:Option Int) (sl:Addr) (Q:VK),Inv X pins σ H s→RelV x v→s.heap.IsSliceOf sl vl vu .none→IsPart vl lo→IsPart vu hi→r x lo hi H Q →
  ∃ T id,typeLookup (.type T) "__getitem__"=pure (some (.builtin id))∧s.TypeIs v T∧wpAny (model X.prog X.w) X.A (getItem v (.ref sl)) (EP X pins σ Q) X.xe s
noncomputable def tSl (r:V→Option Int→Option Int→Hp→VK→Prop) (te:TE) (tl th:TO):TE:=fun σ H Q=>te σ H fun x H1=>tl σ H1 fun l H2=>th σ H2 fun u H3=>r x l u H3 Q
theorem pe_slice {r:V→Option Int→Option Int→Hp→VK→Prop} (hr:SlR X r) (he:PE X e te) (hl:PO X lo tl) (hu:PO X hi th):PE X (.Subscript e (.Slice lo hi none p2) pos) (tSl r te tl th):=by
 intro pins s σ H Q I h
 refine Subscript_ (thn (he pins s σ H _ I h) fun v s1 ⟨x,H1,I1,r1,q1⟩=>?_)
 refine wpAny_Slice (thn (hl pins s1 σ H1 _ I1 q1) fun vl s2 ⟨l,H2,I2,pl,q2⟩=>thn (hu pins s2 σ H2 _ I2 q2) fun vu s3 ⟨u,H3,I3,pu,q3⟩=>?_)
 rw[evalPart_none]
 refine wpAny_pure ?_
 have I4:Inv X pins σ H3 { s3 with heap:=s3.heap.push { cls:=.type "slice",data:=.fields #[vl,vu,.none] } }:=I3.kept (t':=s3.toks) fun b ob q=>Heap.get?_push_of_some _ q
 obtain⟨T,id,hT,ht,hg⟩:=hr pins { s3 with heap:=s3.heap.push { cls:=.type "slice",data:=.fields #[vl,vu,.none] } } σ H3 x v vl vu l u s3.heap.objs.size Q I4 r1 (Heap.IsSliceOf.new ..) pl pu q3
 show wpAny (model X.prog X.w) X.A (subscriptTail e (.Slice lo hi none p2) v (.ref s3.heap.objs.size)) (EP X pins σ Q) X.xe { s3 with heap:=s3.heap.push { cls:=.type "slice",data:=.fields #[vl,vu,.none] } }
 exact tail_any (ops:=[.ref s3.heap.objs.size,v]) ht hT hg (by with_unfolding_all rfl)
noncomputable def cutV (xs:List V) (lo hi:Option Int):List V:=(xs.drop (HT.sIx xs.length 0 lo)).take (HT.sIx xs.length xs.length hi - HT.sIx xs.length 0 lo)
theorem cutV_length (xs:List V) (lo hi:Option Int):(cutV xs lo hi).length≤xs.length:=by
 unfold cutV
 rw[List.length_take,List.length_drop]
 omega
end
end L2
namespace L2
open PySem PySem.Spec PyProof.Rows
noncomputable def ixN (n:Nat) (i:Int):Option Nat:=if 0≤i then (if i < n then some i.toNat else none) else if -(n:Int)≤i then some (i+n).toNat else none
noncomputable def atI {α:Type} (xs:List α) (i:Int):Option α:=(ixN xs.length i).bind fun j=>xs[j]?
theorem ixN_seq {n:Nat} {i:Int} {j:Nat} (h:ixN n i=some j):seqIndex? i n=some j∧j < n∧-(n:Int)≤i∧i < n:=by
 unfold ixN at h
 by_cases h0:0≤i
 ·rw[if_pos h0] at h
  by_cases h1:i < n
  ·rw[if_pos h1] at h
   have e:i.toNat=j:=Option.some.inj h
   exact⟨by rw[seqIndex_of h0 h1,e],by omega,by omega,h1⟩
  ·rw[if_neg h1] at h;cases h
 ·rw[if_neg h0] at h
  by_cases h1:-(n:Int)≤i
  ·rw[if_pos h1] at h
   have e:(i+n).toNat=j:=Option.some.inj h
   exact⟨by rw[seqIndex_neg (by omega) h1,e],by omega,h1,by omega⟩
  ·rw[if_neg h1] at h;cases h
theorem atI_get {α:Type} {xs:List α} {i:Int} {v:α} (h:atI xs i=some v):∃ j,seqIndex? i xs.length=some j∧xs[j]?=some v∧j < xs.length∧-(xs.length:Int)≤i∧i < xs.length:=by
 unfold atI at h
 cases e:ixN xs.length i with
 | none=>rw[e] at h;cases h
 | some j =>
  rw[e] at h
  obtain⟨h1,h2,h3,h4⟩:=ixN_seq e
  exact⟨j,h1,h,h2,h3,h4⟩
theorem atI_nat {α:Type} {xs:List α} {j:Nat} {v:α} (h:xs[j]?=some v):atI xs (j:Int)=some v:=by
 have hj:j < xs.length:=(List.getElem?_eq_some_iff.mp h).1
 have e:ixN xs.length (j:Int)=some j:=by
  unfold ixN
  rw[if_pos (by omega),if_pos (by omega)];simp
 unfold atI;rw[e];exact h
theorem atI_last {α:Type} (xs:List α) (v:α):atI (xs++[v]) (-1)=some v:=by
 have hl:(xs++[v]).length=xs.length+1:=by simp
 have e:ixN (xs++[v]).length (-1)=some xs.length:=by
  unfold ixN
  rw[hl,if_neg (by decide),if_pos (by omega)]
  congr 1
  omega
 unfold atI
 rw[e]
 show (xs++[v])[xs.length]?=some v
 simp
noncomputable def PlainIx (b:Expr):Prop:=∀ o i,subscripted b false o i=operate [o,i] (getItem o i)
noncomputable def IxR (X:Cx) (r:R2):Prop :=
 ∀ (value slice:Expr) (pins:List (Addr×Obj)) (s:Shared) (σ:St) (H:Hp) (x y:V) (v u:Value) (Q:VK),Inv X pins σ H s→RelV x v→RelV y u→r x y H Q →
  subscripted slice false v u=operate [v,u] (getItem v u)→wpAny (model X.prog X.w) X.A (subscriptTail value slice v u) (EP X pins σ Q) X.xe s
noncomputable def MtR (X:Cx) (id:String) (r:V→List V→Hp→VK→Prop):Prop :=
 ∀ (pins:List (Addr×Obj)) (s:Shared) (σ:St) (H:Hp) (x:V) (xs:List V) (v:Value) (us:List Value) (Q:VK),Inv X pins σ H s→RelV x v→Vals xs us→r x xs H Q →
  wpAny (model X.prog X.w) X.A (call (.builtin id) (v :: us)) (EP X pins σ Q) X.xe s
section
variable {X:Cx} {a b:Expr} {ta tb:TE} {pos:Pos}
theorem pe_ix {r:R2} (hr:IxR X r) (ha:PE X a ta) (hb:PE X b tb) (hs:PlainIx b):PE X (.Subscript a b pos) (tOp r ta tb):=by
 intro pins s σ H Q I h
 exact Subscript_ (binT ha hb I h fun v u s2 x y H2 I2 rx ry q=>hr a b pins s2 σ H2 x y v u Q I2 rx ry q (hs _ _))
noncomputable def rIxL (K:PySem.W.Frag):R2:=fun x y H Q=>∃ p xs i v,x=.ref p∧y=.int i∧SqL K H p xs∧atI xs i=some v∧Q v H
noncomputable def rIxT (K:PySem.W.Frag):R2:=fun x y H Q=>∃ p xs i v,x=.ref p∧y=.int i∧SqT K H p xs∧atI xs i=some v∧Q v H
noncomputable def rIxS:R2:=fun x y H Q=>∃ z i c,x=.str z∧y=.int i∧z.length≤sizeLine∧atI z.cps.toList i=some c∧Q (.str ⟨#[c]⟩) H
theorem ix_list:IxR X (rIxL X.K):=by
 intro value slice pins s σ H x y v u Q I rx ry h hs
 obtain⟨p,xs,i,z,rfl,rfl,hq,he,q⟩:=h
 cases rx
 obtain⟨t,rfl⟩:=ry
 obtain⟨its,r,pl,hz⟩:=I.list hq
 obtain⟨j,h1,h2,h3,h4,h5⟩:=atI_get he
 obtain⟨w,ew,rw'⟩:=r.get h2
 have hl:=r.length
 have hn:=line63
 have fin:EP X pins σ Q w s:=⟨z,H,I,rw',q⟩
 by_cases h0:0≤i
 ·have hj:i.toNat=j:=by
   rw[seqIndex_of h0 h5] at h1
   exact Option.some.inj h1
  exact item_listR pl.isList h0 (by omega) (by rw[hj];simpa using ew) fin hs
 ·have hj:(i+(its.toArray.size:Int)).toNat=j:=by
   rw[seqIndex_neg (by omega) h4] at h1
   rw[List.size_toArray,← hl]
   exact Option.some.inj h1
  exact subscriptTail_builtinR (x:=w) pl.isList.typeIs slot_list_getitem.lookup
   (wpAny_getItem_list_neg (Q:=fun r s'=>r=w∧EP X pins σ Q r s') pl.isList (by omega) (by rw[List.size_toArray]<;>omega) (by omega) (by rw[hj];simpa using ew) ⟨rfl,fin⟩) hs
theorem ix_tup:IxR X (rIxT X.K):=by
 intro value slice pins s σ H x y v u Q I rx ry h hs
 obtain⟨p,xs,i,z,rfl,rfl,hq,he,q⟩:=h
 cases rx
 obtain⟨t,rfl⟩:=ry
 obtain⟨its,r,pl,hz⟩:=I.tuple hq
 obtain⟨j,h1,h2,h3,h4,h5⟩:=atI_get he
 obtain⟨w,ew,rw'⟩:=r.get h2
 have hl:=r.length
 have hn:=line63
 have fin:EP X pins σ Q w s:=⟨z,H,I,rw',q⟩
 exact subscriptTail_builtinR (x:=w) pl.typeIs slot_tuple_getitem.lookup
  (getItem_tuple (j:=j) (Q:=fun r s'=>r=w∧EP X pins σ Q r s') pl (by omega) (by omega) (by rw[List.size_toArray,← hl];exact h1) (by simpa using ew) ⟨rfl,fin⟩) hs
theorem ix_str:IxR X rIxS:=by
 intro value slice pins s σ H x y v u Q I rx ry h hs
 obtain⟨z,i,c,rfl,rfl,hz,he,q⟩:=h
 obtain⟨t,rfl⟩:=rx
 obtain⟨t',rfl⟩:=ry
 obtain⟨j,h1,h2,h3,h4,h5⟩:=atI_get he
 have hl:z.cps.toList.length=z.length:=by simp[Str.length]
 rw[hl] at h1 h4 h5
 have hn:=line63
 exact tail_any (typeIs_str s z t) slot_str_getitem.lookup (getItem_str (c:=c) (by
  have e1:decide (i < -(2 ^ 63:Int))=false:=decide_eq_false (by omega)
  have e2:decide (i ≥ 2 ^ 63)=false:=decide_eq_false (by omega)
  rw[e1,e2,Bool.or_false]) (by rw[h1];simpa using h2) ⟨.str ⟨#[c]⟩,H,I.tok _,⟨_,rfl⟩,q⟩) hs
theorem slice_bounds (lo hi:Option Int) (n:Nat):(sliceBounds lo hi none n).1=((HT.sIx n 0 lo:Nat):Int)∧(sliceBounds lo hi none n).2.1=((HT.sIx n n hi:Nat):Int)∧(sliceBounds lo hi none n).2.2=1:=by
 refine⟨?_,?_,rfl⟩
 ·cases lo with
  | none=>simp[sliceBounds,HT.sIx]
  | some i =>
   simp only[sliceBounds,HT.sIx,Option.getD_none,show (1:Int) > 0 by decide,if_true]
   by_cases h:i < 0
   ·simp only[h,if_true]<;>omega
   ·simp only[h,if_false]<;>omega
 ·cases hi with
  | none=>simp[sliceBounds,HT.sIx]
  | some i =>
   simp only[sliceBounds,HT.sIx,Option.getD_none,show (1:Int) > 0 by decide,if_true]
   by_cases h:i < 0
   ·simp only[h,if_true]<;>omega
   ·simp only[h,if_false]<;>omega
theorem slicePick_cut (its:List Value) (lo hi:Option Int):slicePick its.toArray lo hi none=((its.drop (HT.sIx its.length 0 lo)).take (HT.sIx its.length its.length hi - HT.sIx its.length 0 lo)).toArray:=by
 obtain⟨h1,h2,h3⟩:=slice_bounds lo hi its.toArray.size
 unfold slicePick
 rw[h1,h2,h3]
 simp only[sliceRange_one,pick_run,List.size_toArray]<;>rfl
noncomputable def rSlL (K:PySem.W.Frag):V→Option Int→Option Int→Hp→VK→Prop:=fun x lo hi H Q=>∃ a xs,x=.ref a∧SqL K H a xs∧∀ p,H p=none→Q (.ref p) (upd H p (.lst (cutV xs lo hi)))
theorem sl_list:SlR X (rSlL X.K):=by
 intro pins s σ H x v vl vu lo hi sl Q I rx hs pl pu h
 obtain⟨a,xs,rfl,hx,q⟩:=h
 cases rx
 obtain⟨its,r,ht,hz⟩:=I.list hx
 have hlen:=r.length
 refine⟨"list",_,slot_list_getitem.lookup,ht.isList.typeIs,?_⟩
 refine wpAny_getItem_list_slice ht.isList hs pl pu .none (by simp) ?_ (by rw[List.size_toArray]<;>omega)
 rw[slicePick_cut,← hlen]
 refine⟨.ref s.heap.objs.size,_,I.laid (t':=s.toks) (o:=.lst (cutV xs lo hi)) (fun b ob q=>Heap.get?_push_of_some _ q) (Nat.le_refl _) ?_,rfl,q _ (I.hok.fresh (Nat.le_refl _))⟩
 exact⟨Nat.le_trans (cutV_length xs lo hi) hz,_,0,(r.drop (HT.sIx xs.length 0 lo)).take (HT.sIx xs.length xs.length hi - HT.sIx xs.length 0 lo),Heap.get?_push_size _ rfl⟩
noncomputable def flatV:V→Bool
 | .non=>true
 | .bl _=>true
 | .int _=>true
 | .str _=>true
 | _=>false
noncomputable def eqV:V→V→Bool
 | .non,.non=>true
 | .bl a,.bl b=>a == b
 | .bl a,.int b=>(if a then 1 else 0) == b
 | .int a,.bl b=>a == (if b then 1 else 0)
 | .int a,.int b=>a == b
 | .str a,.str b=>a == b
 | _,_=>false
theorem eqAt_V {A:Around} {s:Shared} {y x:V} {u v:Value} (ry:RelV y u) (rx:RelV x v) (fy:flatV y=true) (fx:flatV x=true):SeqAt.EqAt A s u v (eqV y x):=by
 cases y with
 | non =>
  cases ry
  cases x with
  | non=>cases rx;exact SeqAt.EqAt.same _
  | bl b=>cases rx;exact SeqAt.EqAt.none_bool b
  | int b=>obtain⟨t,rfl⟩:=rx;exact SeqAt.EqAt.none_int b t
  | str b=>obtain⟨t,rfl⟩:=rx;exact SeqAt.EqAt.none_str b t
  | _=>exact absurd (show false=true from fx) Bool.false_ne_true
 | bl a =>
  cases ry
  cases x with
  | non=>cases rx;exact SeqAt.EqAt.bool_none a
  | bl b=>cases rx;exact SeqAt.EqAt.bool_bool a b
  | int b=>obtain⟨t,rfl⟩:=rx;exact SeqAt.EqAt.bool_int a b t
  | str b=>obtain⟨t,rfl⟩:=rx;exact SeqAt.EqAt.bool_str a b t
  | _=>exact absurd (show false=true from fx) Bool.false_ne_true
 | int a =>
  obtain⟨t',rfl⟩:=ry
  cases x with
  | non=>cases rx;exact SeqAt.EqAt.int_none a t'
  | bl b=>cases rx;exact SeqAt.EqAt.int_bool a t' b
  | int b=>obtain⟨t,rfl⟩:=rx;exact SeqAt.EqAt.int_int a t' b t
  | str b=>obtain⟨t,rfl⟩:=rx;exact SeqAt.EqAt.int_str a t' b t
  | _=>exact absurd (show false=true from fx) Bool.false_ne_true
 | str a =>
  obtain⟨t',rfl⟩:=ry
  cases x with
  | non=>cases rx;exact SeqAt.EqAt.str_none a t'
  | bl b=>cases rx;exact SeqAt.EqAt.str_bool a t' b
  | int b=>obtain⟨t,rfl⟩:=rx;exact SeqAt.EqAt.str_int a t' b t
  | str b=>obtain⟨t,rfl⟩:=rx;exact SeqAt.EqAt.str_str a t' b t
  | _=>exact absurd (show false=true from fx) Bool.false_ne_true
 | _=>exact absurd (show false=true from fy) Bool.false_ne_true
noncomputable def eqU (x:V) (u:Value):Bool:=match u with
 | .none=>eqV .non x
 | .bool b=>eqV (.bl b) x
 | .int i _=>eqV (.int i) x
 | .str z _=>eqV (.str z) x
 | _=>false
theorem eqU_of {x y:V} {u:Value} (r:RelV y u) (f:flatV y=true):eqU x u=eqV y x:=by
 cases y with
 | non=>cases r;rfl
 | bl b=>cases r;rfl
 | int i=>obtain⟨t,rfl⟩:=r;rfl
 | str z=>obtain⟨t,rfl⟩:=r;rfl
 | _=>exact absurd (show false=true from f) Bool.false_ne_true
theorem any_eqU {x:V}:∀ {xs:List V} {us:List Value},Vals xs us→xs.all flatV=true→us.any (eqU x)=xs.any fun y=>eqV y x
 | _,_,.nil,_=>rfl
 | y :: xs,u :: us,.cons r t,f=>by
  rw[List.all_cons,Bool.and_eq_true] at f
  rw[List.any_cons,List.any_cons,eqU_of r f.1,any_eqU t f.2]
theorem mem_eqAt {A:Around} {s:Shared} {x:V} {v:Value} (rx:RelV x v) (fx:flatV x=true):∀ {xs:List V} {us:List Value},Vals xs us→xs.all flatV=true→∀ u∈us,SeqAt.EqAt A s u v (eqU x u)
 | _,_,.nil,_=>fun u hu=>by cases hu
 | y :: xs,u :: us,.cons r t,f=>fun u' hu=>by
  rw[List.all_cons,Bool.and_eq_true] at f
  rcases List.mem_cons.mp hu with rfl | hu
  ·rw[eqU_of r f.1];exact eqAt_V r rx f.1 fx
  ·exact mem_eqAt rx fx t f.2 u' hu
noncomputable def inV (x:V) (xs:List V):Bool:=xs.any fun y=>eqV y x
noncomputable def rIn (K:PySem.W.Frag) (neg:Bool):R2:=fun x y H Q=>∃ p xs,y=.ref p∧(SqL K H p xs∨SqT K H p xs)∧flatV x=true∧xs.all flatV=true∧Q (.bl (if neg then !inV x xs else inV x xs)) H
theorem op_in_seq:OpR X (compareOp .In) (rIn X.K false):=by
 intro pins s σ H x y v u Q I rx ry h
 obtain⟨p,xs,rfl,hq,fx,fs,q⟩:=h
 cases ry
 rcases hq with hq | hq
 ·obtain⟨its,r,pl,hz⟩:=I.list hq
  refine SeqAt.in_listAt (eqU x) pl.isList (fun w hw=>mem_eqAt rx fx r fs w (by simpa using hw)) ⟨.bl _,H,I,rfl,?_⟩
  rw[show its.toArray.any (eqU x)=its.any (eqU x) by simp,any_eqU r fs]
  exact q
 ·obtain⟨its,r,pl,hz⟩:=I.tuple hq
  refine SeqAt.in_tupleAt (eqU x) pl (fun w hw=>mem_eqAt rx fx r fs w (by simpa using hw)) ⟨.bl _,H,I,rfl,?_⟩
  rw[show its.toArray.any (eqU x)=its.any (eqU x) by simp,any_eqU r fs]
  exact q
theorem op_notIn_seq:OpR X (compareOp .NotIn) (rIn X.K true):=by
 intro pins s σ H x y v u Q I rx ry h
 obtain⟨p,xs,rfl,hq,fx,fs,q⟩:=h
 cases ry
 rcases hq with hq | hq
 ·obtain⟨its,r,pl,hz⟩:=I.list hq
  refine SeqAt.notIn_listAt (eqU x) pl.isList (fun w hw=>mem_eqAt rx fx r fs w (by simpa using hw)) ⟨.bl _,H,I,rfl,?_⟩
  rw[show its.toArray.any (eqU x)=its.any (eqU x) by simp,any_eqU r fs]
  exact q
 ·obtain⟨its,r,pl,hz⟩:=I.tuple hq
  refine SeqAt.notIn_tupleAt (eqU x) pl (fun w hw=>mem_eqAt rx fx r fs w (by simpa using hw)) ⟨.bl _,H,I,rfl,?_⟩
  rw[show its.toArray.any (eqU x)=its.any (eqU x) by simp,any_eqU r fs]
  exact q
theorem call_len_seq:CallR X (.builtin "len") (fun xs H Q=>∃ p ys,xs=[.ref p]∧(SqL X.K H p ys∨SqT X.K H p ys)∧Q (.int ys.length) H):=by
 intro pins s σ H xs us Q I r h
 obtain⟨p,ys,rfl,hq,q⟩:=h
 obtain⟨u,rfl,rx⟩:=vals1 r
 cases rx
 have hn:=line63
 rcases hq with hq | hq
 ·obtain⟨its,r',pl,hz⟩:=I.list hq
  have hlen:=r'.length
  exact Calls.call_len_list pl.isList (by simp only[List.size_toArray]<;>omega) ⟨.int ys.length,H,I.tok _,⟨s.toks+1,by rw[List.size_toArray,hlen]⟩,q⟩
 ·obtain⟨its,r',pl,hz⟩:=I.tuple hq
  have hlen:=r'.length
  exact len_tuple pl (by simp only[List.size_toArray]<;>omega) ⟨.int ys.length,H,I.tok _,⟨s.toks+1,by rw[List.size_toArray,hlen]⟩,q⟩
theorem call_list_of:CallR X (.type "list") (fun xs H Q=>∃ p ys,xs=[.ref p]∧(SqL X.K H p ys∨SqT X.K H p ys)∧∀ l,H l=none→Q (.ref l) (upd H l (.lst ys))):=by
 intro pins s σ H xs us Q I r h
 obtain⟨p,ys,rfl,hq,q⟩:=h
 obtain⟨u,rfl,rx⟩:=vals1 r
 cases rx
 have fin:∀ (its:List Value),Vals ys its→ys.length≤sizeLine→∀ (h':Heap) (c':Nat),(∀ b o',s.heap.get? b=some o'→h'.get? b=some o') →
   h'.get? s.heap.objs.size=some { cls:=.type "list",dict:=none,data:=.seq its.toArray c',slots:=#[] }→EP X pins σ Q (.ref s.heap.objs.size) { s with heap:=h' }:=fun its r' hz h' c' kp e =>
  ⟨.ref s.heap.objs.size,_,I.laid (t':=s.toks) kp (Nat.le_refl _) (show ObjOk X.prog X.w _ h' _ (.lst ys) from ⟨hz,its,c',r',e⟩),rfl,q _ (I.hok.fresh (Nat.le_refl _))⟩
 rcases hq with hq | hq
 ·obtain⟨its,r',pl,hz⟩:=I.list hq
  have hlen:=r'.length
  obtain⟨o,ho,hc,n,hd⟩:=pl.isList
  exact call_list_seq p (.inl rfl) ho hc hd (fun h' c' kp e=>fin its r' hz h' c' kp e) (by simp only[List.size_toArray]<;>omega)
 ·obtain⟨its,r',pl,hz⟩:=I.tuple hq
  have hlen:=r'.length
  obtain⟨o,ho,hc,n,hd⟩:=pl
  exact call_list_seq p (.inr rfl) ho hc hd (fun h' c' kp e=>fin its r' hz h' c' kp e) (by simp only[List.size_toArray]<;>omega)
theorem call_tuple_of:CallR X (.type "tuple") (fun xs H Q=>∃ p ys,xs=[.ref p]∧((SqL X.K H p ys∧∀ l,H l=none→Q (.ref l) (upd H l (.tup ys)))∨(SqT X.K H p ys∧Q (.ref p) H))):=by
 intro pins s σ H xs us Q I r h
 obtain⟨p,ys,rfl,h⟩:=h
 obtain⟨u,rfl,rx⟩:=vals1 r
 cases rx
 rcases h with ⟨hq,q⟩ | ⟨hq,q⟩
 ·obtain⟨its,r',pl,hz⟩:=I.list hq
  have hlen:=r'.length
  refine call_tuple_list pl.isList (fun h' kp=>?_) (by simp only[List.size_toArray]<;>omega)
  have I1:Inv X pins σ H { s with heap:=h' }:=I.kept (t':=s.toks) kp
  have I2:Inv X pins σ (upd H h'.objs.size (.tup ys)) { s with heap:=h'.push { cls:=.type "tuple",data:=.seq its.toArray } } :=
   I1.laid (t':=s.toks) (fun b o e=>Heap.get?_push_of_some _ e) (Nat.le_refl _) (show ObjOk X.prog X.w _ _ _ (.tup ys) from ⟨hz,its,r',IsTup.new _ _⟩)
  exact⟨.ref h'.objs.size,_,I2,rfl,q _ (I1.hok.fresh (Nat.le_refl _))⟩
 ·obtain⟨its,r',pl,hz⟩:=I.tuple hq
  exact call_tuple_same pl ⟨.ref p,H,I,rfl,q⟩
noncomputable def tyV (K:PySem.W.Frag) (T:String) (x:V) (H:Hp):Prop:=match x with
 | .str _=>T="str"
 | .int _=>T="int"
 | .ref p=>(T="list"∧∃ xs,SqL K H p xs)∨(T="tuple"∧∃ o,K.lookup p=some o∧o.cls=.type "tuple"∧o.dict=none) ∨
   (T="dict"∧((∃ kvs,H p=some (.dK kvs))∨∃ kvs,H p=some (.dT kvs)))∨(T="set"∧∃ S n,H p=some (.set S n))
 | _=>False
theorem tyV_is {pins:List (Addr×Obj)} {σ:St} {H:Hp} {s:Shared} {T:String} {x:V} {v:Value} (I:Inv X pins σ H s) (r:RelV x v) (ty:tyV X.K T x H) :
  s.TypeIs v T∧∀ a,v=.ref a→∃ ob,s.heap.get? a=some ob∧ob.dict=none:=by
 cases x with
 | str z =>
  obtain⟨t,rfl⟩:=r
  cases (show T="str" from ty)
  exact⟨typeIs_str s z t,fun _ e=>nomatch e⟩
 | int i =>
  obtain⟨t,rfl⟩:=r
  cases (show T="int" from ty)
  exact⟨typeIs_int s i t,fun _ e=>nomatch e⟩
 | ref p =>
  cases r
  rcases ty with ⟨rfl,xs,hq⟩ | ⟨rfl,o,hk,hc,hd⟩ | ⟨rfl,hk⟩ | ⟨rfl,S,n,hk⟩
  ·obtain⟨its,_,pl,_⟩:=I.list hq
   refine⟨pl.isList.typeIs,fun a e=>?_⟩
   cases e
   obtain⟨o,n,e,c,hd,_⟩:=pl
   exact⟨o,e,hd⟩
  ·refine⟨⟨o,I.kIn p o hk,hc⟩,fun a e=>?_⟩
   cases e
   exact⟨o,I.kIn _ o hk,hd⟩
  ·have z:∃ o,s.heap.get? p=some o∧o.ExactDict:=by
    rcases hk with ⟨kvs,hk⟩ | ⟨kvs,hk⟩
    ·obtain⟨_,_,_,_,o,_,_,e,ex,_⟩:=I.hok p _ hk
     exact⟨o,e,ex⟩
    ·obtain⟨_,_,_,_,o,_,_,e,ex,_⟩:=I.hok p _ hk
     exact⟨o,e,ex⟩
   obtain⟨o,e,ex⟩:=z
   refine⟨⟨o,e,ex.1⟩,fun a e2=>?_⟩
   cases e2
   exact⟨o,e,ex.2.1⟩
  ·obtain⟨o,_,_,_,e,ex,_⟩:=I.hok p _ hk
   refine⟨⟨o,e,ex.1⟩,fun a e2=>?_⟩
   cases e2
   exact⟨o,e,ex.2.1⟩
 | _=>exact False.elim ty
noncomputable def tBM0 (K:PySem.W.Frag) (T:String) (r:V→List V→Hp→VK→Prop) (to:TE):TE:=fun σ H Q=>to σ H fun x H1=>tyV K T x H1∧r x [] H1 Q
noncomputable def tBM (K:PySem.W.Frag) (T:String) (r:V→List V→Hp→VK→Prop) (to:TE) (t:TA):TE:=fun σ H Q=>to σ H fun x H1=>tyV K T x H1∧t σ H1 fun xs H2=>r x xs H2 Q
variable {o e:Expr} {es:List Expr} {to:TE} {t:TA} {name:Str} {apos cpos:Pos} {T id:String} {r:V→List V→Hp→VK→Prop}
theorem pe_bm0 (pa:PlainAttrs T) (slot:Slot T name id) (hty:typeOf (.builtin id)=pure (.type "method_descriptor")) (hm:MtR X id r) (ho:PE X o to)
  (hbase:attributeBase o name X.env (eval o X.env)=eval o X.env:=by rfl) (hline:(apos.endLine == cpos.line)=true:=by rfl):PE X (.Call (.Attribute o name apos) [] [] cpos) (tBM0 X.K T r to):=by
 intro pins s σ H Q I h
 refine wpAny_Call_method0_late hbase hline (thn (ho pins s σ H _ I h) fun v s1 ⟨x,H1,I1,r1,ty,q1⟩=>?_)
 obtain⟨h1,h2⟩:=tyV_is I1 r1 ty
 exact⟨T,id,pa,slot,hty,h1,h2,Calls.callWith_builtin rfl (PySem.evalArgs_none (hm pins s1 σ H1 x [] v [] Q I1 r1 .nil q1))⟩
theorem pe_bm (pa:PlainAttrs T) (slot:Slot T name id) (hty:typeOf (.builtin id)=pure (.type "method_descriptor")) (hm:MtR X id r) (ho:PE X o to) (ha:PA X (e :: es) t)
  (hbase:attributeBase o name X.env (eval o X.env)=eval o X.env:=by rfl)
  (hfew:((backTo cpos (starEach (e :: es) X.env)).all (fun x=>!x.1)&&(backToKw cpos (keywordEach [] X.env)).all (fun x=>x.1.isSome)
   && decide ((e :: es).length+([]:List Keyword).length+(if ([]:List Keyword).isEmpty then 0 else 1) < 30))=true:=by rfl)
  (hline:(apos.endLine == cpos.line)=true:=by rfl) (hs:starEach (e :: es) X.env=(false,eval e X.env) :: starEach es X.env:=by rfl) (hplain:(backTo cpos (starEach es X.env)).any (·.1)=false:=by rfl) :
  PE X (.Call (.Attribute o name apos) (e :: es) [] cpos) (tBM X.K T r to t):=by
 intro pins s σ H Q I h
 refine wpAny_Call_method_late hbase hfew hline rfl (thn (ho pins s σ H _ I h) fun v s1 ⟨x,H1,I1,r1,ty,q1⟩=>?_)
 obtain⟨h1,h2⟩:=tyV_is I1 r1 ty
 refine⟨T,id,pa,slot,hty,h1,h2,?_⟩
 have hA:=ha cpos pins s1 σ H1 _ I1 q1
 rw[hs] at hA ⊢
 refine Calls.callWith_builtin (by show (false||(backTo cpos (starEach es X.env)).any (·.1))=false;rw[hplain]<;>rfl) (Calls.evalArgs_plain ?_)
 exact thn hA fun us s2 ⟨vs,H2,I2,r2,q2⟩=>hm pins s2 σ H2 x vs v us Q I2 r1 r2 q2
end
end L2
namespace L2
open PySem PySem.Spec PyProof.Rows
noncomputable def MtM (X:Cx) (id:String) (r:V→List V→Hp→VK→Prop):Prop :=
 ∀ (pins:List (Addr×Obj)) (s:Shared) (σ:St) (H:Hp) (x:V) (xs:List V) (v:Value) (us:List Value) (Q:VK),Inv X pins σ H s→RelV x v→Vals xs us→r x xs H Q →
  wpAny (model X.prog X.w) X.A (call (.builtin id) (v :: us)) (EP X pins σ Q) X.xe s
theorem Vals.one:∀ {x:V} {us:List Value},Vals [x] us→∃ u,us=[u]∧RelV x u
 | _,_,.cons r .nil=>⟨_,rfl,r⟩
theorem Vals.zero:∀ {us:List Value},Vals [] us→us=[]
 | _,.nil=>rfl
theorem Vals.dropLast {xs:List V} {us:List Value} (h:Vals xs us):Vals xs.dropLast us.dropLast:=by
 induction h with
 | nil=>exact .nil
 | cons r t ih =>
  cases t with
  | nil=>exact .nil
  | cons q t'=>exact .cons r ih
theorem Vals.reverse {xs:List V} {us:List Value} (h:Vals xs us):Vals xs.reverse us.reverse:=by
 induction h with
 | nil=>exact .nil
 | cons r t ih=>rw[List.reverse_cons,List.reverse_cons];exact Vals.append ih (.cons r .nil)
theorem erase_last {α:Type} (l:List α):l.eraseIdx (l.length - 1)=l.dropLast:=by
 induction l with
 | nil=>rfl
 | cons a r ih =>
  cases r with
  | nil=>rfl
  | cons b r =>
   have e:(a :: b :: r).length - 1=((b :: r).length - 1)+1:=by
    have h1:(a :: b :: r).length=r.length+2:=rfl
    have h2:(b :: r).length=r.length+1:=rfl
    omega
   rw[e,List.eraseIdx_cons_succ,ih]
   all_goals rfl
section
variable {X:Cx} {pins:List (Addr×Obj)} {σ:St} {H:Hp} {s:Shared} {l b:Addr} {xs ys zs:List V}
theorem Inv.lset {its its':List Value} {n:Nat} {f:Array Value→Array Value} {t':Nat} (I:Inv X pins σ H s) (hH:H l=some (.lst xs))
  (e:s.heap.get? l=some { cls:=.type "list",data:=.seq its.toArray n }) (hf:f its.toArray=its'.toArray) (hv:Vals ys its') (hz:ys.length≤sizeLine) :
  Inv X pins σ (upd H l (.lst ys)) { s with heap:=s.heap.update l (Obj.mapSeq f),toks:=t' }:=by
 have q:=PySem.IsL.update e f
 rw[hf] at q
 refine I.write (x:=l) (e:=l) (by rw[hH];exact trivial) (.inl rfl) (fun b' u hb hu=>(Heap.get?_update_other s.heap (Obj.mapSeq f) (Ne.symm hb)).trans hu) ⟨_,q⟩ ?_
 exact⟨hz,its',_,hv,q⟩
theorem Inv.lnew {its:List Value} {t':Nat} (I:Inv X pins σ H s) (hv:Vals ys its) (hz:ys.length≤sizeLine) :
  Inv X pins σ (upd H s.heap.objs.size (.lst ys)) { s with heap:=s.heap.push { cls:=.type "list",data:=.seq its.toArray },toks:=t' } :=
 I.laid (fun _ _ q=>Heap.get?_push_of_some _ q) (Nat.le_refl _) ⟨hz,its,0,hv,Heap.get?_push_size _ rfl⟩
theorem Inv.fresh (I:Inv X pins σ H s):H s.heap.objs.size=none:=I.hok.fresh (Nat.le_refl _)
theorem Inv.lstM (I:Inv X pins σ H s) (hH:H l=some (.lst xs)):xs.length≤sizeLine∧∃ (its:List Value) (n:Nat),Vals xs its∧xs.length=its.length∧s.heap.get? l=some { cls:=.type "list",data:=.seq its.toArray n }:=by
 obtain⟨z,its,n,r,e⟩:=I.hok l _ hH
 exact⟨z,its,n,r,r.length,e⟩
theorem notLongL {n:Nat} (h:n≤sizeLine):Builtin.List.listTooLong n=false:=by
 unfold Builtin.List.listTooLong
 exact decide_eq_false (by omega)
end
section
variable {X:Cx}
noncomputable def rAppend:V→List V→Hp→VK→Prop:=fun x vs H Q=>∃ l xs y,x=.ref l∧vs=[y]∧H l=some (.lst xs)∧xs.length < sizeLine∧Q .non (upd H l (.lst (xs++[y])))
theorem mt_append:MtM X "list.append" rAppend:=by
 intro pins s σ H x vs v us Q I rx rv h
 obtain⟨l,xs,y,rfl,rfl,hH,hz,q⟩:=h
 cases rx
 obtain⟨u,rfl,ru⟩:=rv.one
 obtain⟨z,its,n,r,hl,e⟩:=I.lstM hH
 refine call_meets F.slot_list_append ⟨_,e,rfl⟩ F.entry_list_append (F.args_list_append_2 _ _) (PySem.list_append l its.toArray n u (by rw[List.size_toArray];omega)) ⟨e,?_⟩
 refine⟨.non,_,I.lset (its':=its++[u]) hH e (by simp) (r.append (.cons ru .nil)) ?_,rfl,q⟩
 rw[List.length_append,List.length_singleton]
 omega
noncomputable def rExtend:V→List V→Hp→VK→Prop:=fun x vs H Q=>∃ l b xs zs,x=.ref l∧vs=[.ref b]∧H l=some (.lst xs)∧H b=some (.lst zs)∧xs.length+zs.length≤sizeLine∧Q .non (upd H l (.lst (xs++zs)))
theorem mt_extend:MtM X "list.extend" rExtend:=by
 intro pins s σ H x vs v us Q I rx rv h
 obtain⟨l,b,xs,zs,rfl,rfl,hH,hB,hz,q⟩:=h
 cases rx
 obtain⟨u,rfl,ru⟩:=rv.one
 cases ru
 obtain⟨z,its,n,r,hl,e⟩:=I.lstM hH
 obtain⟨z2,its2,n2,r2,hl2,e2⟩:=I.lstM hB
 have hsz:its.toArray.size+its2.toArray.size≤sizeLine:=by rw[List.size_toArray,List.size_toArray];omega
 have hlong:¬ (!its.toArray.isEmpty&&Builtin.List.listTooLong (its.toArray.size+its2.toArray.size))=true:=by
  rw[notLongL hsz,Bool.and_false]
  exact Bool.false_ne_true
 refine call_meets F.slot_list_extend ⟨_,e,rfl⟩ F.entry_list_extend (F.args_list_extend_2 _ _)
  (AutoSeq1.list_extend_list_list_0 l its.toArray n b its2.toArray n2 hlong (by rw[List.size_toArray];omega) (by omega)) ⟨e,e2,?_⟩
 refine⟨.non,_,I.lset (its':=its++its2) hH e (by simp) (r.append r2) ?_,rfl,q⟩
 rw[List.length_append]
 omega
noncomputable def rPop:V→List V→Hp→VK→Prop:=fun x vs H Q=>∃ l xs y,x=.ref l∧vs=[]∧H l=some (.lst xs)∧xs[xs.length - 1]?=some y∧Q y (upd H l (.lst xs.dropLast))
theorem mt_pop:MtM X "list.pop" rPop:=by
 intro pins s σ H x vs v us Q I rx rv h
 obtain⟨l,xs,y,rfl,rfl,hH,hy,q⟩:=h
 cases rx
 have hus:=rv.zero
 subst hus
 obtain⟨z,its,n,r,hl,e⟩:=I.lstM hH
 obtain⟨u,hu,ru⟩:=r.get hy
 have hy':its.toArray[its.toArray.size - 1]?=some u:=by
  show its.toArray[its.length - 1]?=some u
  rw[← Array.getElem?_toList,← hl]
  exact hu
 refine call_meets F.slot_list_pop ⟨_,e,rfl⟩ F.entry_list_pop (F.args_list_pop_1 _) (MeetsSeq.list_pop_last l its.toArray n u hy' (by rw[List.size_toArray];omega)) ⟨e,?_⟩
 refine⟨y,_,I.lset (its':=its.dropLast) hH e ?_ r.dropLast ?_,ru,q⟩
 ·show its.toArray.eraseIdxIfInBounds (its.toArray.size - 1)=its.dropLast.toArray
  rw[List.size_toArray,List.eraseIdxIfInBounds_toArray,erase_last]
 ·rw[List.length_dropLast]
  omega
noncomputable def rCat:R2:=fun x y H Q=>∃ l b xs zs,x=.ref l∧y=.ref b∧H l=some (.lst xs)∧H b=some (.lst zs)∧xs.length+zs.length≤sizeLine∧∀ p,H p=none→Q (.ref p) (upd H p (.lst (xs++zs)))
theorem op_cat:OpR X (binaryOp .Add) rCat:=by
 intro pins s σ H x y v u Q I rx ry h
 obtain⟨l,b,xs,zs,rfl,rfl,hH,hB,hz,q⟩:=h
 cases rx
 cases ry
 obtain⟨z,its,n,r,hl,e⟩:=I.lstM hH
 obtain⟨z2,its2,n2,r2,hl2,e2⟩:=I.lstM hB
 refine PySem.P.add_list e e2 ?_ (by rw[List.size_toArray,List.size_toArray];omega)
 have ea:its.toArray++its2.toArray=(its++its2).toArray:=by simp
 rw[ea]
 exact⟨.ref _,_,I.lnew (t':=s.toks) (r.append r2) (by rw[List.length_append];omega),rfl,q _ I.fresh⟩
end
end L2
namespace Att
open PySem PySem.W PySem.Calls PyProof.Rows
theorem ints_of_wellAll {P:Params} {h:Heap}:∀ (ns:List Int) (vs:List Value),WellAll P h vs (ns.map WData.int)→IntsAre vs ns:=by
 intro ns
 induction ns with
 | nil =>
  intro vs w
  rw[List.map_nil] at w
  cases w
  exact .nil
 | cons n ns ih =>
  intro vs w
  rw[List.map_cons] at w
  cases w with
  | cons a b =>
   cases a
   exact .cons _ _ (ih _ b)
theorem script_of {l:OpenLaw} {n:Nat} (hn:l.most=some n) {P:Params} {h:Heap} {args:List WData} {vals:List Value}
  (hpre:l.row.toRowW.claim.pre args=true) (hwl:WellAll P h vals args) :
  ∃ a vs ns,vals=[Value.ref a]∧args=[WData.list (ns.map WData.int)]∧h.get? a=some { cls:=.type "list",data:=.seq vs.toArray }∧IntsAre vs ns∧ns.length≤n:=by
 have hsh:WShape.hasAll [] args [.list .int]=true:=(pre_splitW hpre).1
 have hc:l.pre.holds [] { args:=args }=true:=(pre_splitW hpre).2
 obtain⟨d,r,rfl,h1,h2⟩:=hasAllW_cons hsh
 obtain rfl:=hasAllW_nil h2
 obtain⟨xs,rfl,h3⟩:=hasW_list h1
 obtain⟨ns,rfl⟩:=items_int h3
 have hlen:ns.length≤n:=by
  unfold OpenLaw.pre at hc
  have h4:(WTm.not (.lt (.lit (.int (n:Int))) (.len (.arg 0)))).holds [] { args:=[.list (ns.map .int)] }=true:=by
   have h4:=(holds_andW hc).1
   rw[hn] at h4
   exact h4
  have h5:=condW_of h4 (w_not (w_lt w_lit (w_len_list (w_arg rfl))))
  rw[List.length_map] at h5
  refine Nat.le_of_not_lt fun q=>?_
  have q':(n:Int) < ((ns.length:Nat):Int):=by omega
  first
   | (rw[decide_eq_true q'] at h5;exact absurd h5 (by decide))
   | (simp at h5;omega)
 cases hwl with
 | cons w1 w2 =>
  cases w2
  cases w1 with
  | list ho hall=>exact⟨_,_,ns,rfl,rfl,ho,ints_of_wellAll ns _ hall,hlen⟩
theorem post_true (l:OpenLaw) (args:List WData):l.row.toRowW.claim.post args (.bool true) args=true :=
 postW_of (r:=l.row.toRowW) (X:=(true == true))
  (show WShape.has [] (.bool true) .bool=true by first | rfl | decide | simp[WShape.has,WShape.arms,WShape.armsAll])
  (show (WTm.eq .res (.lit (.bool true))).value [] { args:=args,res:=some (.bool true),after:=args }=some (.bool (true == true)) from w_eq_bool (w_res rfl) w_lit) rfl
theorem attach_call {l:OpenLaw} {n:Nat} {q:Program} {loose:List Str} {XP:(Str→Option Value)→Heap→Prop} {YP:World→Heap→Prop} {d:DefRec}
  (hn:l.most=some n) (hdf:d.params.defaults=[])
  (call:∀ (w:World) (s₀ s₁:Shared) (mg mb:Str→Option Value) (fa:Addr) (o:Obj) (pm cd doc:Value) (a:Addr) (vs:List Value) (ns:List Int),
   Ground q loose [] XP w s₀ mg mb s₁.heap→YP w s₁.heap →
   s₁.heap.get? fa=some o→o.data=.func (docDef d.name d.params d.body d.scope pm cd doc)→s₁.heap.CodeRec cd d.name→mg d.name=some (.ref fa) →
   s₁.heap.get? a=some { cls:=.type "list",data:=.seq vs.toArray }→IntsAre vs ns→ns.length≤n→s₁.gens=#[] →
   codeAny (model l.prog w) callerA (.call (.ref fa) ⟨[.ref a],[]⟩) (fun r s'=>r=.ok (.ret (.bool true))∧OldK s₁.heap s'.heap∧s'.os=s₁.os∧AllBare s'.gens) s₁) :
  WalkO q loose XP YP l.row.toRowW d [] (fun f vs=>PySem.call f vs):=by
 intro w s₀ s₁ mg mb G Y fa o pm cd doc dV kV ho hd hcd hD hmg hg args vals as hpre hlay hrd hwl hlo
 obtain rfl:dV=.none:=Dflts.none hD hdf
 obtain rfl:kV=.none:=Dflts.noKw hD
 obtain⟨a,vs,ns,rfl,rfl,hobj,hints,hlen⟩:=script_of hn hpre hwl
 refine enter_call (codeAny_mono (call w s₀ s₁ mg mb fa o pm cd doc a vs ns G Y ho (fd_plain hd) hcd hmg hobj hints hlen hg) fun r s' hq=>?_)
 obtain⟨rfl,h2,h3,h4⟩:=hq
 exact⟨.inl ⟨.bool true,.bool true,[],rfl,fun _=>rfl,.bool true,post_true l _,fun _=>⟨List.Pairwise.nil,fun _ hm=>(nomatch hm)⟩⟩,h2,h3,h4⟩
section
variable {prog:Program} {w:World} {A:Around} {E:Value→Shared→Prop} {s:Shared} {K:Frag}
noncomputable def noObjs (h:Heap):Heap:={ h with objs:=#[] }
theorem noObjs_get (h:Heap) (b:Addr):(noObjs h).get? b=none:=by
 cases e:(noObjs h).get? b with
 | none=>rfl
 | some o=>exact absurd (Heap.lt_size e) (Nat.not_lt_zero _)
noncomputable def ledger (h:Heap) (L d:Addr):List (Addr×Obj):=(List.range h.objs.size).filterMap fun a=>if a=L∨a=d then none else (h.get? a).map fun o=>(a,o)
theorem mem_ledger {h:Heap} {L d a:Addr} {o:Obj}:(a,o)∈ledger h L d↔a≠L∧a≠d∧h.get? a=some o:=by
 unfold ledger
 rw[List.mem_filterMap]
 constructor
 ·rintro⟨b,_,e⟩
  split at e
  ·cases e
  ·rename_i hb
   obtain⟨o',ho,e'⟩:=Option.map_eq_some_iff.mp e
   cases e'
   exact⟨fun q=>hb (.inl q),fun q=>hb (.inr q),ho⟩
 ·rintro⟨n1,n2,ho⟩
  refine⟨a,List.mem_range.mpr (Heap.lt_size ho),?_⟩
  rw[if_neg (show ¬ (a=L∨a=d) from fun q=>q.elim n1 n2),ho]<;>rfl
theorem news_ledger {h:Heap} {L d:Addr} {od:Obj} (hne:d≠L) (ho:h.get? d=some od):News (noObjs h) L h ([]++(d,od) :: ledger h L d):=by
 rintro⟨a,o⟩ hp
 rcases List.mem_cons.mp hp with e | hp
 ·cases e
  exact⟨ho,hne,noObjs_get _ _⟩
 ·obtain⟨n1,n2,e⟩:=mem_ledger.mp hp
  exact⟨e,n1,noObjs_get _ _⟩
theorem fr_all {h:Heap} {L:Addr} {m:Str→Option Value} (n:h.Ns L m):Fr (noObjs h) L h m :=
 ⟨n,fun b o e=>(by rw[noObjs_get] at e;cases e),Nat.zero_le _⟩
end
end Att
namespace L2
open PySem PySem.Spec PyProof.Rows
theorem vals_ints:∀ {vs:List Value} {ns:List Int},IntsAre vs ns→Vals (ns.map V.int) vs
 | _,_,.nil=>.nil
 | _,_,.cons n t h=>.cons ⟨t,rfl⟩ (vals_ints h)
end L2
namespace L2
open PySem PySem.Spec PyProof.Rows
end L2
namespace L2
open PySem PySem.Spec PyProof.Rows
noncomputable def defArgs (s:Stmt):Arguments:=match s with
 | .FunctionDef _ a _ _ _ _ _ _ _ _=>a
 | _=>{ posonlyargs:=[],args:=[],vararg:=none,kwonlyargs:=[],kw_defaults:=[],kwarg:=none,defaults:=[] }
noncomputable def defBody (s:Stmt):List Stmt:=match s with
 | .FunctionDef _ _ b _ _ _ _ _ _ _=>b
 | _=>[]
noncomputable def defScope (s:Stmt):Scope:=match s with
 | .FunctionDef _ _ _ _ _ _ sc _ _ _=>sc
 | _=>{ kind:=.function,names:=[],isGenerator:=false,isCoroutine:=false }
noncomputable abbrev CX0:CXT:=fun _ _ _ _ _ _=>False
noncomputable abbrev E0:XK:=fun _ _ _=>False
theorem pass0 {X:Cx}:Passes CX0 X E0:=fun _ _ _ _ _ _ _ h=>h.elim
structure Fun (K:PySem.W.Frag) (x qual:Str) (st:Stmt) (f:Addr) (fd:FuncData):Prop where
 ex:∃ (oc:Value) (od:Option Addr) (kV doc pm:Value) (an:Option Addr) (cdv ct:Value) (osl:Array (Option Value)),
  fd=PySem.W.fnOf x qual (defArgs st) (defBody st) (defScope st) .none kV doc pm an cdv ct∧K.lookup f=some ⟨oc,od,.func fd,osl⟩∧PySem.W.codeIn K cdv qual=true
 kp:PySem.W.keepIn K (.ref f)=true
section
variable {P:Program} {w:World} {K:PySem.W.Frag} {mg:Str→Option Value} {base:Heap}
theorem Fun.ok {x qual:Str} {st:Stmt} {f:Addr} {fd:FuncData} {N ps:List Str} {k:Nat} {sp:Sp} (F:Fun K x qual st f fd) (S:FnScope N ps (defScope st)) (len:∀ vs H Q E,sp vs H Q E→vs.length=ps.length)
  (hbody:∀ (cdv:Value) (A:Around) (outer:List Env) (s:Shared) (H:Hp) (vs:List V) (Q:VK) (E:XK),Room k (A.deeper (envOfC qual (defScope st) s.heap.objs.size f cdv))→sp vs H Q E →
   ∃ t,PSs (cxOf CX0 P w K mg base N qual (defScope st) f cdv A outer s H E).nox (defBody st) t∧t { nx:=fun _ H'=>Q .non H',rt:=Q } (start N vs) H):FnOk P w K mg base CX0 (k+1) f fd ps sp:=by
 obtain⟨oc,od,kV,doc,pm,an,cdv,ct,osl,rfl,lk,hcd⟩:=F.ex
 refine fn_of lk hcd S len fun A outer s H vs Q E hr hsp=>?_
 obtain⟨t,h,q⟩:=hbody cdv A outer s H vs Q E hr hsp
 exact⟨t,h.nox,q⟩
theorem Fun.binds {x qual:Str} {st:Stmt} {f:Addr} {fd:FuncData} {ps:List Str} (F:Fun K x qual st f fd)
  (h:∀ (kV doc pm:Value) (an:Option Addr) (cdv ct:Value) (us:List Value),us.length=ps.length→bindArgs (PySem.W.fnOf x qual (defArgs st) (defBody st) (defScope st) .none kV doc pm an cdv ct) ⟨us,[]⟩=pure (ps.zip us)):Binds K fd ps []:=by
 obtain⟨oc,od,kV,doc,pm,an,cdv,ct,osl,rfl,lk,hcd⟩:=F.ex
 exact .all (h kV doc pm an cdv ct)
theorem fun_mk {x qual:Str} {st:Stmt} {f:Addr} {oc:Value} {od an:Option Addr} {osl:Array (Option Value)} {kV doc pm cdv ct:Value} (l:K.lookup f=some ⟨oc,od,.func (PySem.W.fnOf x qual (defArgs st) (defBody st) (defScope st) .none kV doc pm an cdv ct),osl⟩)
  (c:PySem.W.codeIn K cdv qual=true) (k:PySem.W.keepIn K (.ref f)=true):Fun K x qual st f (PySem.W.fnOf x qual (defArgs st) (defBody st) (defScope st) .none kV doc pm an cdv ct):=⟨⟨oc,od,kV,doc,pm,an,cdv,ct,osl,rfl,l,c⟩,k⟩
end
theorem hu_of {A:Around} {k:Nat} (hr:Room k A):A.units+1 < cLine:=Nat.lt_of_le_of_lt (Nat.add_le_add_left (by decide:1≤64) _) hr.units
theorem small1000 {n:Nat} (h:n≤1000):n < sizeLine:=Nat.lt_of_le_of_lt h (by decide)
section
variable {X:Cx}
theorem pv (i:Nat) {x:Str} {pos:Pos} (hN:X.N[i]?=some x:=by rfl) (hv:Vis X.env.scope x:=by first | exact Or.inl rfl | exact Or.inr (Or.inl rfl) | exact Or.inr (Or.inr rfl)) (hd:(x == ("__debug__":Str))=false:=by decide)
  (hcd:(x == ("__classdict__":Str))=false:=by decide):PE X (.Name x pos) (tVar i):=pe_var hN hv hd hcd
end
theorem ite2 {c A B:Prop} [Decidable c] (h1:c→A) (h2:¬ c→B):if c then A else B:=by
 by_cases h:c
 ·rw[if_pos h]
  exact h1 h
 ·rw[if_neg h]
  exact h2 h
noncomputable def Same (H H':Hp):Prop:=∀ b o,H b=some o→H' b=some o
theorem Same.refl (H:Hp):Same H H:=fun _ _ h=>h
theorem Same.trans {H H1 H2:Hp} (a:Same H H1) (b:Same H1 H2):Same H H2:=fun c o h=>b c o (a c o h)
theorem Same.free {H H':Hp} (e:Same H H') {l:Addr} (h:H' l=Option.none):H l=Option.none:=by
 cases q:H l with
 | none=>rfl
 | some o =>
  rw[e l o q] at h
  cases h
theorem Same.seq {K:PySem.W.Frag} {H H':Hp} {a:Addr} {xs:List V} (e:Same H H') (h:SqL K H a xs):SqL K H' a xs:=by
 rcases h with (h | ⟨o,h⟩) | h
 ·exact .inl (.inl (e _ _ h))
 ·exact .inl (.inr ⟨o,e _ _ h⟩)
 ·exact .inr h
end L2
namespace L2
open PySem PySem.Spec PyProof.Rows
section
variable {κ:Type} [DecidableEq κ]
noncomputable def valV (kvs:List (κ×V)) (k:κ):Option V:=(kvs.find? fun kv=>decide (kv.1=k)).map (·.2)
noncomputable def putK (kvs:List (κ×V)) (k:κ) (v:V):List (κ×V) :=
 if (kvs.any fun kv=>decide (kv.1=k))=true then kvs.map (fun kv=>if kv.1=k then (kv.1,v) else kv) else kvs++[(k,v)]
theorem valV_pos {p:κ×V} {r:List (κ×V)} {k:κ} (e:p.1=k):valV (p :: r) k=some p.2:=by simp[valV,List.find?_cons,e]
theorem valV_neg {p:κ×V} {r:List (κ×V)} {k:κ} (e:¬ p.1=k):valV (p :: r) k=valV r k:=by simp[valV,List.find?_cons,e]
theorem valV_any (k:κ):∀ kvs:List (κ×V),(kvs.any fun kv=>decide (kv.1=k))=(valV kvs k).isSome
 | []=>rfl
 | p :: r=>by
  rw[List.any_cons]
  by_cases e:p.1=k
  ·simp only[valV_pos e,decide_eq_true e,Bool.true_or,Option.isSome_some]
  ·rw[valV_neg e,decide_eq_false e,Bool.false_or];exact valV_any k r
theorem length_putK (kvs:List (κ×V)) (k:κ) (v:V):(putK kvs k v).length≤kvs.length+1:=by
 unfold putK
 split
 ·rw[List.length_map];omega
 ·rw[List.length_append,List.length_cons,List.length_nil];omega
theorem putK_new {kvs:List (κ×V)} {k:κ} (v:V) (h:valV kvs k=none):putK kvs k v=kvs++[(k,v)]:=by
 unfold putK
 rw[valV_any,h]
 exact if_neg (by decide)
theorem RelO.isSome_eq {o:Option V} {u:Option Value} (r:RelO o u):o.isSome=u.isSome:=by
 cases o with
 | none=>cases u with
  | none=>rfl
  | some _=>exact (show False from r).elim
 | some _=>cases u with
  | none=>exact (show False from r).elim
  | some _=>rfl
theorem KV.val {kvs:List (κ×V)} {vs:List (κ×Value)} (r:KV kvs vs) (k:κ):RelO (valV kvs k) (valueAt vs k):=by
 unfold KV at r
 induction r with
 | nil=>exact True.intro
 | @cons p q ps qs h t ih =>
  obtain⟨h1,h2⟩:=h
  by_cases e:p.1=k
  ·have e':q.1=k:=h1.symm.trans e
   have b:valueAt (q :: qs) k=some q.2:=by simp[valueAt,List.find?_cons,e']
   rw[valV_pos e,b];exact h2
  ·have e':¬ q.1=k:=fun z=>e (h1.trans z)
   have b:valueAt (q :: qs) k=valueAt qs k:=by simp[valueAt,List.find?_cons,e']
   rw[valV_neg e,b];exact ih
theorem KV.any {kvs:List (κ×V)} {vs:List (κ×Value)} (r:KV kvs vs) (k:κ):(kvs.any fun kv=>decide (kv.1=k))=vs.any fun kv=>decide (kv.1=k):=by
 unfold KV at r
 induction r with
 | nil=>rfl
 | cons h t ih=>rw[List.any_cons,List.any_cons,ih,h.1]
theorem KV.repl {kvs:List (κ×V)} {vs:List (κ×Value)} (r:KV kvs vs) (k:κ) {y:V} {u:Value} (ry:RelV y u) :
  KV (kvs.map fun kv=>if kv.1=k then (kv.1,y) else kv) (vs.map fun kv=>if kv.1=k then (kv.1,u) else kv):=by
 unfold KV at r ⊢
 induction r with
 | nil=>exact .nil
 | @cons p q ps qs h t ih =>
  rw[List.map_cons,List.map_cons]
  refine .cons ?_ ih
  obtain⟨h1,h2⟩:=h
  by_cases e:p.1=k
  ·rw[if_pos e,if_pos (h1.symm.trans e)];exact⟨h1,ry⟩
  ·rw[if_neg e,if_neg (fun z=>e (h1.trans z))];exact⟨h1,h2⟩
theorem KV.put {kvs:List (κ×V)} {vs:List (κ×Value)} (r:KV kvs vs) (k:κ) {y:V} {u:Value} (ry:RelV y u):KV (putK kvs k y) (stored vs k u):=by
 unfold putK stored
 rw[r.any k]
 by_cases e:(vs.any fun kv=>decide (kv.1=k))=true
 ·rw[if_pos e,if_pos e];exact r.repl k ry
 ·rw[if_neg e,if_neg e];exact Paired.snoc r ⟨rfl,ry⟩
theorem KV.length {kvs:List (κ×V)} {vs:List (κ×Value)} (r:KV kvs vs):kvs.length=vs.length:=Paired.length r
end
theorem kV_is {P:Program} {w:World} {k:Key} {u:Value} (r:RelV (kV k) u):(mixKind P w).is k u=true:=by
 cases k with
 | inl i=>obtain⟨t,e⟩:=(show ∃ t,u=Value.int i t from r);subst e;exact mixKind_int P w i t
 | inr x=>obtain⟨t,e⟩:=(show ∃ t,u=Value.str x t from r);subst e;exact mixKind_str P w x t
theorem items_are {P:Program} {w:World}:∀ {ks:List Key} {us:List Value},Vals (ks.map kV) us→ItemsAre (mixKind P w) ks us
 | [],_,r=>by rw[List.map_nil] at r;cases r;exact .nil
 | k :: ks,_,r=>by
  rw[List.map_cons] at r
  cases r with
  | cons h t=>exact .cons (kV_is h) (items_are t)
noncomputable abbrev KT (H:Hp):List (List Key×V)→List (List Key×Addr×Value)→Prop:=Paired fun p q=>p.1=q.1∧H q.2.1=some (.tup (p.1.map kV))∧RelV p.2 q.2.2
theorem KT.val {H:Hp} {kvs:List (List Key×V)} {xs:List (List Key×Addr×Value)} (r:KT H kvs xs) (k:List Key):RelO (valV kvs k) ((atKey xs k).map (·.2)):=by
 induction r with
 | nil=>exact True.intro
 | @cons p q ps qs h t ih =>
  obtain⟨h1,_,h2⟩:=h
  by_cases e:p.1=k
  ·have e':q.1=k:=h1.symm.trans e
   have b:atKey (q :: qs) k=some q.2:=by simp[atKey,List.find?_cons,e']
   rw[valV_pos e,b];exact h2
  ·have e':¬ q.1=k:=fun z=>e (h1.trans z)
   have b:atKey (q :: qs) k=atKey qs k:=by simp[atKey,List.find?_cons,e']
   rw[valV_neg e,b];exact ih
theorem KT.repl {H:Hp} {kvs:List (List Key×V)} {xs:List (List Key×Addr×Value)} (r:KT H kvs xs) (k:List Key) {y:V} {u:Value} (ry:RelV y u) :
  KT H (kvs.map fun kv=>if kv.1=k then (kv.1,y) else kv) (xs.map (putAt k u)):=by
 induction r with
 | nil=>exact .nil
 | @cons p q ps qs h t ih =>
  rw[List.map_cons,List.map_cons]
  refine .cons ?_ ih
  obtain⟨h1,h2,h3⟩:=h
  unfold putAt
  by_cases e:p.1=k
  ·rw[if_pos e,if_pos (h1.symm.trans e)];exact⟨h1,h2,ry⟩
  ·rw[if_neg e,if_neg (fun z=>e (h1.trans z))];exact⟨h1,h2,h3⟩
theorem KT.put {H:Hp} {kvs:List (List Key×V)} {xs:List (List Key×Addr×Value)} (r:KT H kvs xs) (k:List Key) {b:Addr} {y:V} {u:Value} (hb:H b=some (.tup (k.map kV))) (ry:RelV y u) :
  KT H (putK kvs k y) (storedH xs k b u):=by
 have e:(kvs.any fun kv=>decide (kv.1=k))=(atKey xs k).isSome:=by
  rw[valV_any,(r.val k).isSome_eq,Option.isSome_map]
 unfold putK storedH
 rw[e]
 by_cases q:(atKey xs k).isSome=true
 ·rw[if_pos q,if_pos q];exact r.repl k ry
 ·rw[if_neg q,if_neg q];exact Paired.snoc r ⟨rfl,hb,ry⟩
theorem KT.keeps {H H':Hp} {kvs:List (List Key×V)} {xs:List (List Key×Addr×Value)} (r:KT H kvs xs) (ht:∀ b ys,H b=some (.tup ys)→H' b=some (.tup ys)):KT H' kvs xs :=
 Paired.mapP r fun _ _ z=>⟨z.1,ht _ _ z.2.1,z.2.2⟩
section
variable {P:Program} {w:World} {H:Hp} {h:Heap} {a:Addr}
theorem rd_of {u:HO} (ok:HOk P w H h) (e:Rd H a u):ObjOk P w H h a u:=e.ok ok
theorem dk_rd {kvs:List (Key×V)} (ok:HOk P w H h) (e:Rd H a (.dK kvs)):kvs.length≤sizeLine∧(a == sysModules)=false∧∃ vs,KV kvs vs∧h.DictOf (mixKind P w) a vs :=
 show ObjOk P w H h a (.dK kvs) from rd_of ok e
theorem dk_of {kvs:List (Key×V)} (ok:HOk P w H h) (e:H a=some (.dK kvs)):kvs.length≤sizeLine∧(a == sysModules)=false∧∃ vs,KV kvs vs∧h.DictOf (mixKind P w) a vs:=dk_rd ok (.inl e)
theorem key_of {ks:List Key} (ok:HOk P w H h) (e:H a=some (.tup (ks.map kV))):(tupleKind (mixKind P w)).is h ks a:=by
 obtain⟨_,its,r,o,h1,h2,n,h3⟩:=(show ObjOk P w H h a (.tup (ks.map kV)) from ok a _ e)
 exact⟨o,its.toArray,n,h1,h2,h3,by simpa using items_are r⟩
theorem dt_rd {kvs:List (List Key×V)} (ok:HOk P w H h) (e:Rd H a (.dT kvs)):kvs.length≤sizeLine∧(a == sysModules)=false ∧
  ∃ xs,KT H kvs xs∧h.DictOfH (tupleKind (mixKind P w)) a xs:=by
 obtain⟨z,y,xs,r,o,es,ep,h1,h2,h3,h4,h5⟩:=(show ObjOk P w H h a (.dT kvs) from rd_of ok e)
 refine⟨z,y,xs,r,o,es,ep,h1,h2,h3,h4,fun x hx=>?_,h5⟩
 have all:∀ {l:List (List Key×V)} {m:List (List Key×Addr×Value)},KT H l m→∀ x∈m,(tupleKind (mixKind P w)).is h x.1 x.2.1:=by
  intro l m q
  induction q with
  | nil=>intro x hx;exact nomatch hx
  | @cons p q ps qs hq t ih =>
   intro x hx
   rcases List.mem_cons.mp hx with e | hx
   ·subst e
    exact key_of ok (by rw[← hq.1];exact hq.2.1)
   ·exact ih x hx
 exact all r x hx
theorem dt_of {kvs:List (List Key×V)} (ok:HOk P w H h) (e:H a=some (.dT kvs)):kvs.length≤sizeLine∧(a == sysModules)=false ∧
  ∃ xs,KT H kvs xs∧h.DictOfH (tupleKind (mixKind P w)) a xs:=dt_rd ok (.inl e)
end
noncomputable def DGet (H:Hp) (a:Addr) (y:V) (r:Option V):Prop :=
 (∃ kvs k,Rd H a (.dK kvs)∧y=kV k∧r=valV kvs k)∨∃ kvs k b,Rd H a (.dT kvs)∧y=.ref b∧H b=some (.tup (k.map kV))∧r=valV kvs k
noncomputable def DPut (H:Hp) (a:Addr) (y v:V) (H':Hp):Prop :=
 (∃ kvs k,H a=some (.dK kvs)∧y=kV k∧kvs.length < sizeLine∧H'=upd H a (.dK (putK kvs k v))) ∨
 ∃ kvs k b,H a=some (.dT kvs)∧y=.ref b∧H b=some (.tup (k.map kV))∧kvs.length < sizeLine∧H'=upd H a (.dT (putK kvs k v))
theorem DGet.t {H:Hp} {a b:Addr} {kvs:List (List Key×V)} {k:List Key} (e:H a=some (.dT kvs)) (eb:H b=some (.tup (k.map kV))):DGet H a (.ref b) (valV kvs k):=.inr ⟨kvs,k,b,.inl e,rfl,eb,rfl⟩
theorem DPut.t {H:Hp} {a b:Addr} {kvs:List (List Key×V)} {k:List Key} {v:V} (e:H a=some (.dT kvs)) (eb:H b=some (.tup (k.map kV))) (hl:kvs.length < sizeLine) :
  DPut H a (.ref b) v (upd H a (.dT (putK kvs k v))):=.inr ⟨kvs,k,b,e,rfl,eb,hl,rfl⟩
section
variable {X:Cx} {pins:List (Addr×Obj)} {σ:St} {H:Hp} {s:Shared} {a:Addr} {y v:V} {u r:Value} {o:Option V} {A:Around} {E:Value→Shared→Prop}
theorem Inv.big (I:Inv X pins σ H s):sysModules < s.heap.objs.size:=by
 have h:mainGlobals < s.heap.objs.size:=(I.mod.glob.keeps I.bk).lt
 exact Nat.lt_trans (by decide) h
theorem d_getItem {Q:Value→Shared→Prop} (hu:A.units+1 < cLine) (I:Inv X pins σ H s) (g:DGet H a y (some v)) (ry:RelV y u) (h:∀ w' s',Inv X pins σ H s'→RelV v w'→Q w' s') :
  wpAny (model X.prog X.w) A (getItem (.ref a) u) Q E s:=by
 rcases g with ⟨kvs,k,e,ey,l⟩ | ⟨kvs,k,b,e,ey,eb,l⟩
 ·subst ey
  obtain⟨z,hd,vs,rel,dd⟩:=dk_rd I.hok e
  obtain⟨w',hw,rw'⟩:=RelO.some_of (v:=v) (o:=valueAt vs k) (by rw[l];exact rel.val k)
  exact wpAny_getItem_of (kV_is ry) dd.mapOf hw (h w' _ (I.tok _) rw')
 ·subst ey
  cases (show u=Value.ref b from ry)
  obtain⟨z,hd,xs,rel,dd⟩:=dt_rd I.hok e
  obtain⟨w',hw,rw'⟩:=RelO.some_of (v:=v) (o:=(atKey xs k).map (·.2)) (by rw[l];exact rel.val k)
  obtain⟨p,hp,hp2⟩:=Option.map_eq_some_iff.mp hw
  refine wpAny_getItem_heap (tupleKind_room_in1 hu) (key_of I.hok eb) dd hp ?_
  rw[hp2]
  exact h w' _ (I.tok _) rw'
theorem d_write {h':Heap} {t':Nat} {ob:HO} (I:Inv X pins σ H s) (mu:Mut (H a)) (hs:Heap.SameBut a s.heap h') (he:∃ q,h'.get? a=some q) (new:ObjOk X.prog X.w (upd H a ob) h' a ob) :
  Inv X pins σ (upd H a ob) { s with heap:=h',toks:=t' } :=
 I.write (x:=a) (e:=a) mu (.inl rfl) (fun b q hb z=>(hs.2 b hb).trans z) he new
theorem dk_new {P:Program} {w:World} {H':Hp} {h':Heap} {kvs:List (Key×V)} {vs:List (Key×Value)} (z:kvs.length≤sizeLine) (hd:(a == sysModules)=false) (rel:KV kvs vs) (dd:h'.DictOf (mixKind P w) a vs) :
  ObjOk P w H' h' a (.dK kvs):=⟨z,hd,vs,rel,dd⟩
end
noncomputable def NoSl (i:Expr):Prop:=∀ ov iv,subscripted i false ov iv=operate [ov,iv] (getItem ov iv)
theorem subD_of {prog:Program} {w:World} {A:Around} {E:Value→Shared→Prop} {s:Shared} {env:Env} {value slice:Expr} {pos:Pos} {T id:String} {Q:Value→Shared→Prop}
  (hl:typeLookup (.type T) "__getitem__"=pure (some (.builtin id))) (hs:NoSl slice)
  (h:wpAny (model prog w) A (eval value env) (fun o s₁=>wpAny (model prog w) A (eval slice env) (fun i s₂=>s₂.TypeIs o T∧wpAny (model prog w) A (getItem o i) Q E s₂) E s₁) E s) :
  wpAny (model prog w) A (eval (.Subscript value slice pos) env) Q E s:=by
 refine Subscript_ (wpAny_mono h (fun o s₁ h₁=>wpAny_mono h₁ (fun i s₂ h₂=>?_) fun _ _ x=>x) fun _ _ x=>x)
 obtain⟨hT,h₂⟩:=h₂
 unfold subscriptTail
 refine wpAny_bind ?_
 rw[getitemInPython_of_ne hT.not_modules]
 refine wpAny_bind (wpAny_specialOf hT hl ?_)
 have fin:wpAny (model prog w) A (subscripted slice false o i) (fun r s₃=>wpAny (model prog w) A (letTemporaryGo value o r >>= fun _=>pure r) Q E s₃) E s₂:=by
  rw[hs o i]
  exact wpAny_operating (wpAny_mono h₂ (fun r s₃ h₃=>wpAny_bind (wpAny_letTemporaryGo (wpAny_pure h₃))) fun _ _ x=>x)
 first
  | exact wpAny_pure (wpAny_bind fin)
  | exact wpAny_bind (wpAny_pure (wpAny_bind fin))
  | exact wpAny_bind fin
theorem dict_typeIs {X:Cx} {pins:List (Addr×Obj)} {σ:St} {H:Hp} {s:Shared} {a:Addr} {y:V} {o:Option V} (I:Inv X pins σ H s) (g:DGet H a y o):s.TypeIs (.ref a) "dict":=by
 rcases g with ⟨kvs,k,e,_,_⟩ | ⟨kvs,k,b,e,_,_,_⟩
 ·obtain⟨_,_,vs,_,dd⟩:=dk_rd I.hok e
  exact dd.typeIs
 ·obtain⟨_,_,xs,_,dd⟩:=dt_rd I.hok e
  exact dd.typeIs
noncomputable def tDGet (td ty:TE):TE:=fun σ H Q=>td σ H fun x H1=>ty σ H1 fun y H2=>∃ a v,x=.ref a∧DGet H2 a y (some v)∧Q v H2
section
variable {X:Cx} {o i e value:Expr} {pos pos' tpos:Pos} {td ty tv:TE}
theorem pe_dget (hu:X.A.units+1 < cLine) (ho:PE X o td) (hi:PE X i ty) (hs:NoSl i):PE X (.Subscript o i pos) (tDGet td ty):=by
 intro pins s σ H Q I h
 refine subD_of PySem.F.slot_dict_getitem.lookup hs (thn (ho pins s σ H _ I h) fun u s1 ⟨x,H1,I1,rx,q1⟩=>thn (hi pins s1 σ H1 _ I1 q1) fun iv s2 ⟨y,H2,I2,ry,a,v,ex,g,q2⟩=>?_)
 subst ex
 obtain rfl:u=Value.ref a:=rx
 exact⟨dict_typeIs I2 g,d_getItem hu I2 g ry fun w' s3 I3 rw'=>⟨v,H2,I3,rw',q2⟩⟩
end
end L2
namespace L2
open PySem PySem.Spec PyProof.Rows
end L2
namespace L2
open PySem PySem.Spec PyProof.Rows
section
variable {κ:Type} [DecidableEq κ]
theorem nd_snoc:∀ {l:List κ} {k:κ},l.Nodup→¬ k∈l→(l++[k]).Nodup
 | [],k,_,_=>by simp
 | a :: r,k,h,hk=>by
  obtain⟨h1,h2⟩:=List.nodup_cons.mp h
  show (a :: (r++[k])).Nodup
  refine List.nodup_cons.mpr ⟨fun m=>?_,nd_snoc h2 fun m=>hk (List.mem_cons.mpr (Or.inr m))⟩
  rcases List.mem_append.mp m with q | q
  ·exact h1 q
  ·exact hk (List.mem_cons.mpr (Or.inl (List.mem_singleton.mp q).symm))
end
end L2
set_option maxHeartbeats 4000000
namespace L2
open PySem PySem.Spec PyProof.Rows
section
variable {X:Cx}
inductive TyX (K:PySem.W.Frag) (H:Hp):V→Value→Prop where
 | of {x:V} {t:Value} (h:TyOf K H x t):TyX K H x t
 | tupK {a:Addr} {xs:List V} (h:SqT K H a xs):TyX K H (.ref a) (.type "tuple")
 | lstK {a:Addr} {xs:List V} (h:SqL K H a xs):TyX K H (.ref a) (.type "list")
noncomputable def rIsi (K:PySem.W.Frag):List V→Hp→VK→Prop:=fun xs H Q=>∃ x T t b,xs=[x,.ty T]∧TyX K H x t∧PySem.W.kitOne K t (.type T)=some b∧Q (.bl b) H
theorem call_isi:CallR X (.builtin "isinstance") (rIsi X.K):=by
 intro pins s σ H xs us Q I r h
 obtain⟨x,T,t,b,rfl,ty,e,q⟩:=h
 obtain⟨u,c,rfl,rx,rc⟩:=vals2 r
 cases (show c=Value.type T from rc)
 cases ty with
 | of h=>exact isinst_ok I rx h e fun tk=>⟨.bl b,H,I.tok tk,rfl,q⟩
 | @tupK a xs h =>
  cases (show u=Value.ref a from rx)
  obtain⟨its,_,⟨o,h1,h2,_⟩,_⟩:=I.tuple h
  exact PySem.W.kia_one PySem.W.kitx_tuple I.kIn ⟨o,h1,h2⟩ e (fun z=>nomatch z) fun tk=>⟨.bl b,H,I.tok tk,rfl,q⟩
 | @lstK a xs h =>
  cases (show u=Value.ref a from rx)
  obtain⟨its,_,⟨o,n,h1,h2,_⟩,_⟩:=I.list h
  exact PySem.W.kia_one PySem.W.kitx_list I.kIn ⟨o,h1,h2⟩ e (fun z=>nomatch z) fun tk=>⟨.bl b,H,I.tok tk,rfl,q⟩
theorem kit_same (K:PySem.W.Frag) (T:String):PySem.W.kitOne K (.type T) (.type T)=some true:=by
 unfold PySem.W.kitOne
 rw[if_pos (beq_self_eq_true _)]
noncomputable def rMulS:R2:=fun x y H Q=>∃ z n,x=.str z∧y=.int n∧z.length≤1000∧-1000≤n∧n≤1000∧Q (.str (Txt.mul z n)) H
theorem mulOk_small {z:Str} {n:Int} (h1:z.length≤1000) (h2:-1000≤n) (h3:n≤1000):MulOk z n:=by
 refine⟨?_,fun h4 h5=>?_,fun h4 h5=>?_⟩
 ·have a:¬ n < -(2 ^ 63:Int):=by omega
  have b:¬ n ≥ 2 ^ 63:=by omega
  rw[decide_eq_false a,decide_eq_false b];rfl
 ·have:(1000:Int)≤(2 ^ 63 - 1) / n:=by
   rw[Int.le_ediv_iff_mul_le (by omega)]
   omega
  omega
 ·have:z.length*n.toNat≤1000*1000:=Nat.mul_le_mul h1 (by omega)
  unfold Builtin.Str.tooLong
  rw[decide_eq_false]
  have e:=sizeLine_eq
  first | omega | (simp at *;omega)
theorem op_mulS:OpR X (binaryOp .Mult) rMulS:=by
 intro pins s σ H x y v u Q I rx ry h
 obtain⟨z,n,rfl,rfl,h1,h2,h3,q⟩:=h
 obtain⟨t,rfl⟩:=rx
 obtain⟨t',rfl⟩:=ry
 exact SB.mul (mulOk_small h1 h2 h3) fun t' k=>⟨.str _,H,I.tok k,⟨_,rfl⟩,q⟩
noncomputable def rSlS:V→Option Int→Option Int→Hp→VK→Prop:=fun x lo hi H Q=>∃ z,x=.str z∧z.length≤sizeLine∧Q (.str (Txt.slice z lo hi)) H
theorem part_of {v:Value} {o:Option Int} (p:IsPart v o):∃ l:Option (Int×Tok),v=partValue l∧l.map (·.1)=o:=by
 cases p with
 | none=>exact⟨none,rfl,rfl⟩
 | int i t=>exact⟨some (i,t),rfl,rfl⟩
theorem sl_str:SlR X rSlS:=by
 intro pins s σ H x v vl vu lo hi sl Q I rx hs pl pu h
 obtain⟨z,rfl,hz,q⟩:=h
 obtain⟨t,rfl⟩:=rx
 obtain⟨l,rfl,el⟩:=part_of pl
 obtain⟨u,rfl,eu⟩:=part_of pu
 refine⟨"str",_,F.slot_str_getitem.lookup,typeIs_str _ _ _,wpAny_getItem_str_slice (l:=l) (u:=u) (st:=none) hs rfl ?_⟩
 refine post_val_or_str ⟨?_,fun t' k=>?_⟩
 ·subst el;subst eu
  exact Nat.le_trans (Txt.slice_le z _ _) hz
 ·subst el;subst eu
  exact⟨.str _,H,I.tok k,⟨_,rfl⟩,q⟩
theorem pick_rev (its:List Value):slicePick its.toArray none none (some (-1))=its.reverse.toArray:=by
 unfold slicePick
 have e:sliceBounds none none (some (-1)) its.toArray.size=((its.length:Int) - 1,-1,-1):=by
  simp[sliceBounds]
 rw[e]
 have e2:sliceRange ((its.length:Int) - 1) (-1) (-1)=(List.range its.length).map fun k=>its.length - 1 - k:=by
  unfold sliceRange
  have c:(if (-1:Int) > 0 then (if ((its.length:Int) - 1) < -1 then (-1 - ((its.length:Int) - 1)+-1 - 1) / -1 else 0) else (if ((its.length:Int) - 1) > -1 then (((its.length:Int) - 1) - -1 - -1 - 1) / (- -1) else 0)).toNat=its.length:=by
   rw[if_neg (by decide)]
   by_cases h:((its.length:Int) - 1) > -1
   ·rw[if_pos h]
    have:(((its.length:Int) - 1) - -1 - -1 - 1) / (- -1)=its.length:=by
     have:(- (-1:Int))=1:=rfl
     rw[this,Int.ediv_one];omega
    rw[this];simp
   ·rw[if_neg h];simp;omega
  show (List.range (if (-1:Int) > 0 then (if ((its.length:Int) - 1) < -1 then (-1 - ((its.length:Int) - 1)+-1 - 1) / -1 else 0) else (if ((its.length:Int) - 1) > -1 then (((its.length:Int) - 1) - -1 - -1 - 1) / (- -1) else 0)).toNat).map _=_
  rw[c]
  apply List.map_congr_left
  intro k hk
  omega
 show ((sliceRange ((its.length:Int) - 1) (-1) (-1)).filterMap (its.toArray[·]?)).toArray=_
 rw[e2,List.filterMap_map]
 congr 1
 apply List.ext_getElem?
 intro i
 have all:(List.range its.length).filterMap ((its.toArray[·]?) ∘ fun k=>its.length - 1 - k)=its.reverse:=by
  have gen:∀ (n:Nat) (f:Nat→Option Value) (g:Nat→Value),(∀ k,k < n→f k=some (g k))→(List.range n).filterMap f=(List.range n).map g:=by
   intro n f g hf
   have aux:∀ l:List Nat,(∀ k∈l,f k=some (g k))→l.filterMap f=l.map g:=by
    intro l
    induction l with
    | nil=>intro _;rfl
    | cons k l ih =>
     intro h
     rw[List.filterMap_cons,h k (List.mem_cons_self),List.map_cons,ih fun j hj=>h j (List.mem_cons_of_mem _ hj)]
   exact aux _ fun k hk=>hf k (List.mem_range.mp hk)
  rw[gen its.length _ (fun k=>its.reverse.getD k .none) (fun k hk=>by
   have h2:its.length - 1 - k < its.length:=by omega
   simp[h2,List.getElem?_reverse,hk])]
  apply List.ext_getElem
  ·simp
  ·intro k h1 h2
   simp at h1
   simp[List.getElem?_reverse,h1]
 rw[all]
noncomputable def tRev (K:PySem.W.Frag) (te ts:TE):TE:=fun σ H Q=>te σ H fun x H1=>ts σ H1 fun y H2=>∃ a xs,x=.ref a∧y=.int (-1)∧SqL K H2 a xs∧∀ p,H2 p=none→Q (.ref p) (upd H2 p (.lst xs.reverse))
theorem pe_rev {e st:Expr} {te ts:TE} {p2 pos:Pos} (he:PE X e te) (hst:PE X st ts):PE X (.Subscript e (.Slice none none (some st) p2) pos) (tRev X.K te ts):=by
 intro pins s σ H Q I h
 refine Subscript_ (thn (he pins s σ H _ I h) fun v s1 ⟨x,H1,I1,r1,q1⟩=>?_)
 refine wpAny_Slice ?_
 rw[evalPart_none,evalPart_some]
 refine wpAny_pure (wpAny_pure (thn (hst pins s1 σ H1 _ I1 q1) fun vs s2 ⟨y,H2,I2,r2,q2⟩=>?_))
 obtain⟨a,xs,rfl,rfl,hx,q⟩:=q2
 cases r1
 obtain⟨t,rfl⟩:=r2
 have I4:Inv X pins σ H2 { s2 with heap:=s2.heap.push { cls:=.type "slice",data:=.fields #[.none,.none,.int (-1) t] } }:=I2.kept (t':=s2.toks) fun b ob q=>Heap.get?_push_of_some _ q
 obtain⟨its,r,ht,hz⟩:=I4.list hx
 have hlen:=r.length
 show wpAny (model X.prog X.w) X.A (subscriptTail e (.Slice none none (some st) p2) (.ref a) (.ref s2.heap.objs.size)) (EP X pins σ Q) X.xe { s2 with heap:=s2.heap.push { cls:=.type "slice",data:=.fields #[.none,.none,.int (-1) t] } }
 refine tail_any (ops:=[.ref a,.ref s2.heap.objs.size]) ht.isList.typeIs slot_list_getitem.lookup ?_ (by with_unfolding_all rfl)
 refine wpAny_getItem_list_slice ht.isList (Heap.IsSliceOf.new ..) .none .none (.int _ _) (by simp) ?_ (by rw[List.size_toArray]<;>omega)
 rw[pick_rev]
 refine⟨.ref _,_,I4.laid (t':=s2.toks) (o:=.lst xs.reverse) (fun b ob q=>Heap.get?_push_of_some _ q) (Nat.le_refl _) ?_,rfl,q _ (I4.hok.fresh (Nat.le_refl _))⟩
 exact⟨by rw[List.length_reverse];exact hz,_,0,r.reverse,Heap.get?_push_size _ rfl⟩
theorem strsAre_of:∀ {ys:List Str} {us:List Value},Vals (ys.map V.str) us→StrsAre us ys
 | [],_,r=>by cases r;exact .nil
 | y :: ys,_,r=>by
  cases r with
  | cons h t =>
   obtain⟨tk,rfl⟩:=h
   exact .cons _ _ (strsAre_of t)
noncomputable def rJoin (K:PySem.W.Frag):V→List V→Hp→VK→Prop:=fun x vs H Q=>∃ sep l ys,x=.str sep∧vs=[.ref l]∧SqL K H l (ys.map V.str)∧(ys.map (·.length)).sum+ys.length*sep.length≤16777216∧Q (.str (Txt.join sep ys)) H
theorem mt_join:MtM X "str.join" (rJoin X.K):=by
 intro pins s σ H x vs v us Q I rx rv h
 obtain⟨sep,l,ys,rfl,rfl,hx,hz,q⟩:=h
 obtain⟨t,rfl⟩:=rx
 obtain⟨u,rfl,ru⟩:=rv.one
 cases ru
 obtain⟨its,r,ht,_⟩:=I.list hx
 exact join_list ht.isList (strsAre_of (by simpa using r)) hz fun t' k=>⟨.str _,H,I.tok k,⟨_,rfl⟩,q⟩
end
end L2
namespace L2
open PySem PySem.Spec PyProof.Rows
mutual
noncomputable def Dn (K:PySem.W.Frag) (H:Hp):V→PyData→Prop
 | v,.none=>v=.non
 | v,.bool b=>v=.bl b
 | v,.int i=>v=.int i
 | v,.str x=>v=.str x
 | v,.list ds=>∃ a xs,v=.ref a∧SqL K H a xs∧DnAll K H xs ds
 | v,.tuple ds=>∃ a xs,v=.ref a∧SqT K H a xs∧DnAll K H xs ds
 | _,.dict _=>False
noncomputable def DnAll (K:PySem.W.Frag) (H:Hp):List V→List PyData→Prop
 | xs,[]=>xs=[]
 | xs,d :: ds=>∃ x r,xs=x :: r∧Dn K H x d∧DnAll K H r ds
end
noncomputable def KeepT (K:PySem.W.Frag) (H H':Hp):Prop:=∀ a xs,SqT K H a xs→SqT K H' a xs
mutual
noncomputable def noList:PyData→Bool
 | .list _=>false
 | .tuple ds=>noLists ds
 | .dict _=>false
 | _=>true
noncomputable def noLists:List PyData→Bool
 | []=>true
 | d :: ds=>noList d&&noLists ds
end
mutual
theorem Dn.keepT {K:PySem.W.Frag} {H H':Hp} (k:KeepT K H H'):∀ {d:PyData} {v:V},noList d=true→Dn K H v d→Dn K H' v d
 | .none,v,_,h=>by rw[Dn] at h ⊢;exact h
 | .bool _,v,_,h=>by rw[Dn] at h ⊢;exact h
 | .int _,v,_,h=>by rw[Dn] at h ⊢;exact h
 | .str _,v,_,h=>by rw[Dn] at h ⊢;exact h
 | .list _,v,n,h=>by rw[noList] at n;cases n
 | .dict _,v,n,h=>by rw[noList] at n;cases n
 | .tuple ds,v,n,h=>by
  rw[Dn] at h ⊢
  rw[noList] at n
  obtain⟨a,xs,e,hs,hd⟩:=h
  exact⟨a,xs,e,k a xs hs,DnAll.keepT k n hd⟩
theorem DnAll.keepT {K:PySem.W.Frag} {H H':Hp} (k:KeepT K H H'):∀ {ds:List PyData} {xs:List V},noLists ds=true→DnAll K H xs ds→DnAll K H' xs ds
 | [],xs,_,h=>by rw[DnAll] at h ⊢;exact h
 | d :: ds,xs,n,h=>by
  rw[DnAll] at h ⊢
  rw[noLists,Bool.and_eq_true] at n
  obtain⟨x,r,e,h1,h2⟩:=h
  exact⟨x,r,e,Dn.keepT k n.1 h1,DnAll.keepT k n.2 h2⟩
end
section
variable {X:Cx} {pins:List (Addr×Obj)} {σ:St} {H:Hp} {s:Shared}
mutual
theorem Dn.reads (I:Inv X pins σ H s):∀ {d:PyData} {v:V} {u:Value},Dn X.K H v d→RelV v u→∃ as,Reads s.heap u d as
 | .none,v,u,h,r=>by rw[Dn] at h;subst h;cases (show u=Value.none from r);exact⟨_,.none⟩
 | .bool b,v,u,h,r=>by rw[Dn] at h;subst h;cases (show u=Value.bool b from r);exact⟨_,.bool b⟩
 | .int i,v,u,h,r=>by rw[Dn] at h;subst h;obtain⟨t,rfl⟩:=r;exact⟨_,.int i t⟩
 | .str x,v,u,h,r=>by rw[Dn] at h;subst h;obtain⟨t,rfl⟩:=r;exact⟨_,.str x t⟩
 | .dict _,v,u,h,r=>by rw[Dn] at h;exact h.elim
 | .list ds,v,u,h,r=>by
  rw[Dn] at h
  obtain⟨a,xs,rfl,hs,hd⟩:=h
  cases (show u=Value.ref a from r)
  obtain⟨its,rv,⟨o,n,h1,h2,_,h3⟩,_⟩:=I.list hs
  obtain⟨as,q⟩:=DnAll.reads I hd rv
  exact⟨_,.list h1 h2 h3 (by simpa using q)⟩
 | .tuple ds,v,u,h,r=>by
  rw[Dn] at h
  obtain⟨a,xs,rfl,hs,hd⟩:=h
  cases (show u=Value.ref a from r)
  obtain⟨its,rv,⟨o,h1,h2,n,h3⟩,_⟩:=I.tuple hs
  obtain⟨as,q⟩:=DnAll.reads I hd rv
  exact⟨_,.tuple h1 h2 h3 (by simpa using q)⟩
theorem DnAll.reads (I:Inv X pins σ H s):∀ {ds:List PyData} {xs:List V} {us:List Value},DnAll X.K H xs ds→Vals xs us→∃ as,ReadsAll s.heap us ds as
 | [],xs,us,h,r=>by rw[DnAll] at h;subst h;cases r;exact⟨_,.nil⟩
 | d :: ds,xs,us,h,r=>by
  rw[DnAll] at h
  obtain⟨x,r',rfl,h1,h2⟩:=h
  cases r with
  | cons r1 r2 =>
   obtain⟨as,q1⟩:=Dn.reads I h1 r1
   obtain⟨bs,q2⟩:=DnAll.reads I h2 r2
   exact⟨_,.cons q1 q2⟩
end
end
section
variable {X:Cx}
noncomputable def rEqD (K:PySem.W.Frag) (neg:Bool):R2:=fun x y H Q=>∃ d e,Dn K H x d∧Dn K H y e∧d.canLay0=true∧e.canLay0=true∧min d.depth e.depth≤150∧Q (.bl (if neg then !PyData.eqv d e else PyData.eqv d e)) H
theorem op_eqD (hu:X.A.units+150 < cLine):OpR X (compareOp .Eq) (rEqD X.K false):=by
 intro pins s σ H x y v u Q I rx ry h
 obtain⟨d,e,h1,h2,l1,l2,hz,q⟩:=h
 obtain⟨as,r1⟩:=h1.reads I rx
 obtain⟨bs,r2⟩:=h2.reads I ry
 exact PySem.W.cmp_ofEq (SeqAt.rcAt_reads r1 r2 l1 l2 (by omega) _ _ _ _ ⟨.bl _,H,I,rfl,q⟩)
theorem op_neD (hu:X.A.units+150 < cLine):OpR X (compareOp .NotEq) (rEqD X.K true):=by
 intro pins s σ H x y v u Q I rx ry h
 obtain⟨d,e,h1,h2,l1,l2,hz,q⟩:=h
 obtain⟨as,r1⟩:=h1.reads I rx
 obtain⟨bs,r2⟩:=h2.reads I ry
 exact PySem.W.cmp_ofNotEq (SeqAt.rcNeAt_reads r1 r2 l1 l2 (by omega) _ _ _ _ ⟨.bl _,H,I,rfl,q⟩)
end
theorem hu_150 {A:Around} {k:Nat} (hr:Room k A):A.units+150 < cLine:=by have:=hr.un;omega
end L2
namespace L2
open PySem PySem.Spec PyProof.Rows
noncomputable def blk (X:Cx) (N':List Str) (scope:Scope) (cl:List (Str×Addr)) (s:Shared) (H:Hp) (C:Addr) (ex:List Addr):Cx where
 prog:=X.prog
 w:=X.w
 K:=X.K
 mg:=X.mg
 base:=X.base
 A:=X.A
 N:=N'
 s₀:=s
 H₀:=H
 env:=compEnvC scope cl C X.env
 outer:=X.stack
 stack:=X.stack
 ex:=ex
 fn:=fun _=>false
 calm:=X.calm
 pn:=[]
 xe:=fun _ _=>False
structure BlkOk (X:Cx) (scope:Scope) (cl:List (Str×Addr)) (N':List Str) (nt:Nat) (ci:List Nat):Prop where
 clos:closureFor scope X.env=pure cl
 cell:∀ y∈scope.names,y.2≠.cell
 kind:scope.kind=.function
 names:∀ y∈scope.names,y.2=.local→scope.names.lookup y.1=some .local
 sub:∀ x c,cl.lookup x=some c→X.env.cells.lookup x=some c
 has:∀ x,((relabel scope X.env).names.lookup x=some .cell∨(relabel scope X.env).names.lookup x=some .free)→∃ c,cl.lookup x=some c
 len:N'.length=nt+ci.length
 cap:∀ (j i:Nat),ci[j]?=some i→∃ x,N'[nt+j]?=some x∧X.N[i]?=some x∧X.env.scope.names.lookup x=some .cell∧((relabel scope X.env).names.lookup x=some .cell∨(relabel scope X.env).names.lookup x=some .free)
noncomputable def capt (nt:Nat) (ci:List Nat) (σ:St):St:=List.replicate nt none++ci.map fun i=>(σ[i]?).join
section
variable {X:Cx} {scope:Scope} {cl:List (Str×Addr)} {N':List Str} {nt:Nat} {ci:List Nat} {pins:List (Addr×Obj)} {σ:St} {H:Hp} {s:Shared}
theorem blk_start (B:BlkOk X scope cl N' nt ci) (I:Inv X pins σ H s) {fp:List Addr} (hf:∀ b∈fp,FpOk X pins H b) (ho:∀ b∈fp,∃ o,s.heap.get? b=some o) {C acc:Addr} {h1:Heap} {tk:Nat}
    (hacc:acc=s.heap.objs.size) (hC:C=s.heap.objs.size+1) (k:∀ b u,s.heap.get? b=some u→h1.get? b=some u) (ns:h1.Ns C fun _=>none) (ha:h1.get? acc=some { cls:=.type "list",data:=.seq #[] }) :
    Inv (blk X N' scope cl s H C fp) [] (capt nt ci σ) (upd H acc (.lst [])) { s with heap:=h1,toks:=tk }:=by
  have hn:H acc=none:=I.hok.fresh (by rw[hacc];exact Nat.le_refl _)
  have hnC:H C=none:=I.hok.fresh (by rw[hC];exact Nat.le_succ _)
  have cellLt:∀ x c,cl.lookup x=some c→c < s.heap.objs.size:=fun x c e=>by
    obtain⟨v,q⟩:=I.cell x c (B.sub x c e)
    exact q.lt
  refine⟨⟨I.ok.mod,B.kind,I.ok.glob,I.ok.blt,?_,fun x y c e1 e2=>I.ok.inj x y c (B.sub _ _ e1) (B.sub _ _ e2),fun x hx=>B.has x hx,fun x c (z:false=true)=>Bool.noConfusion z,fun hc=>I.ok.hd hc,I.ok.frames,.inl rfl,fun b hb=>?_,I.bs,?_,fun b o e hb=>?_,fun b hb=>?_,I.stack,fun b hb=>I.stkFree b hb⟩,
    rfl,I.bare,Un.laid (a:=acc) (o:=.lst []) k (by rw[hacc];exact Nat.le_refl _) hn,⟨_,ns,fun i x v e1 e2 e3=>?_⟩,fun x c e=>?_,?_,fun x c e=>?_,fun p hp=>absurd (show p∈([]:List (Addr×Obj)) from hp) (by simp),I.hok.laid k (by rw[hacc];exact Nat.le_refl _) ⟨Nat.zero_le _,[],0,.nil,ha⟩,?_⟩
  · show s.heap.objs.size≤C
    rw[hC];exact Nat.le_succ _
  · obtain⟨f0,f1,f2,f3,f4,f5⟩:=hf b hb
    obtain⟨o,e⟩:=ho b hb
    refine⟨?_,fun x c e'=>f4 x c (B.sub x c e')⟩
    show b≠C
    rw[hC]
    exact Nat.ne_of_lt (Nat.lt_succ_of_lt (Heap.lt_size e))
  · exact Nat.le_trans I.ok.bsz I.sz
  · obtain⟨f0,f1,f2,f3,f4,f5⟩:=hf b hb
    rcases f3 with z | z
    · exact I.ok.noex b o e z
    · exact absurd (Nat.lt_of_lt_of_le (Heap.lt_size e) (Nat.le_trans I.ok.bsz z)) (Nat.lt_irrefl _)
  · intro z
    obtain⟨f0,f1,f2,f3,f4,f5⟩:=hf b hb
    rcases List.mem_cons.mp (I.stkSub b z) with y | y
    · exact f1 y
    · exact f2 y
  ·
    obtain⟨m,hm,hl⟩:=I.loc
    unfold capt at e2
    by_cases hi:i < nt
    · rw[List.getElem?_append_left (by simpa using hi),List.getElem?_replicate] at e2
      split at e2<;>cases e2
    · rw[List.getElem?_append_right (by simpa using hi),List.length_replicate,List.getElem?_map] at e2
      cases q:ci[i - nt]? with
      | none=>rw[q] at e2;cases e2
      | some j =>
        rw[q] at e2
        have e2':(σ[j]?).join=some v:=Option.some.inj e2
        obtain⟨y,a1,a2,a3,a4⟩:=B.cap _ j q
        have ei:nt+(i - nt)=i:=by omega
        rw[ei,show N'[i]?=some x from e1] at a1
        cases a1
        have e2'':σ[j]?=some (some v):=by
          cases z:σ[j]? with
          | none=>rw[z] at e2';cases e2'
          | some w=>rw[z] at e2';exact congrArg some e2'
        obtain⟨u,r,l⟩:=hl j x v a2 e2'' (.inr (.inl a3))
        refine⟨u,r,.inr ⟨a4,?_⟩⟩
        rcases l with ⟨kk,_⟩ | ⟨_,c,c1,c2⟩
        · have kk':X.env.scope.names.lookup x=some .local:=kk
          rw[a3] at kk';cases kk'
        · obtain⟨c',ec⟩:=B.has x a4
          have:=B.sub x c' ec
          rw[c1] at this;cases this
          exact⟨c,ec,let ⟨o,e,d⟩:=c2;⟨o,k _ _ e,d⟩⟩
  · obtain⟨v,q⟩:=I.cell x c (B.sub x c e)
    exact⟨v,let ⟨o,e,d⟩:=q;⟨o,k _ _ e,d⟩⟩
  · show upd H acc (.lst []) C=none
    rw[upd_ne (by rw[hacc,hC];exact Nat.succ_ne_self _)];exact hnC
  · have lt:=cellLt x c e
    rw[upd_ne (by rw[hacc];exact Nat.ne_of_lt lt)]
    exact I.freeC x c (B.sub x c e)
  · show (capt nt ci σ).length=N'.length
    unfold capt
    rw[List.length_append,List.length_replicate,List.length_map,B.len]
noncomputable def Wk (σ σ':St):Prop:=σ'.length=σ.length∧∀ (i:Nat) v,σ[i]?=some (some v)→σ'[i]?=some (some v)
theorem wk_set {σ:St} {i:Nat} {x:V} (h:σ[i]?=some none):Wk σ (σ.set i (some x)):=by
 refine⟨by simp,fun j v e=>?_⟩
 by_cases hj:j=i
 ·subst hj;rw[h] at e;cases e
 ·rw[List.getElem?_set_ne (Ne.symm hj)];exact e
theorem wk_head {x:V} {r:St}:Wk (none :: r) (some x :: r):=wk_set (σ:=none :: r) (i:=0) rfl
theorem Wk.trans {σ1 σ2 σ3:St} (a:Wk σ1 σ2) (b:Wk σ2 σ3):Wk σ1 σ3:=⟨b.1.trans a.1,fun i v e=>b.2 i v (a.2 i v e)⟩
theorem Wk.refl (σ:St):Wk σ σ:=⟨rfl,fun _ _ e=>e⟩
noncomputable def lcW (K:PySem.W.Frag) (σ0:St) (J:It) (acc:Addr) (g:TG) (te:TE) (Q:VK) (W:Nat→Nat→List V→Hp→Prop):Prop :=
 ∀ i m ys H2,W i m ys H2→H2 acc=some (.lst ys)∧ys.length < sizeLine∧((J.stop i H2∧Q (.ref acc) H2) ∨
  (J.go i H2∧∀ x H3,J.yld i H2 x H3→g x σ0 H3 fun σ4 H4=>Wk σ0 σ4∧te σ4 H4 fun y H5=>H5 acc=some (.lst ys)∧∃ m',m' < m∧W (i+1) m' (ys++[y]) (upd H5 acc (.lst (ys++[y])))))
noncomputable def tLC (K:PySem.W.Frag) (nt:Nat) (ci:List Nat) (wi:TI) (g:TG) (te:TE):TE:=fun σ H Q=>wi σ H fun J H1=>∀ acc,H1 acc=none→∃ W:Nat→Nat→List V→Hp→Prop,(∃ m,W 0 m [] (upd H1 acc (.lst [])))∧lcW K (capt nt ci σ) J acc g te Q W
theorem compTurn_one (elt target iter:Expr) (scope:Scope) (pos:Pos) (it acc:Value) (env:Env) :
  compTurn (.ListComp elt [⟨target,iter,[],0⟩] scope pos) 0 it acc env=(standAt iter.pos >>= fun _=>pyNext it >>= fun r=>match r with
   | none=>pure (.done .next)
   | some v=>letOwnedTupleGo target it v >>= fun _=>assign target env v >>= fun _ =>
    (eval elt env >>= fun x=>call (.builtin "list.append") [acc,x] >>= fun _=>pure ()) >>= fun _ =>
     again (.compLoop (.ListComp elt [⟨target,iter,[],0⟩] scope pos) 0 it acc env)):=by rfl
theorem noE {M:Model} {A:Around} {env:Env} {E:Value→Shared→Prop}:∀ e s,(fun (_:Value) (_:Shared)=>False) e s→notedBy M A env E e s:=fun _ _ z=>z.elim
theorem lc_loop {tg elt iter:Expr} {pos:Pos} {g:TG} {te:TE} {it acc C:Addr} {fp:List Addr} {tn:Nat→Heap→Prop} {J:It} {Q:VK} {s0:Shared} {H0:Hp} {σ0:St} {R:Result→Shared→Prop} {s:Shared} {i0 m0:Nat} {ys0:List V} {H1:Hp} {W:Nat→Nat→List V→Hp→Prop}
  (hc:X.calm=true) (hg:PG (blk X N' scope cl s0 H0 C fp) tg g) (he:PE (blk X N' scope cl s0 H0 C fp) elt te) (T:Turn X.prog X.w X.K tg J fp it tn)
  (hfp:∀ (H':Hp),(∀ b∈fp,H' b=none)→∀ b∈fp,FpOk (blk X N' scope cl s0 H0 C fp) [] H' b) (hW:lcW X.K σ0 J acc g te Q W)
  (hR:∀ s' H',Inv (blk X N' scope cl s0 H0 C fp) [] σ0 H' s'→Q (.ref acc) H'→R (.ok .next) s')
  (I:Inv (blk X N' scope cl s0 H0 C fp) [] σ0 H1 s) (hst:tn i0 s.heap) (hfr:∀ b∈fp,H1 b=none) (w:W i0 m0 ys0 H1) :
  codeAny (model X.prog X.w) X.A (.compLoop (.ListComp elt [⟨tg,iter,[],0⟩] scope pos) 0 (.ref it) (.ref acc) (compEnvC scope cl C X.env)) R s:=by
 refine codeAny_loop rfl (fun n s=>∃ i ys H2,Inv (blk X N' scope cl s0 H0 C fp) [] σ0 H2 s∧tn i s.heap∧(∀ b∈fp,H2 b=none)∧W i n ys H2) (fun n s hI=>?_) m0 ⟨i0,ys0,H1,I,hst,hfr,w⟩
 obtain⟨i,ys,H2,I2,st2,fr2,w2⟩:=hI
 show wpAny _ _ ((compTurn (.ListComp elt [⟨tg,iter,[],0⟩] scope pos) 0 (.ref it) (.ref acc) (compEnvC scope cl C X.env)).onRaise (fun x=>do noteFrame x (compEnvC scope cl C X.env);theTreesLotGoes x)) _ _ s
 refine wpAny_noted ?_
 rw[compTurn_one]
 refine wpAny_bind (wpAny_standAt (wpAny_bind ?_))
 obtain⟨hacc,hlen,hcase⟩:=hW i n ys H2 w2
 rcases hcase with ⟨stop,q⟩ | ⟨go,step⟩
 ·refine thn (T.done (blk X N' scope cl s0 H0 C fp) rfl rfl rfl hc i [] s σ0 H2 _ I2 (hfp H2 fr2) st2 stop) fun r s1 ⟨hr,I3⟩=>?_
  subst hr
  exact wpAny_pure (hR s1 H2 I3 q)
 ·refine thn (T.item (blk X N' scope cl s0 H0 C fp) rfl rfl rfl hc i [] s σ0 H2 _ I2 (hfp H2 fr2) st2 go) fun r s1 ⟨u,hr,h4⟩=>?_
  subst hr
  refine wpAny_bind (thn h4 fun _ s5 ⟨x,H5,I5,r5,y5,st5,fr5⟩=>?_)
  have I5':=I5.pinned (hfp H5 fr5) (T.obj _ _ st5)
  refine wpAny_bind (wpAny_mono (hg _ s5 σ0 H5 x u _ I5' r5 (step x H5 y5)) (fun _ s6 ⟨σ6,H6,I6,hw6,q6⟩=>?_) noE)
  refine wpAny_bind (wpAny_bind (wpAny_mono (he _ s6 σ6 H6 _ I6 q6) (fun v s7 ⟨y,H7,I7,r7,ha7,m',hm',w7⟩=>?_) noE))
  refine wpAny_bind (wpAny_mono (mt_append (X:=blk X N' scope cl s0 H0 C fp) _ s7 σ6 H7 (.ref acc) [y] (.ref acc) [v] (fun _ H8=>H8=upd H7 acc (.lst (ys++[y]))) I7 rfl (.cons r7 .nil) ⟨acc,ys,y,rfl,rfl,ha7,hlen,rfl⟩) (fun _ s8 ⟨_,H8,I8,_,e8⟩=>?_) noE)
  subst e8
  refine wpAny_pure (wpAny_pure ⟨rfl,m',hm',i+1,ys++[y],_,?_,?_,fun b hb=>?_,w7⟩)
  ·exact I8.unpinned.weak hw6.1.symm hw6.2
  ·exact T.keep _ _ _ st5 fun b hb o e=>(I8.pin (b,o) (List.mem_append_right _ (List.mem_append_right _ (mem_pinsAt hb e)))).1
  ·obtain⟨o,e,d⟩:=T.obj _ _ st5 b hb
   exact (I8.pin (b,o) (List.mem_append_right _ (List.mem_append_right _ (mem_pinsAt hb e)))).2.1
theorem lc_core {tg elt iter:Expr} {pos pos':Pos} {wi:TI} {g:TG} {te:TE} {use:Option (Value→Sem Unit)} {Q:VK} {Qf:Value→Shared→Prop} (B:BlkOk X scope cl N' nt ci) (hc:X.calm=true) (hi:PI X tg iter wi)
  (hg:∀ s H C ex,PG (blk X N' scope cl s H C ex) tg g) (he:∀ s H C ex,PE (blk X N' scope cl s H C ex) elt te) (hs:∀ x,foldedSetIterable iter X.env x=pure x) (I:Inv X pins σ H s) (h:tLC X.K nt ci wi g te σ H Q)
  (fin:∀ (acc C:Addr) (s':Shared) (H':Hp),Inv X pins σ H' s'→Q (.ref acc) H'→(∃ m,s'.heap.Ns C m)→FpOk X pins H' C→(∃ o,s'.heap.get? C=some o∧∀ v,o.data≠.cell v)→compPost (model X.prog X.w) X.A X.xe use Qf (.ref acc) C (.ok .next) s') :
  wpAny (model X.prog X.w) X.A (comprehension (.ListComp elt [⟨tg,iter,[],0⟩] scope pos) scope X.env pos' (newList []) false (eval iter X.env) use) Qf X.xe s:=by
 refine wpAny_comprehension_free (use:=use) rfl hs B.clos B.kind B.names (thn (hi pins s σ H _ I h) fun v s1 h1=>thn h1 fun itv s2 h2=>?_)
 obtain⟨it,fp,tn,J,H2,e,I2,T,st2,f2,q2⟩:=h2
 subst e
 have hacc:H2 s2.heap.objs.size=none:=I2.hok.fresh (Nat.le_refl _)
 obtain⟨W,⟨m0,w0⟩,hW⟩:=q2 s2.heap.objs.size hacc
 refine wpAny_newObj_type (wpAny_newFunctionEnv B.cell (by intro y hy;simp at hy) (fun h₁ hns₁ hsb₁=>?_) B.kind)
 dsimp only at hns₁ hsb₁ ⊢
 have hCs:(s2.heap.push { cls:=.type "list",dict:=none,data:=.seq ([]:List Value).toArray }).objs.size=s2.heap.objs.size+1:=Heap.size_push ..
 have k1:∀ b u,s2.heap.get? b=some u→h₁.get? b=some u:=fun b u e=>hsb₁.extBut b u (by rw[hCs];exact Nat.ne_of_lt (Nat.lt_succ_of_lt (Heap.lt_size e))) (Heap.get?_push_of_some _ (Heap.get?_push_of_some _ e))
 have a1:h₁.get? s2.heap.objs.size=some { cls:=.type "list",data:=.seq #[] }:=hsb₁.extBut _ _ (by rw[hCs];exact Nat.ne_of_lt (Nat.lt_succ_self _)) (Heap.get?_push_of_some _ (Heap.get?_push_size _ rfl))
 rw[hCs] at hns₁ ⊢
 have I3:=blk_start (tk:=s2.toks+([]:List (Str×Value)).length) B I2 f2 (fun b hb=>let ⟨o,e,_⟩:=T.obj _ _ st2 b hb;⟨o,e⟩) rfl rfl k1 (by simpa using hns₁) a1
 have hfpB:∀ (H':Hp),(∀ b∈fp,H' b=none)→∀ b∈fp,FpOk (blk X N' scope cl s2 H2 (s2.heap.objs.size+1) fp) [] H' b:=fun H' hn b hb=>by
  obtain⟨f0,f1,f3,f4,f5,f6⟩:=f2 b hb
  obtain⟨o,e,_⟩:=T.obj _ _ st2 b hb
  refine⟨hn b hb,?_,fun z=>?_,.inl hb,fun x c e'=>f5 x c (B.sub x c e'),fun p hp=>absurd (show p∈([]:List (Addr×Obj)) from hp) (by simp)⟩
  ·exact Nat.ne_of_lt (Nat.lt_succ_of_lt (Heap.lt_size e))
  ·rcases List.mem_cons.mp (I2.stkSub b z) with y | y
   ·exact f1 y
   ·exact f3 y
 have hfr3:∀ b∈fp,upd H2 s2.heap.objs.size (.lst []) b=none:=fun b hb=>by
  obtain⟨o,e,_⟩:=T.obj _ _ st2 b hb
  rw[upd_ne (Nat.ne_of_lt (Heap.lt_size e))];exact (f2 b hb).1
 have st3:tn 0 h₁:=T.keep _ _ _ st2 fun b _ o e=>k1 b o e
 have loop:codeAny (model X.prog X.w) X.A (.compLoop (.ListComp elt [⟨tg,iter,[],0⟩] scope pos) 0 (.ref it) (.ref s2.heap.objs.size) (compEnvC scope cl (s2.heap.objs.size+1) X.env))
   (compPost (model X.prog X.w) X.A X.xe use Qf (.ref s2.heap.objs.size) (s2.heap.objs.size+1)) { s2 with heap:=h₁,toks:=s2.toks+([]:List (Str×Value)).length }:=by
  refine lc_loop (Q:=Q) hc (hg _ _ _ _) (he _ _ _ _) T hfpB hW (fun s' H' I' q=>?_) I3 st3 hfr3 w0
  have un:=I'.base
  have ns:=I'.loc
  have fC:H' (s2.heap.objs.size+1)=none:=I'.free
  have I4:Inv X pins σ H' s':=I2.call' I'.os un I'.hok I'.bare fun b hb=>by
   obtain⟨f0,f1,f3,f4,f5,f6⟩:=f2 b hb
   exact⟨f4,f1,f5,f6⟩
  obtain⟨m,hm,_⟩:=ns
  have hm':s'.heap.Ns (s2.heap.objs.size+1) m:=hm
  refine fin _ _ s' H' I4 q ⟨m,hm'⟩ (I2.fpOk (Nat.le_succ _) fC) ?_
  obtain⟨o,es,ep,e,d,_⟩:=hm'
  exact⟨o,e,fun v z=>by rw[d] at z;cases z⟩
 exact codeAny_compStart_list loop (T.self _ _ _ _ _ st3 loop)
theorem pe_lc {tg elt iter:Expr} {pos:Pos} {wi:TI} {g:TG} {te:TE} (B:X.Ok→BlkOk X scope cl N' nt ci) (hc:X.calm=true) (hi:PI X tg iter wi)
  (hg:∀ s H C ex,PG (blk X N' scope cl s H C ex) tg g) (he:∀ s H C ex,PE (blk X N' scope cl s H C ex) elt te) (hs:∀ x,foldedSetIterable iter X.env x=pure x:=by intro _;rfl) :
  PE X (.ListComp elt [⟨tg,iter,[],0⟩] scope pos) (tLC X.K nt ci wi g te):=by
 intro pins s σ H Q I h
 rw[eval_ListComp]
 refine lc_core (B I.ok) hc hi hg he hs I h fun acc C s' H' I' q hm hf ho=>?_
 obtain⟨m,hm⟩:=hm
 obtain⟨f0,f1,f2,f3,f4,f5⟩:=hf
 exact⟨m,hm,fun h' sb=>⟨.ref acc,H',I'.turned (t':=s'.toks) (fun b o hb e=>(sb.2 b hb).trans e) f0 f1 f3 f4 f5,rfl,q⟩⟩
theorem ps_setLC {i:Nat} {x:Str} {tg elt iter:Expr} {pos spos pos':Pos} {wi:TI} {g:TG} {te:TE} (hN:X.N.Nodup) (hi:X.N[i]?=some x) (hx:Loc X.env.scope x) (B:X.Ok→BlkOk X scope cl N' nt ci) (hc:X.calm=true) (hit:PI X tg iter wi)
  (hg:∀ s H C ex,PG (blk X N' scope cl s H C ex) tg g) (he:∀ s H C ex,PE (blk X N' scope cl s H C ex) elt te) (hsw:swapsWith (.ListComp elt [⟨tg,iter,[],0⟩] scope pos) (some (.Name x pos')) spos.line X.env=pure true)
  (hs:∀ x,foldedSetIterable iter X.env x=pure x:=by intro _;rfl) (hf:X.fn x=true∨X.env.scope.names.lookup x=some .local:=by first | exact .inl rfl | exact .inr rfl | assumption) :
  PS X (.Assign [.Name x pos'] (.ListComp elt [⟨tg,iter,[],0⟩] scope pos) spos) (tAsg (tLC X.K nt ci wi g te) (gName i)):=by
 intro pins s σ H D I h
 rw[exec_Assign_Name_used _ _ _ _ hsw]
 refine wpAny_bind (wpAny_standAt (wpAny_bind ?_))
 rw[arm_evalThenUse_ListComp]
 refine wpAny_bind (lc_core (B I.ok) hc hit hg he hs I h fun acc C s' H' I' q hm hfC ho=>?_)
 obtain⟨f0,f1,f2,f3,f4,f5⟩:=hfC
 obtain⟨m,hm⟩:=hm
 obtain⟨o,e,d⟩:=ho
 have Ip:Inv X (pins++[(C,o)]) σ H' s':=I'.pins_of fun p hp=>(List.mem_append.mp hp).elim (fun z=>I'.pin p (List.mem_append_right _ z)) fun z=>by
  have e':p=(C,o):=by simpa using z
  subst e'
  exact⟨e,f0,f1,f2,d⟩
 refine wpAny_assign_Name (store_ok Ip hN hi hx (show RelV (.ref acc) (Value.ref acc) from rfl) (fun s2 I2=>?_) hf)
 have e2:=(I2.pin (C,o) (List.mem_append_right _ (List.mem_append_right _ (by simp)))).1
 obtain⟨o',es,ep,h1,h2,h3⟩:=hm
 rw[e] at h1;cases h1
 refine⟨m,⟨o,es,ep,e2,h2,h3⟩,fun h' sb=>wpAny_pure (wpAny_pure ?_)⟩
 have I3:Inv X pins (σ.set i (some (.ref acc))) H' s2:=I2.unpinned
 exact⟨_,H',I3.turned (t':=s2.toks) (fun b o hb e=>(sb.2 b hb).trans e) f0 f1 f3 f4 f5,q⟩
end
end L2
namespace L2
open PySem PySem.Spec PyProof.Rows
noncomputable def Itz (K:PySem.W.Frag) (a b:Addr):It :=
  ⟨fun i H=>∃ xs ys x y,SqL K H a xs∧SqL K H b ys∧xs[i]?=some x∧ys[i]?=some y,
   fun i H v H'=>∃ T x y,v=.ref T∧H T=none∧H'=upd H T (.tup [x,y])∧(∀ xs,SqL K H a xs→xs[i]?=some x)∧∀ ys,SqL K H b ys→ys[i]?=some y,
   fun i H=>∃ xs ys,SqL K H a xs∧SqL K H b ys∧(xs.length≤i∨ys.length≤i)⟩
noncomputable def zipSt (z TI TO i1 i2 l1 l2:Addr) (i:Nat) (h:Heap):Prop :=
 IsZip h z TI TO .none∧IsPair h TI (.ref i1) (.ref i2)∧(∃ a b,IsPair h TO a b)∧h.IsListIter i1 l1 i∧h.IsListIter i2 l2 i
theorem turn_zip {P:Program} {w:World} {K:PySem.W.Frag} {elts:List Expr} {k0:Nat} {tpos:Pos} (z TI TO i1 i2 l1 l2:Addr) (D:ZipApart z TI TO i1 i2 l1 l2) :
    Turn P w K (.Tuple elts k0 tpos) (Itz K l1 l2) [z,TI,TO,i1,i2] z (zipSt z TI TO i1 i2 l1 l2) where
  mem:=by simp
  obj:=fun i h st b hb=>by
    obtain⟨hz,hTI,⟨a,c,hTO⟩,⟨o1,e1,c1,d1⟩,⟨o2,e2,c2,d2⟩⟩:=st
    simp only[List.mem_cons,List.not_mem_nil,or_false] at hb
    rcases hb with rfl | rfl | rfl | rfl | rfl
    · exact⟨_,hz,fun v q=>by cases q⟩
    · exact⟨_,hTI,fun v q=>by cases q⟩
    · exact⟨_,hTO,fun v q=>by cases q⟩
    · exact⟨o1,e1,fun v q=>by rw[d1] at q;cases q⟩
    · exact⟨o2,e2,fun v q=>by rw[d2] at q;cases q⟩
  keep:=fun i h h' st k=>by
    obtain⟨hz,hTI,⟨a,c,hTO⟩,h1,h2⟩:=st
    exact⟨k z (by simp) _ hz,k TI (by simp) _ hTI,⟨a,c,k TO (by simp) _ hTO⟩,h1.at fun o e=>k i1 (by simp) o e,h2.at fun o e=>k i2 (by simp) o e⟩
  item:=by
    intro X hP hw hK hc i pins s σ H E I hf st hg
    subst hP hw hK
    obtain⟨hz,hTI,⟨a,c,hTO⟩,h1,h2⟩:=st
    obtain⟨xs,ys,x,y,q1,q2,hx,hy⟩:=hg
    obtain⟨its1,rv1,p1,_⟩:=I.list q1
    obtain⟨its2,rv2,p2,_⟩:=I.list q2
    obtain⟨u1,hu1,ru1⟩:=rv1.get hx
    obtain⟨u2,hu2,ru2⟩:=rv2.get hy
    refine wpAny_pyNext_zip_item D hz hTI hTO h1 h2 p1.isList p2.isList (x:=u1) (y:=u2) (by simpa using hu1) (by simpa using hu2) fun h' a1 a2 a3 a4 a5 a6 kk=>?_
    have hT:H s.heap.objs.size=none:=I.hok.fresh (Nat.le_refl _)
    have nch:∀ b u,H b=some u→b ∉ [z,TO,i1,i2]:=fun b u e hb=>by
      have hb':b∈[z,TI,TO,i1,i2]:=by
        simp only[List.mem_cons,List.not_mem_nil,or_false] at hb ⊢
        rcases hb with q | q | q | q
        · exact .inl q
        · exact .inr (.inr (.inl q))
        · exact .inr (.inr (.inr (.inl q)))
        · exact .inr (.inr (.inr (.inr q)))
      rw[(hf b hb').1] at e;cases e
    have kk':∀ b o,b ∉ [z,TO,i1,i2]→s.heap.get? b=some o→h'.get? b=some o:=fun b o hb e=>by
      simp only[List.mem_cons,List.not_mem_nil,or_false,not_or] at hb
      exact kk b o hb.1 hb.2.1 hb.2.2.1 hb.2.2.2 e
    have ltT:∀ b o,s.heap.get? b=some o→b≠s.heap.objs.size:=fun b o e=>Nat.ne_of_lt (Heap.lt_size e)
    have hokT:HOk X.prog X.w (upd H s.heap.objs.size (.tup [x,y])) h':=fun b ob e=>by
      by_cases hb:b=s.heap.objs.size
      · subst hb
        rw[upd_same] at e
        cases e
        exact⟨by show 2≤sizeLine;decide,[u1,u2],.cons ru1 (.cons ru2 .nil),_,a5,rfl,_,rfl⟩
      · rw[upd_ne hb] at e
        refine (I.hok b ob e).stay (fun c v hcv q=>kk' c v ?_ q) (fun c q=>by rw[upd_ne (ne_of_none q hT)];exact q) fun c xs q=>by rw[upd_ne (ne_of_none q hT)];exact q
        rcases hcv with rfl | hcv
        · exact nch _ _ e
        · exact nch _ _ hcv
    have I1:Inv X pins σ (upd H s.heap.objs.size (.tup [x,y])) { s with heap:=h' }:=by
      refine I.step (g':=s.gens) (d':=s.drawn) (t':=s.toks) (ch:=[z,TO,i1,i2]) (fun b hb=>?_) (fun b o _ _ hb e _=>kk' b o hb e) (fun b o _ _ hb e _=>⟨o.slots,kk' b o hb e⟩) (fun b o _ e n=>by rw[upd_ne (ltT b o e)];exact n) (fun b o hb e=>⟨o,kk' b o hb e⟩)
        (fun b xs q=>by rw[upd_ne (ne_of_none q hT)];exact q) (fun b o u q=>by rw[upd_ne (ne_of_none q hT)];exact q) (fun b ps q=>⟨#[],by rw[upd_ne (ne_of_none q hT),q];simp⟩) (fun m hm=>?_) hokT I.bare
      · have hb':b∈[z,TI,TO,i1,i2]:=by
          simp only[List.mem_cons,List.not_mem_nil,or_false] at hb ⊢
          rcases hb with q | q | q | q
          · exact .inl q
          · exact .inr (.inr (.inl q))
          · exact .inr (.inr (.inr (.inl q)))
          · exact .inr (.inr (.inr (.inr q)))
        obtain⟨f0,f1,f2,f3,f4,f5⟩:=hf b hb'
        exact⟨f3,f1,f4,f5⟩
      · obtain⟨o,es,ep,ho,r⟩:=hm
        refine⟨o,es,ep,kk' _ o ?_ ho,r⟩
        simp only[List.mem_cons,List.not_mem_nil,or_false,not_or]
        exact⟨((hf z (by simp)).2.1).symm,((hf TO (by simp)).2.1).symm,((hf i1 (by simp)).2.1).symm,((hf i2 (by simp)).2.1).symm⟩
    refine⟨_,rfl,wpAny_letOwnedTupleGo_zip a1 fun h'' hz'' sb=>?_⟩
    obtain⟨f0,f1,f2,f3,f4,f5⟩:=hf z (by simp)
    have ltz:∀ b∈[z,TI,TO,i1,i2],b≠s.heap.objs.size:=fun b hb=>by
      simp only[List.mem_cons,List.not_mem_nil,or_false] at hb
      obtain⟨o1,e1,_⟩:=h1
      obtain⟨o2,e2,_⟩:=h2
      rcases hb with rfl | rfl | rfl | rfl | rfl
      · exact ltT _ _ hz
      · exact ltT _ _ hTI
      · exact ltT _ _ hTO
      · exact ltT _ _ e1
      · exact ltT _ _ e2
    have fn:∀ b∈[z,TI,TO,i1,i2],upd H s.heap.objs.size (.tup [x,y]) b=none:=fun b hb=>by rw[upd_ne (ltz b hb)];exact (hf b hb).1
    have I2:Inv X pins σ (upd H s.heap.objs.size (.tup [x,y])) { s with heap:=h'' }:=I1.turned (t':=s.toks) (fun b o hb e=>(sb.2 b hb).trans e) (fn z (by simp)) f1 f3 f4 f5
    refine⟨.ref s.heap.objs.size,_,I2,rfl,⟨_,x,y,rfl,hT,rfl,fun ys hy'=>by rw[I.list_inj hy' q1];exact hx,fun ys hy'=>by rw[I.list_inj hy' q2];exact hy⟩,⟨hz'',?_,⟨u1,u2,?_⟩,?_,?_⟩,fn⟩
    · exact (sb.2 TI D.TIz).trans (kk' TI _ (by simp only[List.mem_cons,List.not_mem_nil,or_false,not_or];exact⟨D.TIz,D.TITO,D.TIi1,D.TIi2⟩) hTI)
    · exact (sb.2 TO D.TOz).trans a2
    · exact a3.extBut sb.extBut D.i1z
    · exact a4.extBut sb.extBut D.i2z
  done:=by
    intro X hP hw hK hc i pins s σ H E I hf st hg
    subst hP hw hK
    obtain⟨hz,hTI,⟨a,c,hTO⟩,h1,h2⟩:=st
    obtain⟨xs,ys,q1,q2,hend⟩:=hg
    obtain⟨its1,rv1,p1,_⟩:=I.list q1
    obtain⟨its2,rv2,p2,_⟩:=I.list q2
    have e1:=rv1.length
    have e2:=rv2.length
    refine wpAny_pyNext_zip_end (I.ok.hd hc) D hz hTI hTO h1 h2 p1.isList p2.isList ?_ fun h' kk=>⟨rfl,?_⟩
    · rcases hend with q | q
      · exact .inl (by simp;omega)
      · exact .inr (by simp;omega)
    · have nch:∀ b u,H b=some u→b ∉ [z,TO,i1,i2]:=fun b u e hb=>by
        have hb':b∈[z,TI,TO,i1,i2]:=by
          simp only[List.mem_cons,List.not_mem_nil,or_false] at hb ⊢
          rcases hb with q | q | q | q
          · exact .inl q
          · exact .inr (.inr (.inl q))
          · exact .inr (.inr (.inr (.inl q)))
          · exact .inr (.inr (.inr (.inr q)))
        rw[(hf b hb').1] at e;cases e
      have kk':∀ b o,b ∉ [z,TO,i1,i2]→s.heap.get? b=some o→h'.get? b=some o:=fun b o hb e=>by
        simp only[List.mem_cons,List.not_mem_nil,or_false,not_or] at hb
        exact kk b o hb.1 hb.2.1 hb.2.2.1 hb.2.2.2 e
      have hok':HOk X.prog X.w H h':=fun b ob e=>by
        refine (I.hok b ob e).stay (fun c v hcv q=>kk' c v ?_ q) (fun c q=>q) fun c xs q=>q
        rcases hcv with rfl | hcv
        · exact nch _ _ e
        · exact nch _ _ hcv
      refine I.step (g':=s.gens) (d':=s.drawn) (t':=s.toks) (ch:=[z,TO,i1,i2]) (fun b hb=>?_) (fun b o _ _ hb e _=>kk' b o hb e) (fun b o _ _ hb e _=>⟨o.slots,kk' b o hb e⟩) (fun b o _ e n=>n) (fun b o _ e=>?_)
        (fun b xs q=>q) (fun b o u q=>q) (fun b ps q=>⟨#[],by rw[q];simp⟩) (fun m hm=>?_) hok' I.bare
      · have hb':b∈[z,TI,TO,i1,i2]:=by
          simp only[List.mem_cons,List.not_mem_nil,or_false] at hb ⊢
          rcases hb with q | q | q | q
          · exact .inl q
          · exact .inr (.inr (.inl q))
          · exact .inr (.inr (.inr (.inl q)))
          · exact .inr (.inr (.inr (.inr q)))
        obtain⟨f0,f1,f2,f3,f4,f5⟩:=hf b hb'
        exact⟨f3,f1,f4,f5⟩
      · rename_i hb
        exact⟨o,kk' b o hb e⟩
      · obtain⟨o,es,ep,ho,r⟩:=hm
        refine⟨o,es,ep,kk' _ o ?_ ho,r⟩
        simp only[List.mem_cons,List.not_mem_nil,or_false,not_or]
        exact⟨((hf z (by simp)).2.1).symm,((hf TO (by simp)).2.1).symm,((hf i1 (by simp)).2.1).symm,((hf i2 (by simp)).2.1).symm⟩
  self:=fun _ _ _ _ _ st h=>wpAny_pyIter_zip st.1 h
section
variable {X:Cx}
noncomputable def iZip (K:PySem.W.Frag) (ta:TA):TI:=fun σ H R=>ta σ H fun vs H1=>∃ a b,vs=[.ref a,.ref b]∧(∃ xs,SqL K H1 a xs)∧(∃ ys,SqL K H1 b ys)∧R (Itz K a b) H1
theorem pi_zip {a b:Expr} {ta:TA} {p pos:Pos} {elts:List Expr} {k0:Nat} {tpos:Pos} (hg:Gl X "zip") (hm:X.mg "zip"=none) (ha:PA X [a,b] ta) (hs:starEach [a,b] X.env=[(false,eval a X.env),(false,eval b X.env)]:=by rfl) (hs2:starEach [b] X.env=[(false,eval b X.env)]:=by rfl) :
  PI X (.Tuple elts k0 tpos) (.Call (.Name "zip" p) [a,b] [] pos) (iZip X.K ta):=by
 intro pins s σ H R I h
 refine Call_ (ld_blt I hg hm (by first | exact PySem.boot_zip | rfl) (PyProof.Rows.callWith_type1 (thn (ha pos pins s σ H _ I h) fun us s1 ⟨vs,H1,I1,r1,q1⟩=>?_) (by rw[hs,hs2]) (by rw[hs2];rfl)))
 obtain⟨l1,l2,e,⟨xs,q1⟩,⟨ys,q2⟩,q⟩:=q1
 subst e
 obtain⟨u1,u2,rfl,ru1,ru2⟩:=vals2 r1
 cases ru1
 cases ru2
 obtain⟨its1,rv1,p1,_⟩:=I1.list q1
 obtain⟨its2,rv2,p2,_⟩:=I1.list q2
 have a1:l1 < s1.heap.objs.size:=by obtain⟨_,e,_⟩:=p1.isList;exact Heap.lt_size e
 have a2:l2 < s1.heap.objs.size:=by obtain⟨_,e,_⟩:=p2.isList;exact Heap.lt_size e
 refine call_zip_2 p1.isList p2.isList fun h' hz hTI hTO hi1 hi2 _ hk=>wpAny_pyIter_zip hz ?_
 have I2:Inv X pins σ H1 { s1 with heap:=h' }:=I1.kept (t':=s1.toks) hk
 refine⟨_,_,_,_,H1,rfl,I2,turn_zip _ _ _ _ _ l1 l2 (zipApart_new a1 a2),⟨hz,hTI,⟨_,_,hTO⟩,hi1,hi2⟩,fun b hb=>?_,q⟩
 have hb':s1.heap.objs.size≤b:=by
  simp only[List.mem_cons,List.not_mem_nil,or_false] at hb
  rcases hb with rfl | rfl | rfl | rfl | rfl<;>omega
 exact I1.fpOk hb' (I1.hok.fresh hb')
theorem for_zip {K:PySem.W.Frag} {a b:Addr} {xs ys:List V} {g:TG} {tb:TS} {D:Ends} {σ:St} {H:Hp} (Pv:Nat→St→Hp→Prop) (hxy:xs.length=ys.length) (h0:Pv 0 σ H) (hl:∀ i σ H,i≤xs.length→Pv i σ H→SqL K H a xs∧SqL K H b ys)
  (hs:∀ i x y σ H T,xs[i]?=some x→ys[i]?=some y→H T=none→Pv i σ H→g (.ref T) σ (upd H T (.tup [x,y])) fun σ2 H2=>tb { D with nx:=Pv (i+1),ct:=Pv (i+1),bk:=D.nx } σ2 H2) (hd:∀ σ H,Pv xs.length σ H→D.nx σ H) :
  ∃ W:Nat→Nat→St→Hp→Prop,(∃ m,W 0 m σ H)∧∀ i m σ H,W i m σ H →
   ((Itz K a b).stop i H∧D.nx σ H)∨((Itz K a b).go i H∧∃ N:St→Hp→Prop,(∀ σ' H',N σ' H'→∃ m',m' < m∧W (i+1) m' σ' H')∧∀ x H',(Itz K a b).yld i H x H'→g x σ H' fun σ2 H2=>tb { D with nx:=N,ct:=N,bk:=D.nx } σ2 H2):=by
 refine⟨fun i m σ H=>m=xs.length - i∧i≤xs.length∧Pv i σ H,⟨xs.length,by simp,Nat.zero_le _,h0⟩,?_⟩
 rintro i m σ H ⟨rfl,hi,p⟩
 obtain⟨q1,q2⟩:=hl i σ H hi p
 by_cases hlt:i < xs.length
 ·refine .inr ⟨⟨xs,ys,xs[i],ys[i],q1,q2,by simp[hlt],by simp[hxy▸hlt]⟩,Pv (i+1),fun σ' H' p'=>⟨xs.length - (i+1),by omega,rfl,hlt,p'⟩,fun v H' z=>?_⟩
  obtain⟨T,x,y,rfl,hT,rfl,z1,z2⟩:=z
  exact hs i x y σ H T (z1 xs q1) (z2 ys q2) hT p
 ·have e:i=xs.length:=by omega
  subst e
  exact .inl ⟨⟨xs,ys,q1,q2,.inl (Nat.le_refl _)⟩,hd σ H p⟩
end
end L2
namespace PySem
open Sem (wp)
namespace F
end F
end PySem
namespace L2
open PySem PySem.Spec PyProof.Rows
end L2
namespace L2
open PySem PySem.Spec PyProof.Rows
structure KDict (K:PySem.W.Frag) (w:World) (a:Addr) (kvs:List (Str×V)):Prop where
 ex:∃ (o:Obj) (es:Array DictEntry) (ep:Nat),K.lookup a=some o∧o.ExactDict∧o.data=.dict es ep∧Paired (fun (p:Str×V) (e:DictEntry)=>(∃ tk,e.key=.str p.1 tk)∧e.hash=PyData.keyHash w.params p.1∧RelV p.2 e.val) kvs es.toList
 nd:(kvs.map (·.1)).Nodup
 ns:(a == sysModules)=false
noncomputable def kvK (kvs:List (Str×V)):List (Key×V):=kvs.map fun p=>(Sum.inr p.1,p.2)
section
variable {X:Cx} {pins:List (Addr×Obj)} {σ:St} {H:Hp} {s:Shared} {a:Addr} {kvs:List (Str×V)}
theorem kd_pairs {P:Program} {w:World}:∀ {kvs:List (Str×V)} {es:List DictEntry},Paired (fun (p:Str×V) (e:DictEntry)=>(∃ tk,e.key=.str p.1 tk)∧e.hash=PyData.keyHash w.params p.1∧RelV p.2 e.val) kvs es →
  (∀ e∈es,∃ k,(mixKind P w).is k e.key=true∧e.hash=(mixKind P w).hash k)∧Pairs (mixKind P w) es (List.zip (kvs.map fun p=>(Sum.inr p.1:Key)) (es.map (·.val)))∧KV (kvK kvs) (List.zip (kvs.map fun p=>(Sum.inr p.1:Key)) (es.map (·.val)))
 | [],_,r=>by cases r;exact⟨(fun _ h=>(nomatch h)),.nil,.nil⟩
 | p :: kvs,_,r=>by
  cases r with
  | @cons _ e _ es h t =>
   obtain⟨⟨tk,h1⟩,h2,h3⟩:=h
   obtain⟨q1,q2,q3⟩:=kd_pairs (P:=P) t
   have hi:(mixKind P w).is (Sum.inr p.1) e.key=true:=by rw[h1];exact mixKind_str P w p.1 tk
   refine⟨fun e' he=>?_,.cons hi rfl q2,.cons ⟨rfl,h3⟩ q3⟩
   rcases List.mem_cons.mp he with rfl | he
   ·exact⟨Sum.inr p.1,hi,h2⟩
   ·exact q1 e' he
theorem KDict.of (D:KDict X.K X.w a kvs) (I:Inv X pins σ H s):∃ vs,KV (kvK kvs) vs∧s.heap.DictOf (mixKind X.prog X.w) a vs:=by
 obtain⟨o,es,ep,lk,ex,d,pr⟩:=D.ex
 obtain⟨q1,q2,q3⟩:=kd_pairs (P:=X.prog) pr
 refine⟨_,q3,o,es,ep,I.kIn a o lk,ex,d,fun e he=>q1 e (by simpa using he),q2,?_⟩
 have e:(List.zip (kvs.map fun p=>(Sum.inr p.1:Key)) (es.toList.map (·.val))).map (·.1)=kvs.map fun p=>(Sum.inr p.1:Key):=by
  rw[List.map_fst_zip]
  have:=Paired.length pr
  simp only[List.length_map];omega
 rw[e]
 have inj:∀ l:List (Str×V),(l.map (·.1)).Nodup→(l.map fun p=>(Sum.inr p.1:Key)).Nodup:=by
  intro l
  induction l with
  | nil=>intro _;exact List.nodup_nil
  | cons p r ih =>
   intro h
   rw[List.map_cons,List.nodup_cons] at h
   rw[List.map_cons,List.nodup_cons]
   refine⟨fun m=>h.1 ?_,ih h.2⟩
   obtain⟨q,hq,eq⟩:=List.mem_map.mp m
   exact List.mem_map.mpr ⟨q,hq,Sum.inr.inj eq⟩
 exact inj kvs D.nd
theorem valV_kvK (kvs:List (Str×V)) (x:Str):valV (kvK kvs) (Sum.inr x)=kvs.lookup x:=by
 unfold valV kvK
 induction kvs with
 | nil=>rfl
 | cons p r ih =>
  rw[List.map_cons,List.find?_cons]
  obtain⟨k,v⟩:=p
  by_cases e:k=x
  ·subst e;simp[List.lookup_cons]
  ·have e1:¬ (Sum.inr k:Key)=Sum.inr x:=fun q=>e (Sum.inr.inj q)
   have e2:(x == k)=false:=beq_eq_false_iff_ne.mpr (Ne.symm e)
   simp only[decide_eq_false e1,List.lookup_cons,e2]
   exact ih
noncomputable def tKD (kvs:List (Str×V)) (ti:TE):TE:=fun σ H Q=>ti σ H fun y H1=>∃ x v,y=.str x∧kvs.lookup x=some v∧Q v H1
theorem pe_kdget {name:Str} {i:Expr} {ti:TE} {p pos:Pos} (D:KDict X.K X.w a kvs) (hg:Gl X name) (hm:X.mg name=some (.ref a)) (hi:PE X i ti) (hs:NoSl i:=by exact fun _ _=>rfl) (hd:(name == ("__debug__":Str))=false:=by decide) :
  PE X (.Subscript (.Name name p) i pos) (tKD kvs ti):=by
 intro pins s σ H Q I h
 refine subD_of PySem.F.slot_dict_getitem.lookup hs (ld_glob I hg hm (thn (hi pins s σ H _ I h) fun iv s2 ⟨y,H2,I2,ry,x,v,ey,hl,q2⟩=>?_) hd)
 subst ey
 obtain⟨vs,rel,dd⟩:=D.of I2
 obtain⟨w',hw,rw'⟩:=RelO.some_of (v:=v) (o:=valueAt vs (Sum.inr x)) (by rw[← hl,← valV_kvK];exact rel.val (Sum.inr x))
 exact⟨dd.typeIs,wpAny_getItem_of (kV_is (k:=Sum.inr x) ry) dd.mapOf hw ⟨v,H2,I2.tok _,rw',q2⟩⟩
end
end L2
namespace L2
open PySem PySem.Spec PyProof.Rows
section
variable {X:Cx} {scope:Scope} {N':List Str}
theorem relabel_nofree {scope:Scope} {env:Env} (h:∀ y∈scope.names,y.2≠.free):(relabel scope env).names=scope.names:=by
 unfold relabel
 simp only
 have aux:∀ l:List (Str×NameKind),(∀ y∈l,y.2≠.free)→l.map (fun (n,k)=>if (k == NameKind.free&&env.scope.kind == .function&&env.kindOf n == some .cell) then (n,NameKind.cell) else (n,k))=l:=by
  intro l
  induction l with
  | nil=>intro _;rfl
  | cons y r ih =>
   intro h
   rw[List.map_cons,ih fun z hz=>h z (List.mem_cons_of_mem _ hz)]
   obtain⟨n,k⟩:=y
   have:(k == NameKind.free)=false:=by simpa using h (n,k) List.mem_cons_self
   simp[this]
 exact aux _ h
theorem blk0 (hc:∀ y∈scope.names,y.2≠.cell) (hf:∀ y∈scope.names,y.2≠.free) (hk:scope.kind=.function) (hn:∀ y∈scope.names,y.2=.local→scope.names.lookup y.1=some .local) (_:X.Ok):BlkOk X scope [] N' N'.length [] where
 clos:=closureFor_none hf
 cell:=hc
 kind:=hk
 names:=hn
 sub:=fun _ _ h=>by cases h
 has:=fun x h=>by
  rw[relabel_nofree hf] at h
  rcases h with h | h
  ·exact absurd rfl (hc _ (PySem.mem_of_lookup h))
  ·exact absurd rfl (hf _ (PySem.mem_of_lookup h))
 len:=by simp
 cap:=fun j i h=>by simp at h
noncomputable def closL (cells:List (Str×Addr)):List (Str×NameKind)→List (Str×Addr)→List (Str×Addr)
 | [],acc=>acc
 | (n,k) :: r,acc=>if k == .free then closL cells r ((n,(cells.lookup n).getD 0) :: acc) else closL cells r acc
theorem closL_eq {env:Env}:∀ (names:List (Str×NameKind)) (acc:List (Str×Addr)),(∀ y∈names,y.2=.free→∃ c,env.cells.lookup y.1=some c) →
  (forIn names acc fun (x:Str×NameKind) cs=>(match x with | (name,kind)=>if (kind == .free)=true then do let c ← cellOf env name;pure (ForInStep.yield ((name,c) :: cs)) else pure (ForInStep.yield cs):Sem (ForInStep (List (Str×Addr)))))=pure (closL env.cells names acc)
 | [],acc,_=>rfl
 | (n,k) :: r,acc,h=>by
  rw[List.forIn_cons]
  unfold closL
  by_cases hk:(k == NameKind.free)=true
  ·obtain⟨c,hc⟩:=h (n,k) List.mem_cons_self (by simpa using hk)
   have e:cellOf env n=pure c:=by unfold cellOf;rw[show env.cells.lookup n=some c from hc]
   have hc':env.cells.lookup n=some c:=hc
   simp only[hk,if_true,e,pure_bind,hc',Option.getD_some]
   exact closL_eq r _ fun y hy=>h y (List.mem_cons_of_mem _ hy)
  ·simp only[hk,if_false,pure_bind]
   exact closL_eq r acc fun y hy=>h y (List.mem_cons_of_mem _ hy)
theorem closureFor_eq {scope:Scope} {env:Env} (h:∀ y∈scope.names,y.2=.free→∃ c,env.cells.lookup y.1=some c):closureFor scope env=pure (closL env.cells scope.names []):=by
 unfold closureFor
 have e:=closL_eq (env:=env) scope.names [] h
 simp only[bind_pure_comp] at e ⊢
 first
  | exact e
  | (rw[e];rfl)
  | (refine Eq.trans ?_ e;rfl)
theorem closL_mem {cells:List (Str×Addr)}:∀ {names:List (Str×NameKind)} {acc:List (Str×Addr)} {x:Str} {c:Addr},(x,c)∈closL cells names acc→(x,c)∈acc∨((x,NameKind.free)∈names∧c=(cells.lookup x).getD 0)
 | [],acc,x,c,h=>.inl h
 | (n,k) :: r,acc,x,c,h=>by
  unfold closL at h
  by_cases hk:(k == NameKind.free)=true
  ·rw[if_pos hk] at h
   have hk':k=.free:=by simpa using hk
   rcases closL_mem h with h | ⟨h1,h2⟩
   ·rcases List.mem_cons.mp h with e | h
    ·cases e
     subst hk'
     exact .inr ⟨List.mem_cons_self,rfl⟩
    ·exact .inl h
   ·exact .inr ⟨List.mem_cons_of_mem _ h1,h2⟩
  ·rw[if_neg hk] at h
   rcases closL_mem h with h | ⟨h1,h2⟩
   ·exact .inl h
   ·exact .inr ⟨List.mem_cons_of_mem _ h1,h2⟩
theorem closL_has {cells:List (Str×Addr)}:∀ {names:List (Str×NameKind)} {acc:List (Str×Addr)} {x:Str},(x,NameKind.free)∈names∨(∃ c,(x,c)∈acc)→∃ c,(x,c)∈closL cells names acc
 | [],acc,x,h=>by
  rcases h with h | h
  ·cases h
  ·exact h
 | (n,k) :: r,acc,x,h=>by
  unfold closL
  by_cases hk:(k == NameKind.free)=true
  ·rw[if_pos hk]
   refine closL_has ?_
   rcases h with h | ⟨c,h⟩
   ·rcases List.mem_cons.mp h with e | h
    ·cases e
     exact .inr ⟨_,List.mem_cons_self⟩
    ·exact .inl h
   ·exact .inr ⟨c,List.mem_cons_of_mem _ h⟩
  ·rw[if_neg hk]
   refine closL_has ?_
   rcases h with h | h
   ·rcases List.mem_cons.mp h with e | h
    ·cases e
     exact absurd (beq_self_eq_true NameKind.free) hk
    ·exact .inl h
   ·exact .inr h
theorem lookup_of_mem {l:List (Str×Addr)} {x:Str} {c:Addr} (h:(x,c)∈l):∃ c',l.lookup x=some c':=by
 induction l with
 | nil=>cases h
 | cons p r ih =>
  obtain⟨n,a⟩:=p
  by_cases e:(x == n)=true
  ·exact⟨a,by simp[List.lookup_cons,e]⟩
  ·have e':(x == n)=false:=by simpa using e
   rcases List.mem_cons.mp h with h | h
   ·cases h;simp at e
   ·obtain⟨c',q⟩:=ih h
    exact⟨c',by simp only[List.lookup_cons,e'];exact q⟩
theorem relabel_free {env:Env}:∀ {names:List (Str×NameKind)} {x:Str} {k:NameKind},(names.map fun (n,k)=>if (k == NameKind.free&&env.scope.kind == .function&&env.kindOf n == some .cell) then (n,NameKind.cell) else (n,k)).lookup x=some k→(k=.cell∨k=.free)→(∀ y∈names,y.2≠.cell)→(x,NameKind.free)∈names
 | [],x,k,h,_,_=>by cases h
 | (n,j) :: r,x,k,h,hk,hc=>by
  rw[List.map_cons] at h
  by_cases e:(x == n)=true
  ·have e':x=n:=by simpa using e
   subst e'
   have hj:j≠.cell:=hc (x,j) List.mem_cons_self
   by_cases q:(j == NameKind.free&&env.scope.kind == .function&&env.kindOf x == some .cell)=true
   ·have:j=.free:=by
     rw[Bool.and_eq_true,Bool.and_eq_true] at q
     simpa using q.1.1
    subst this
    exact List.mem_cons_self
   ·simp only[q,if_false,List.lookup_cons,beq_self_eq_true] at h
    have h':j=k:=by simpa using h
    subst h'
    rcases hk with z | z
    ·exact absurd z hj
    ·subst z;exact List.mem_cons_self
  ·have e':(x == n)=false:=by simpa using e
   refine List.mem_cons_of_mem _ (relabel_free (env:=env) (k:=k) ?_ hk fun y hy=>hc y (List.mem_cons_of_mem _ hy))
   have h':List.lookup x ((if (j == NameKind.free&&env.scope.kind == .function&&env.kindOf n == some .cell)=true then (n,NameKind.cell) else (n,j)) :: _)=some k:=h
   by_cases q:(j == NameKind.free&&env.scope.kind == .function&&env.kindOf n == some .cell)=true
   ·rw[if_pos q,List.lookup_cons,e'] at h';exact h'
   ·rw[if_neg q,List.lookup_cons,e'] at h';exact h'
theorem relabel_cell {env:Env} {x:Str} (h1:env.scope.kind=.function) (h2:env.kindOf x=some .cell):∀ {names:List (Str×NameKind)},names.lookup x=some .free→(names.map fun (n,k)=>if (k == NameKind.free&&env.scope.kind == .function&&env.kindOf n == some .cell) then (n,NameKind.cell) else (n,k)).lookup x=some .cell
 | [],h=>by cases h
 | (n,j) :: r,h=>by
  rw[List.map_cons]
  by_cases e:(x == n)=true
  ·have e':x=n:=by simpa using e
   subst e'
   simp only[List.lookup_cons,beq_self_eq_true] at h
   have hj:j=.free:=by simpa using h
   subst hj
   have q:((NameKind.free == NameKind.free)&&env.scope.kind == .function&&env.kindOf x == some .cell)=true:=by rw[h1,h2];rfl
   show List.lookup x ((if ((NameKind.free == NameKind.free)&&env.scope.kind == .function&&env.kindOf x == some .cell)=true then (x,NameKind.cell) else (x,NameKind.free)) :: _)=_
   rw[if_pos q,List.lookup_cons,beq_self_eq_true]
  ·have e':(x == n)=false:=by simpa using e
   simp only[List.lookup_cons,e'] at h
   by_cases q:(j == NameKind.free&&env.scope.kind == .function&&env.kindOf n == some .cell)=true
   ·show List.lookup x ((if (j == NameKind.free&&env.scope.kind == .function&&env.kindOf n == some .cell)=true then (n,NameKind.cell) else (n,j)) :: _)=_
    rw[if_pos q,List.lookup_cons,e'];exact relabel_cell h1 h2 h
   ·show List.lookup x ((if (j == NameKind.free&&env.scope.kind == .function&&env.kindOf n == some .cell)=true then (n,NameKind.cell) else (n,j)) :: _)=_
    rw[if_neg q,List.lookup_cons,e'];exact relabel_cell h1 h2 h
noncomputable def capOk (N':List Str) (nt:Nat) (ci:List Nat) (Xn:List Str) (fsc scope:Scope):Bool :=
 (List.range ci.length).all fun j=>match ci[j]?,N'[nt+j]? with
  | some i,some x=>Xn[i]? == some x&&fsc.names.lookup x == some .cell&&scope.names.lookup x == some .free
  | _,_=>false
theorem blkC {nt:Nat} {ci:List Nat} (Xn:List Str) (fsc:Scope) (hN:X.N=Xn) (hs:X.env.scope=fsc) (hc:∀ y∈scope.names,y.2≠.cell) (hk:scope.kind=.function) (hn:∀ y∈scope.names,y.2=.local→scope.names.lookup y.1=some .local)
  (hfr:∀ y∈scope.names,y.2=.free→fsc.names.lookup y.1=some .cell) (hl:N'.length=nt+ci.length) (cap:capOk N' nt ci Xn fsc scope=true) (ok:X.Ok):BlkOk X scope (closL X.env.cells scope.names []) N' nt ci:=by
 have fr:∀ y∈scope.names,y.2=.free→∃ c,X.env.cells.lookup y.1=some c:=fun y hy e=>ok.has y.1 (.inl (by show X.env.scope.names.lookup y.1=_;rw[hs];exact hfr y hy e))
 have sub:∀ x c,(closL X.env.cells scope.names []).lookup x=some c→X.env.cells.lookup x=some c:=fun x c h=>by
  rcases closL_mem (PySem.mem_of_lookup h) with z | ⟨z1,z2⟩
  ·cases z
  ·obtain⟨c',e⟩:=fr _ z1 rfl
   rw[show X.env.cells.lookup x=some c' from e] at z2 ⊢
   rw[z2];rfl
 refine⟨closureFor_eq fr,hc,hk,hn,sub,fun x h=>?_,hl,fun j i h=>?_⟩
 ·have hm:(x,NameKind.free)∈scope.names:=by
   rcases h with h | h
   ·exact relabel_free h (.inl rfl) hc
   ·exact relabel_free h (.inr rfl) hc
  obtain⟨c,q⟩:=closL_has (cells:=X.env.cells) (acc:=[]) (.inl hm)
  exact lookup_of_mem q
 ·unfold capOk at cap
  rw[List.all_eq_true] at cap
  have hj:j < ci.length:=(List.getElem?_eq_some_iff.mp h).1
  have q:=cap j (List.mem_range.mpr hj)
  rw[h] at q
  cases e:N'[nt+j]? with
  | none=>rw[e] at q;cases q
  | some x =>
   rw[e] at q
   simp only[Bool.and_eq_true,beq_iff_eq] at q
   refine⟨x,rfl,by rw[hN];exact q.1.1,by rw[hs];exact q.1.2,.inl (relabel_cell ok.kind ?_ q.2)⟩
   show X.env.scope.names.lookup x=_
   rw[hs];exact q.1.2
end
theorem Same.sqt {K:PySem.W.Frag} {H H':Hp} {a:Addr} {xs:List V} (e:Same H H') (h:SqT K H a xs):SqT K H' a xs:=by
 rcases h with (h | ⟨o,h⟩) | h
 ·exact .inl (.inl (e _ _ h))
 ·exact .inl (.inr ⟨o,e _ _ h⟩)
 ·exact .inr h
theorem Same.keepT {K:PySem.W.Frag} {H H':Hp} (e:Same H H'):KeepT K H H':=fun _ _ h=>e.sqt h
theorem same_new {H:Hp} {p:Addr} (h:H p=none) (o:HO):Same H (upd H p o):=fun b u q=>by rw[upd_ne (ne_of_none q h)];exact q
theorem KeepT.trans {K:PySem.W.Frag} {H H1 H2:Hp} (a:KeepT K H H1) (b:KeepT K H1 H2):KeepT K H H2:=fun x xs h=>b x xs (a x xs h)
theorem keepT_lst {K:PySem.W.Frag} {H:Hp} {l:Addr} {xs:List V} {o:HO} (h:H l=some (.lst xs)):KeepT K H (upd H l o):=fun a ys q=>by
 rcases q with (q | ⟨ob,q⟩) | q
 ·exact .inl (.inl (by rw[upd_ne (ne_of q h (by intro z;cases z))];exact q))
 ·exact .inl (.inr ⟨ob,by rw[upd_ne (ne_of q h (by intro z;cases z))];exact q⟩)
 ·exact .inr q
theorem keepT_new {K:PySem.W.Frag} {H:Hp} {l:Addr} {o:HO} (h:H l=none):KeepT K H (upd H l o):=(same_new h o).keepT
theorem Same.write {H0 H:Hp} {l:Addr} {o:HO} (e:Same H0 H) (h:H0 l=none):Same H0 (upd H l o):=fun b u q=>by
 rw[upd_ne (ne_of_none q h)];exact e b u q
theorem cxOf_K (CX:CXT) (P:Program) (w:World) (K:PySem.W.Frag) (mg:Str→Option Value) (base:Heap) (N:List Str) (qual:Str) (scope:Scope) (f:Addr) (cd:Value) (A:Around) (outer:List Env) (s:Shared) (H:Hp) (E:XK):(cxOf CX P w K mg base N qual scope f cd A outer s H E).K=K:=rfl
theorem blk_K (X:Cx) (N':List Str) (scope:Scope) (cl:List (Str×Addr)) (s:Shared) (H:Hp) (C:Addr) (ex:List Addr):(blk X N' scope cl s H C ex).K=X.K:=rfl
theorem scal_int (a b:Int):scal (.int a) (.int b)=true:=rfl
theorem scal_str (a b:Str):scal (.str a) (.str b)=true:=rfl
theorem scal_bl (a b:Bool):scal (.bl a) (.bl b)=true:=rfl
theorem mul_left {i j:Int} (h1:-(2 ^ 64) < i) (h2:i < 2 ^ 64):CMul i j:=.inl ⟨h1,h2⟩
theorem mul_right {i j:Int} (h1:-(2 ^ 64) < j) (h2:j < 2 ^ 64):CMul i j:=.inr ⟨h1,h2⟩
theorem seq_then {t u:TS} {D:Ends} {σ:St} {H:Hp} (R:St→Hp→Prop) (rest:∀ σ' H',R σ' H'→u D σ' H') (first:∀ C:St→Hp→Prop,(∀ σ' H',R σ' H'→C σ' H')→t { D with nx:=C } σ H):tSeq t u D σ H:=first (u D) rest
theorem lcW_range {K:PySem.W.Frag} {σ0:St} {n:Nat} {lo:Int} {acc:Addr} {g:TG} {te:TE} {Q:VK} {H:Hp} (Pv:Nat→List V→Hp→Prop) (h0:Pv 0 [] (upd H acc (.lst []))) (hl:∀ i ys H2,i≤n→Pv i ys H2→H2 acc=some (.lst ys)∧ys.length < sizeLine)
  (hs:∀ i ys H2,i < n→Pv i ys H2→∀ C:VK,(∀ y H5,H5 acc=some (.lst ys)→Pv (i+1) (ys++[y]) (upd H5 acc (.lst (ys++[y])))→C y H5)→g (.int (lo+i)) σ0 H2 fun σ4 H4=>Wk σ0 σ4∧te σ4 H4 C) (hd:∀ ys H2,Pv n ys H2→Q (.ref acc) H2) :
  ∃ W:Nat→Nat→List V→Hp→Prop,(∃ m,W 0 m [] (upd H acc (.lst [])))∧lcW K σ0 (Itr lo n) acc g te Q W:=by
 refine⟨fun i m ys H2=>m=n - i∧i≤n∧Pv i ys H2,⟨n,by simp,Nat.zero_le _,h0⟩,?_⟩
 rintro i m ys H2 ⟨rfl,hi,p⟩
 obtain⟨a,b⟩:=hl i ys H2 hi p
 refine⟨a,b,?_⟩
 by_cases hlt:i < n
 ·refine .inr ⟨hlt,fun x H3 y=>?_⟩
  obtain⟨e,y⟩:=y
  subst e y
  exact hs i ys _ hlt p _ fun v H5 z1 z2=>⟨z1,n - (i+1),by omega,rfl,hlt,z2⟩
 ·have e:i=n:=by omega
  subst e
  exact .inl ⟨Nat.le_refl _,hd ys H2 p⟩
theorem lcW_list {K:PySem.W.Frag} {σ0:St} {a:Addr} {xs:List V} {acc:Addr} {g:TG} {te:TE} {Q:VK} {H:Hp} (Pv:Nat→List V→Hp→Prop) (h0:Pv 0 [] (upd H acc (.lst []))) (hl:∀ i ys H2,i≤xs.length→Pv i ys H2→H2 acc=some (.lst ys)∧ys.length < sizeLine∧SqL K H2 a xs)
  (hs:∀ i x ys H2,xs[i]?=some x→Pv i ys H2→∀ C:VK,(∀ y H5,H5 acc=some (.lst ys)→Pv (i+1) (ys++[y]) (upd H5 acc (.lst (ys++[y])))→C y H5)→g x σ0 H2 fun σ4 H4=>Wk σ0 σ4∧te σ4 H4 C) (hd:∀ ys H2,Pv xs.length ys H2→Q (.ref acc) H2) :
  ∃ W:Nat→Nat→List V→Hp→Prop,(∃ m,W 0 m [] (upd H acc (.lst [])))∧lcW K σ0 (Itl K a) acc g te Q W:=by
 refine⟨fun i m ys H2=>m=xs.length - i∧i≤xs.length∧Pv i ys H2,⟨xs.length,by simp,Nat.zero_le _,h0⟩,?_⟩
 rintro i m ys H2 ⟨rfl,hi,p⟩
 obtain⟨e1,e2,q⟩:=hl i ys H2 hi p
 refine⟨e1,e2,?_⟩
 by_cases hlt:i < xs.length
 ·refine .inr ⟨⟨xs,xs[i],q,by simp[hlt]⟩,fun x H3 y=>?_⟩
  obtain⟨e,y⟩:=y
  subst e
  exact hs i x ys _ (y xs q) p _ fun v H5 z1 z2=>⟨z1,xs.length - (i+1),by omega,rfl,hlt,z2⟩
 ·have e:i=xs.length:=by omega
  subst e
  exact .inl ⟨⟨xs,q,Nat.le_refl _⟩,hd ys H2 p⟩
theorem str_ext {x y:Str} (h:x.cps.toList=y.cps.toList):x=y:=by
 obtain⟨a⟩:=x
 obtain⟨b⟩:=y
 have:a=b:=by simpa using congrArg List.toArray h
 rw[this]
theorem cps_append (x y:Str):(x++y).cps.toList=x.cps.toList++y.cps.toList:=by
 show (x.cps++y.cps).toList=_
 simp
theorem len_cps (x:Str):x.length=x.cps.toList.length:=by simp[Str.length]
theorem join_cps:∀ ys:List Str,(Txt.join Str.empty ys).cps.toList=(ys.map fun y=>y.cps.toList).flatten:=by
 intro ys
 show (Builtin.Str.glued Str.empty ys).cps.toList=_
 rw[StrLaws.glued_eq_join]
 induction ys with
 | nil=>rfl
 | cons y r ih =>
  cases r with
  | nil=>simp[Str.join]
  | cons z r =>
   show (y++Str.empty++Str.join Str.empty (z :: r)).cps.toList=_
   rw[cps_append,cps_append,ih]
   simp[Str.empty]
theorem slice_cps (x:Str) (a b:Nat) (hab:a≤b) (hb:b≤x.length):(Txt.slice x (some (a:Int)) (some (b:Int))).cps.toList=(x.cps.toList.drop a).take (b - a):=by
 have e:Txt.slice x (some (a:Int)) (some (b:Int))=StrLaws.sliceText x (some (a:Int)) (some (b:Int)):=rfl
 rw[e,StrLaws.sliceText_nat x hab hb]
end L2
namespace L2
open PySem PySem.Spec PyProof.Rows
theorem lookup_out {α:Type} {x:Str}:∀ {l:List (Str×α)},(∀ v,(x,v) ∉ l)→l.lookup x=none
 | [],_=>rfl
 | (y,v) :: l,h=>by
  have hy:x≠y:=fun e=>h v (by rw[e];exact List.mem_cons_self)
  rw[List.lookup_cons,show (x == y)=false from by simpa using hy]
  exact lookup_out fun v hv=>h v (List.mem_cons_of_mem _ hv)
theorem lookup_rev_zip:∀ {ps:List Str} {us:List Value} {i:Nat} {x:Str} {u:Value},ps.Nodup→ps[i]?=some x→us[i]?=some u→(ps.zip us).reverse.lookup x=some u
 | [],_,_,_,_,_,h,_=>by simp at h
 | _ :: _,[],_,_,_,_,_,h=>by simp at h
 | p :: ps,w :: us,0,x,u,nd,h1,h2=>by
  simp at h1 h2
  subst h1;subst h2
  rw[List.zip_cons_cons,List.reverse_cons,List.lookup_append,lookup_out (fun v hv=>(List.nodup_cons.mp nd).1 (List.of_mem_zip (List.mem_reverse.mp hv)).1)]
  simp
 | p :: ps,w :: us,i+1,x,u,nd,h1,h2=>by
  have ih:=lookup_rev_zip (List.nodup_cons.mp nd).2 (show ps[i]?=some x by simpa using h1) (show us[i]?=some u by simpa using h2)
  rw[List.zip_cons_cons,List.reverse_cons,List.lookup_append,ih]
  rfl
structure FnScopeC (N ps fv:List Str) (sc:Scope):Prop where
 kind:sc.kind=.function
 co:sc.isCoroutine=false
 gen:sc.isGenerator=false
 nd:N.Nodup
 pre:N.take (ps++fv).length=ps++fv
 par:∀ x∈ps,sc.names.lookup x=some .local
 fr:∀ x∈fv,sc.names.lookup x=some .free
 nocell:∀ y∈sc.names,y.2≠.cell
structure Caught (K:PySem.W.Frag) (sc:Scope) (cl:List (Str×Addr)) (fv:List Str) (frv:List V):Prop where
 len:frv.length=fv.length
 cell:∀ (i:Nat) (x:Str) (v:V),fv[i]?=some x→frv[i]?=some v→∃ c o u,cl.lookup x=some c∧K.lookup c=some o∧o.data=.cell (some u)∧RelV v u
 all:∀ x c,cl.lookup x=some c→∃ o v,K.lookup c=some o∧o.data=.cell v
 inj:∀ x y c,cl.lookup x=some c→cl.lookup y=some c→x=y
 has:∀ x,sc.names.lookup x=some .free→∃ c,cl.lookup x=some c
noncomputable def cxC (CX:CXT) (P:Program) (w:World) (K:PySem.W.Frag) (mg:Str→Option Value) (base:Heap) (N:List Str) (qual:Str) (scope:Scope) (f:Addr) (cd:Value) (cl:List (Str×Addr)) (A:Around) (outer:List Env) (s:Shared) (H:Hp) (E:XK):Cx where
 prog:=P
 w:=w
 K:=K
 mg:=mg
 base:=base
 A:=A.deeper (PySem.W.envX qual scope s.heap.objs.size f cd cl)
 N:=N
 s₀:=s
 H₀:=H
 env:=PySem.W.envX qual scope s.heap.objs.size f cd cl
 outer:=outer
 stack:=PySem.W.envX qual scope s.heap.objs.size f cd cl :: outer
 ex:=[]
 calm:=true
 fn:=fun _=>false
 pn:=[]
 xe:=fun e s'=>wpAny (model P w) (A.deeper (PySem.W.envX qual scope s.heap.objs.size f cd cl)) (leaving (PySem.W.envX qual scope s.heap.objs.size f cd cl) e) (fun _ s''=>CX outer H s E e s'') (fun e' s''=>CX outer H s E e' s'') s'
theorem inv_startC {CX:CXT} {P:Program} {w:World} {K:PySem.W.Frag} {mg:Str→Option Value} {base:Heap} {N ps fv:List Str} {qual:Str} {scope:Scope} {f:Addr} {cd:Value} {cl:List (Str×Addr)} {A:Around} {outer:List Env} {s:Shared} {H:Hp} {E:XK} {us:List Value} {vs frv:List V} {h1:Heap} {tk:Nat}
  (S:FnScopeC N ps fv scope) (C:Caught K scope cl fv frv) (hd:A.handled=none) (e0:Env0 P w K mg base A outer s H) (hl:vs.length=ps.length) (r:Vals vs us)
  (ns:h1.Ns s.heap.objs.size fun x=>(ps.zip us).reverse.lookup x) (hk:∀ b o,s.heap.get? b=some o→h1.get? b=some o) :
  Inv (cxC CX P w K mg base N qual scope f cd cl A outer s H E) [] (start N (vs++frv)) H { s with heap:=h1,toks:=tk }:=by
 have hpl:(ps++fv).length≤N.length:=by have:=congrArg List.length S.pre;rw[List.length_take] at this;omega
 have noA:∀ b:Addr,b ∉ (cxC CX P w K mg base N qual scope f cd cl A outer s H E).ex:=fun b z=>absurd (show b∈([]:List Addr) from z) (by simp)
 have hlen:(vs++frv).length=(ps++fv).length:=by rw[List.length_append,List.length_append,hl,C.len]
 have kin:∀ c o,K.lookup c=some o→s.heap.get? c=some o∧H c=none:=fun c o e=>e0.bs c o (e0.mod.kin c o e)
 refine⟨⟨e0.mod,S.kind,rfl,rfl,Nat.le_refl _,C.inj,fun y hy=>?_,fun y c z _=>(nomatch (show false=true from z)),fun _=>hd,Around.frames_deeper e0.frames,.inr ⟨rfl,rfl⟩,fun b z=>absurd z (noA b),e0.bs,e0.bsz,fun b _ _=>noA b,fun b z=>absurd z (noA b),e0.funs,e0.frf⟩,
  rfl,e0.bare,Un.kept hk,⟨_,ns,fun i y v h1 h2 h3=>?_⟩,fun y c h=>?_,e0.hok.fresh (Nat.le_refl _),fun y c h=>?_,fun p hp=>absurd (show p∈([]:List (Addr×Obj)) from hp) (by simp),e0.hok.kept hk,?_⟩
 ·have hy:scope.names.lookup y=some .cell∨scope.names.lookup y=some .free:=hy
  rcases hy with hy | hy
  ·exact absurd rfl (S.nocell _ (PySem.mem_of_lookup hy))
  ·exact C.has y hy
 ·have hi:i < (vs++frv).length:=by
   unfold start at h2
   by_cases hi:i < (vs++frv).length
   ·exact hi
   ·rw[List.getElem?_append_right (by simpa using hi)] at h2
    rw[List.getElem?_replicate] at h2
    split at h2<;>cases h2
  have ha:(vs++frv)[i]?=some v:=by
   unfold start at h2
   rw[List.getElem?_append_left (by simpa using hi),List.getElem?_map] at h2
   cases e:(vs++frv)[i]? with
   | none=>rw[e] at h2;cases h2
   | some a=>rw[e] at h2;cases h2;rfl
  have hp:(ps++fv)[i]?=some y:=by
   rw[← S.pre,List.getElem?_take_of_lt (by omega)];exact h1
  have ndP:(ps++fv).Nodup:=by rw[← S.pre];exact S.nd.sublist (List.take_sublist _ _)
  by_cases hv:i < vs.length
  ·rw[List.getElem?_append_left hv] at ha
   rw[List.getElem?_append_left (by omega)] at hp
   obtain⟨u,hu,rv⟩:=r.get ha
   exact⟨u,rv,.inl ⟨S.par y (List.mem_of_getElem? hp),lookup_rev_zip (ndP.sublist (List.sublist_append_left _ _)) hp hu⟩⟩
  ·rw[List.getElem?_append_right (by omega)] at ha
   rw[List.getElem?_append_right (by omega),← hl] at hp
   obtain⟨c,o,u,e1,e2,e3,rv⟩:=C.cell _ y v hp ha
   refine⟨u,rv,.inr ⟨.inr (S.fr y (List.mem_of_getElem? hp)),c,e1,o,hk c o (kin c o e2).1,e3⟩⟩
 ·obtain⟨o,v,e1,e2⟩:=C.all y c h
  exact⟨v,o,hk c o (kin c o e1).1,e2⟩
 ·obtain⟨o,v,e1,e2⟩:=C.all y c h
  exact (kin c o e1).2
 ·unfold start
  show _=N.length
  rw[List.length_append,List.length_map,List.length_replicate]
  omega
theorem fn_ofC {CX:CXT} {P:Program} {w:World} {K:PySem.W.Frag} {mg:Str→Option Value} {base:Heap} {k:Nat} {f:Addr} {name qual:Str} {params:Arguments} {body:List Stmt} {scope:Scope} {cl:List (Str×Addr)} {doc pm cdv ct oc:Value} {od:Option Addr}
  {osl:Array (Option Value)} {N ps fv:List Str} {frv:List V} {sp:Sp} (lk:K.lookup f=some ⟨oc,od,.func (PySem.W.fnX name qual params body scope cl .none .none doc pm none cdv ct),osl⟩) (hcd:PySem.W.codeIn K cdv qual=true) (S:FnScopeC N ps fv scope) (C:Caught K scope cl fv frv)
  (len:∀ vs H Q E,sp vs H Q E→vs.length=ps.length)
  (hbody:∀ (A:Around) (outer:List Env) (s:Shared) (H:Hp) (vs:List V) (Q:VK) (E:XK),Room k (A.deeper (PySem.W.envX qual scope s.heap.objs.size f cdv cl))→sp vs H Q E →
   ∃ t,PSs (cxC CX P w K mg base N qual scope f cdv cl A outer s H E) body t∧t { nx:=fun _ H'=>Q .non H',rt:=Q } (start N (vs++frv)) H) :
  FnOk P w K mg base CX (k+1) f (PySem.W.fnX name qual params body scope cl .none .none doc pm none cdv ct) ps sp:=by
 refine⟨len,fun A outer s H args us vs Q E hr e0 hb r hsp=>?_⟩
 have hl:=len _ _ _ _ hsp
 have KX:K.In s.heap:=e0.mod.kin.keeps fun b o e=>(e0.bs b o e).1
 have lim:s.heap.NoLimit:=e0.mod.nolimit.keeps fun b o e=>(e0.bs b o e).1
 refine codeAny_call_function hr.depth (KX _ _ lk) rfl S.co S.gen rfl (PySem.W.codeRec_of KX hcd) (hb _ _ _ _ ?_)
 refine wpAny_newFunctionEnv S.nocell (fun⟨n,v⟩ hy=>S.par n (List.of_mem_zip hy).1) (fun h1 ns sb=>?_) S.kind
 have hk:∀ b o,s.heap.get? b=some o→h1.get? b=some o:=fun b o e=>by
  rw[sb.2 b (Nat.ne_of_lt (Heap.lt_size e))]
  exact Heap.get?_push_of_some _ e
 refine⟨lim.keeps hk,codeAny_func ?_⟩
 obtain⟨t,ht,hq⟩:=hbody A outer s H vs Q E (hr.deeper _) hsp
 have I:Inv (cxC CX P w K mg base N qual scope f cdv cl A outer s H E) [] (start N (vs++frv)) H { s with heap:=h1,toks:=s.toks+(ps.zip us).length }:=inv_startC S C hr.hd e0 hl r ns hk
 refine wpAny_mono (ht [] _ (start N (vs++frv)) H _ I hq) (fun fl s' hs=>?_) fun e s' hs=>hs
 have fin:∀ {σ':St} {H':Hp} {v:V} {u:Value},Inv (cxC CX P w K mg base N qual scope f cdv cl A outer s H E) [] σ' H' s'→RelV v u→Q v H'→CE outer P w H s Q u s' :=
  fun {σ' H' v u} J rv q=>⟨v,H',J.os,J.bare,J.base,J.hok,rv,q⟩
 cases fl with
 | ret u =>
  obtain⟨v,σ',H',J,rv,q⟩:=hs
  exact fin J rv q
 | next =>
  obtain⟨σ',H',J,q⟩:=hs
  exact fin (v:=V.non) (u:=Value.none) J rfl q
 | brk =>
  obtain⟨_,_,_,q⟩:=hs
  exact False.elim q
 | cont =>
  obtain⟨_,_,_,q⟩:=hs
  exact False.elim q
end L2
namespace L2
open PySem PySem.Spec PyProof.Rows
noncomputable abbrev FZ (o:Obj):HO:=.frz o (.ext fun _=>True)
noncomputable def SameT (H H':Hp):Prop:=∀ b o,(∀ ps,o≠.tbl ps)→H b=some o→H' b=some o
theorem SameT.trans {H H1 H2:Hp} (a:SameT H H1) (b:SameT H1 H2):SameT H H2:=fun c o n h=>b c o n (a c o n h)
theorem Same.toT {H H':Hp} (a:Same H H'):SameT H H':=fun c o _ h=>a c o h
structure SameU (P:Addr) (H H':Hp):Prop where
 toT:SameT H H'
 off:∀ b o,b≠P→H b=some o→H' b=some o
 tab:∀ o,H P=some o→∃ o',H' P=some o'
theorem Same.toU {P:Addr} {H H':Hp} (a:Same H H'):SameU P H H':=⟨a.toT,fun c o _ h=>a c o h,fun o h=>⟨o,a _ _ h⟩⟩
noncomputable def CodeFz (H:Hp) (cv:Value) (q:Str):Prop:=∃ c o vs t,cv=.ref c∧H c=some (FZ o)∧o.data=.fields vs∧vs[1]?=some (.str q t)
theorem CodeFz.keep {H H':Hp} {cv:Value} {q:Str} (h:CodeFz H cv q) (k:SameT H H'):CodeFz H' cv q:=by
 obtain⟨c,o,vs,t,h1,h2,h3,h4⟩:=h
 exact⟨c,o,vs,t,h1,k c _ (fun _ z=>nomatch z) h2,h3,h4⟩
noncomputable def TabOk (H:Hp) (P:Addr) (ds:List (Pos×Str)):Prop :=
 ∃ ps,H P=some (.tbl ps)∧TriplesOk ps.toList∧∀ d∈ds,∀ cv,codeAmong d.1 ps.toList=some cv→CodeFz H cv d.2
theorem TabOk.keep {H H':Hp} {P:Addr} {ds:List (Pos×Str)} (h:TabOk H P ds) (k:Same H H'):TabOk H' P ds:=by
 obtain⟨ps,h1,h2,h3⟩:=h
 exact⟨ps,k _ _ h1,h2,fun d hd cv e=>(h3 d hd cv e).keep k.toT⟩
theorem TabOk.new {H:Hp} {P:Addr} {ds:List (Pos×Str)} (h:H P=some (.tbl #[])):TabOk H P ds :=
 ⟨#[],h,trivial,fun d _ cv e=>by
  have e':(none:Option Value)=some cv:=e
  cases e'⟩
noncomputable def FnFz (H:Hp) (f:Addr) (name qual:Str) (params:Arguments) (body:List Stmt) (scope:Scope) (cl:List (Str×Addr)):Prop :=
 ∃ doc pm ct cv,H f=some (FZ { cls:=.type "function",data:=.func (PySem.W.fnX name qual params body scope cl .none .none doc pm none cv ct) })∧CodeFz H cv qual
theorem FnFz.keep {H H':Hp} {f:Addr} {name qual:Str} {params:Arguments} {body:List Stmt} {scope:Scope} {cl:List (Str×Addr)} (h:FnFz H f name qual params body scope cl) (k:SameT H H'):FnFz H' f name qual params body scope cl:=by
 obtain⟨doc,pm,ct,cv,h1,h2⟩:=h
 exact⟨doc,pm,ct,cv,k _ _ (fun _ z=>nomatch z) h1,h2.keep k⟩
theorem triples_app:∀ {l m:List Value},TriplesOk l→TriplesOk m→TriplesOk (l++m)
 | [],m,_,h=>h
 | .int i a :: .int j b :: c :: r,m,h,h'=>by
  show TriplesOk (.int i a :: .int j b :: c :: (r++m))
  exact triples_app (l:=r) h h'
theorem codeAmong_app {pos:Pos}:∀ {l m:List Value},TriplesOk l→codeAmong pos (l++m)=(codeAmong pos l).or (codeAmong pos m)
 | [],m,_=>by simp[codeAmong]
 | .int i a :: .int j b :: c :: r,m,h=>by
  show codeAmong pos (.int i a :: .int j b :: c :: (r++m))=_
  rw[codeAmong,codeAmong]
  split
  ·rfl
  ·exact codeAmong_app (l:=r) h
theorem fz_ok {P:Program} {w:World} {H:Hp} {h:Heap} {a:Addr} {o:Obj} (e:h.get? a=some o):ObjOk P w H h a (FZ o):=⟨e,trivial,⟨o,e⟩,fun _ _ _ _=>trivial⟩
noncomputable def tDef (i:Nat) (name qual:Str) (params:Arguments) (body:List Stmt) (scope:Scope) (cl:List (Str×Addr)) (P:Addr) (ds:List (Pos×Str)):TS:=fun D σ H =>
 TabOk H P ds∧∀ f H',H f=none→SameU P H H'→TabOk H' P ds→FnFz H' f name qual params body scope cl→D.nx (σ.set i (some (.ref f))) H'
theorem ps_def {X:Cx} {i:Nat} {name qual:Str} {params:Arguments} {body:List Stmt} {scope:Scope} {pos:Pos} {cl:List (Str×Addr)} {c P:Addr} {ds:List (Pos×Str)}
  (hN:X.N.Nodup) (hi:X.N[i]?=some name) (hx:Loc X.env.scope name) (hcl:closureFor scope X.env=pure cl) (hc:X.env.code=.ref c) (hC:∀ h,X.K.In h→PySem.W.CodeHd h c P) (hB:∀ h,X.K.In h→h.BuiltinsAt X.mg P) (hP:mainGlobals≠P)
  (hq:qualnameIn X.env name name=qual) (hd:(pos,qual)∈ds) (hds:∀ d∈ds,d.1.line=pos.line→d.1.col=pos.col→d.2=qual)
  (h1:params.defaults=[]) (h2:params.kw_defaults=[]) (h3:annTrees params none X.env=[])
  (hf:X.fn name=true∨X.env.scope.names.lookup name=some .local:=by first | exact .inl rfl | exact .inr rfl | assumption) :
  PS X (.FunctionDef name params body [] none [] scope none name pos) (tDef i name qual params body scope cl P ds):=by
 intro pins s σ H D I h
 obtain⟨⟨ps,hp,ht,hcs⟩,q⟩:=h
 refine PySem.W.nestDef_K h1 h2 h3 ?_
 rw[hq]
 have kX:=I.kIn
 have hPs:s.heap.get? P=some (PySem.W.tabObj ps):=I.hok P _ hp
 have mgs:s.heap.Ns mainGlobals X.mg:=by
  obtain⟨o,es,ep,e,d,r⟩:=I.ok.mod.glob
  exact⟨o,es,ep,I.bk _ _ e,d,r⟩
 have fin:∀ {H':Hp} {s':Shared} {f:Addr},Inv X pins σ H' s'→H f=none→SameU P H H'→TabOk H' P ds→FnFz H' f name qual params body scope cl →
   wpAny (model X.prog X.w) X.A (storeName X.env name (.ref f)) (fun _ s''=>SP X pins D .next s'') X.xe s':=fun {H' s' f} J g1 g2 g3 g4 =>
  store_ok (v:=.ref f) J hN hi hx rfl (fun s'' J'=>⟨_,_,J',q f H' g1 g2 g3 g4⟩) hf
 cases hm:codeAmong pos ps.toList with
 | some cv =>
  refine PySem.W.makeFunction_hit hcl I.ok.glob mgs hc (hC _ kX) hPs ht hm (hB _ kX) fun ctv doc h' tk hk hsz=>?_
  have kk:∀ b o,s.heap.get? b=some o→(h'.push { cls:=Value.type "function",data:=Data.func (PySem.W.fnX name qual params body scope cl Value.none Value.none doc ((X.mg (Str.ofString "__name__")).getD Value.none) none cv ctv) }).get? b=some o :=
   fun b o e=>Heap.get?_push_of_some _ (hk b o e)
  have hn:H h'.objs.size=none:=I.hok.fresh hsz
  have J:=I.laid (a:=h'.objs.size) (o:=FZ _) (t':=tk) kk hsz (fz_ok (Heap.get?_push_size _ rfl))
  have e1:Same H (upd H h'.objs.size (FZ { cls:=Value.type "function",data:=Data.func (PySem.W.fnX name qual params body scope cl Value.none Value.none doc ((X.mg (Str.ofString "__name__")).getD Value.none) none cv ctv) })):=fun b u z=>by rw[upd_ne (ne_of_none z hn)];exact z
  exact fin J hn e1.toU (TabOk.keep ⟨ps,hp,ht,hcs⟩ e1) ⟨_,_,_,_,upd_same,(hcs _ hd cv hm).keep e1.toT⟩
 | none =>
  refine PySem.W.makeFunction_K hcl I.ok.glob mgs hc (hC _ kX) hPs ht hm hP (hB _ kX) fun c' ctv doc h' tk ext hc1 hc2 hcr htab=>?_
  obtain⟨c2,co,vs,t,e1,e2,e3,e4⟩:=hcr
  cases e1
  have hPl:P < s.heap.objs.size:=Heap.lt_size hPs
  have hsz:s.heap.objs.size≤h'.objs.size:=by omega
  have nf:H h'.objs.size=none:=I.hok.fresh hsz
  have nc:H c'=none:=I.hok.fresh hc1
  have ncf:c'≠h'.objs.size:=by omega
  have nPc:P≠c':=Nat.ne_of_lt (Nat.lt_of_lt_of_le hPl hc1)
  have nPf:P≠h'.objs.size:=Nat.ne_of_lt (Nat.lt_of_lt_of_le hPl hsz)
  generalize hfo:({ cls:=Value.type "function",data:=Data.func (PySem.W.fnX name qual params body scope cl Value.none Value.none doc ((X.mg (Str.ofString "__name__")).getD Value.none) none (Value.ref c') ctv) }:Obj)=fo
  generalize htr:ps++#[rawInt (pos.line:Int),rawInt (pos.col:Int),Value.ref c']=ps'
  rw[htr] at htab
  have hps':ps'.toList=ps.toList++[rawInt (pos.line:Int),rawInt (pos.col:Int),Value.ref c']:=by rw[← htr];simp
  have gk:∀ b o,b≠P→s.heap.get? b=some o→(h'.push fo).get? b=some o:=fun b o hb e=>Heap.get?_push_of_some _ (ext b o hb e)
  have oP:∀ b,b≠P→b≠c'→b≠h'.objs.size→(upd (upd (upd H P (.tbl ps')) c' (FZ co)) h'.objs.size (FZ fo)) b=H b:=fun b n1 n2 n3=>by rw[upd_ne n3,upd_ne n2,upd_ne n1]
  have oPP:(upd (upd (upd H P (.tbl ps')) c' (FZ co)) h'.objs.size (FZ fo)) P=some (.tbl ps'):=by rw[upd_ne nPf,upd_ne nPc,upd_same]
  have oc:(upd (upd (upd H P (.tbl ps')) c' (FZ co)) h'.objs.size (FZ fo)) c'=some (FZ co):=by rw[upd_ne ncf,upd_same]
  have of':(upd (upd (upd H P (.tbl ps')) c' (FZ co)) h'.objs.size (FZ fo)) h'.objs.size=some (FZ fo):=upd_same
  generalize (upd (upd (upd H P (.tbl ps')) c' (FZ co)) h'.objs.size (FZ fo))=H' at oP oPP oc of'
  have tr:∀ b u,(∀ ps,u≠HO.tbl ps)→H b=some u→H' b=some u:=fun b u nu z=>by
   rw[oP b (fun w=>nu ps (by rw[w,hp] at z;exact (Option.some.inj z).symm)) (ne_of_none z nc) (ne_of_none z nf)];exact z
  have hok:HOk X.prog X.w H' (h'.push fo):=fun b u z=>by
   by_cases b1:b=h'.objs.size
   ·subst b1;rw[of'] at z;cases z;exact fz_ok (Heap.get?_push_size _ (by rw[← hfo];rfl))
   by_cases b2:b=c'
   ·subst b2;rw[oc] at z;cases z;exact fz_ok (Heap.get?_push_of_some _ e2)
   by_cases b3:b=P
   ·subst b3;rw[oPP] at z;cases z;exact Heap.get?_push_of_some _ htab
   rw[oP b b3 b2 b1] at z
   refine (I.hok b u z).stay (fun d v hd e=>gk d v (fun w=>?_) e) (fun d z=>tr d _ (fun _ q=>nomatch q) z) fun d xs z=>tr d _ (fun _ q=>nomatch q) z
   rcases hd with hd | hd
   ·exact b3 (hd.symm.trans w)
   ·rw[w,hp] at hd;cases hd
  have un:Un X.fs [] H H' s.heap (h'.push fo):=by
   refine⟨fun b o e n _ _=>gk b o (fun w=>by rw[w,hp] at n;cases n) e,fun b o e n _ _=>⟨o.slots,gk b o (fun w=>by rw[w,hp] at n;cases n) e⟩,fun b o e n _=>?_,fun b o e _=>?_,fun b xs z=>tr b _ (fun _ q=>nomatch q) z,fun b o u z=>tr b _ (fun _ q=>nomatch q) z,fun b ps2 z=>?_⟩
   ·rw[oP b (fun w=>by rw[w,hp] at n;cases n) (Nat.ne_of_lt (Nat.lt_of_lt_of_le (Heap.lt_size e) hc1)) (Nat.ne_of_lt (Nat.lt_of_lt_of_le (Heap.lt_size e) hsz))];exact n
   ·by_cases b3:b=P
    ·subst b3;exact⟨_,Heap.get?_push_of_some _ htab⟩
    ·exact⟨o,gk b o b3 e⟩
   ·by_cases b3:b=P
    ·subst b3
     rw[hp] at z
     cases z
     exact⟨_,by rw[oPP,← htr]⟩
    ·refine⟨#[],?_⟩
     rw[oP b b3 (ne_of_none z nc) (ne_of_none z nf),z];simp
  have J:Inv X pins σ H' { s with heap:=h'.push fo,toks:=tk }:=I.un un hok
  have sT:SameT H H':=tr
  have sU:SameU P H H':=⟨tr,fun b u hb z=>by rw[oP b hb (ne_of_none z nc) (ne_of_none z nf)];exact z,fun _ _=>⟨_,oPP⟩⟩
  have cf:CodeFz H' (.ref c') qual:=⟨c',co,vs,t,rfl,oc,e3,e4⟩
  have tri:TriplesOk [rawInt (pos.line:Int),rawInt (pos.col:Int),Value.ref c']:=by
   unfold rawInt
   exact trivial
  have tab:TabOk H' P ds:=by
   refine⟨ps',oPP,by rw[hps'];exact triples_app ht tri,fun d hd' cv e=>?_⟩
   rw[hps',codeAmong_app ht] at e
   cases hm':codeAmong d.1 ps.toList with
   | some cv2 =>
    rw[hm'] at e
    cases e
    exact (hcs d hd' cv hm').keep sT
   | none =>
    rw[hm',Option.none_or] at e
    unfold rawInt at e
    rw[codeAmong] at e
    split at e
    ·rename_i hh
     cases e
     have hh':d.1.line=pos.line∧d.1.col=pos.col:=by
      have:=hh
      simp only[Bool.and_eq_true,beq_iff_eq] at this
      omega
     rw[hds d hd' hh'.1 hh'.2]
     exact cf
    ·simp[codeAmong] at e
  rw[show PySem.W.fnMade name qual params body scope cl doc ((X.mg (Str.ofString "__name__")).getD Value.none) c' ctv=fo from hfo]
  exact fin J nf sU tab ⟨doc,_,ctv,.ref c',by rw[of',← hfo],cf⟩
end L2
namespace L2
open PySem PySem.Spec PyProof.Rows
noncomputable def KLe (K K':PySem.W.Frag):Prop:=∀ a o,K.lookup a=some o→K'.lookup a=some o
noncomputable def remX (xs:List (Addr×Obj)) (H:Hp):Hp:=fun b=>if b∈xs.map (·.1) then none else H b
noncomputable def backX (xs:List (Addr×Obj)) (H H2:Hp):Hp:=fun b=>if b∈xs.map (·.1) then H b else H2 b
theorem remX_in {xs:List (Addr×Obj)} {H:Hp} {b:Addr} (h:b∈xs.map (·.1)):remX xs H b=none:=by unfold remX;rw[if_pos h]
theorem remX_out {xs:List (Addr×Obj)} {H:Hp} {b:Addr} (h:b ∉ xs.map (·.1)):remX xs H b=H b:=by unfold remX;rw[if_neg h]
theorem backX_in {xs:List (Addr×Obj)} {H H2:Hp} {b:Addr} (h:b∈xs.map (·.1)):backX xs H H2 b=H b:=by unfold backX;rw[if_pos h]
theorem backX_out {xs:List (Addr×Obj)} {H H2:Hp} {b:Addr} (h:b ∉ xs.map (·.1)):backX xs H H2 b=H2 b:=by unfold backX;rw[if_neg h]
theorem lookup_same:∀ {l:List (Addr×Obj)} {p:Addr×Obj},(∀ q∈l,q.1=p.1→q.2=p.2)→p∈l→l.lookup p.1=some p.2
 | [],_,_,h=>absurd h (by simp)
 | q :: l,p,hc,h=>by
  rw[show q :: l=(q.1,q.2) :: l from rfl,List.lookup_cons]
  by_cases e:q.1=p.1
  ·rw[show (p.1 == q.1)=true from by simp[e]]
   rw[hc q List.mem_cons_self e]
  ·rw[show (p.1 == q.1)=false from by simpa using fun z=>e z.symm]
   exact lookup_same (fun r hr=>hc r (List.mem_cons_of_mem _ hr)) (by
    rcases List.mem_cons.mp h with z | z
    ·exact absurd (by rw[z]) e
    ·exact z)
theorem mem_of_lookupA:∀ {l:List (Addr×Obj)} {a:Addr} {o:Obj},l.lookup a=some o→(a,o)∈l
 | [],_,_,h=>by cases h
 | (b,u) :: l,a,o,h=>by
  rw[List.lookup_cons] at h
  split at h
  ·rename_i e
   cases h
   rw[show a=b from by simpa using e]
   exact List.mem_cons_self
  ·exact List.mem_cons_of_mem _ (mem_of_lookupA h)
theorem funFrames_base {h base base':Heap}:∀ {l:List Env},h.FunFrames base l→(∀ b∈frs l,base'.get? b=none)→h.FunFrames base' l
 | [],_,_=>trivial
 | env :: r,⟨hk,⟨L,o,hf,hn,ho,hd⟩,hr⟩,g=>by
  have e:frs (env :: r)=L :: frs r:=by unfold frs;rw[List.filterMap_cons,hf]
  rw[e] at g
  exact⟨hk,⟨L,o,hf,g L List.mem_cons_self,ho,hd⟩,funFrames_base hr fun b hb=>g b (List.mem_cons_of_mem _ hb)⟩
section
variable {X:Cx} {k:Nat} {f:Addr} {fd:FuncData} {ps:List Str} {sp:Sp}
theorem run_fnG {pins:List (Addr×Obj)} {σ:St} {H:Hp} {s:Shared} {Q:VK} {us:List Value} {vs:List V} (xs cs:List (Addr×Obj)) (I:Inv X pins σ H s) (hxs:∀ p∈xs,H p.1=some (FZ p.2))
  (hcs:∀ p∈cs,s.heap.get? p.1=some p.2∧H p.1=none∧p.1 ∉ frs X.stack) (F:∀ base,FnOk X.prog X.w (X.K++(xs++cs)) X.mg base CX0 k f fd ps sp) (hr:Room k X.A) (hb:Binds X.K fd ps [])
  (r:Vals vs us) (h:sp vs (remX xs H) (fun v H2=>(∀ p∈xs,H2 p.1=none)→Q v (backX xs H H2)) E0):wpAny (model X.prog X.w) X.A (call (.ref f) us) (EP X pins σ Q) X.xe s:=by
 have hx1:∀ p∈xs,s.heap.get? p.1=some p.2:=fun p hp=>(I.hok _ _ (hxs p hp)).1
 have good2:∀ p∈xs++cs,s.heap.get? p.1=some p.2:=fun p hp=>(List.mem_append.mp hp).elim (hx1 p) fun z=>(hcs p z).1
 let good:Addr→Prop:=fun b=>(X.base.get? b).isSome=true∨b∈(xs++cs).map (·.1)
 have hdec:∀ b,Decidable (good b):=fun b=>by dsimp only[good];infer_instance
 let hid:List Addr:=(List.range s.heap.objs.size).filter fun b=>!(decide ((X.base.get? b).isSome=true)||decide (b∈(xs++cs).map (·.1)))
 have notin:∀ b,good b→b ∉ hid:=fun b g hm=>by
  have q:=(List.mem_filter.mp hm).2
  rcases g with g | g
  ·simp[g] at q
  ·rw[decide_eq_true g] at q;simp at q
 have isin:∀ b,¬ good b→b < s.heap.objs.size→b∈hid:=fun b g hl=>by
  refine List.mem_filter.mpr ⟨List.mem_range.mpr hl,?_⟩
  rw[decide_eq_false (fun z=>g (.inl z)),decide_eq_false (fun z=>g (.inr z))];rfl
 let base':Heap:=PySem.W.hideAll s.heap hid
 have gget:∀ b o,s.heap.get? b=some o→good b→base'.get? b=some o:=fun b o e g=>PySem.W.hideAll_get _ e (notin b g)
 have gof:∀ b o,base'.get? b=some o→s.heap.get? b=some o∧good b:=fun b o e=>by
  have e':s.heap.get? b=some o:=PySem.W.of_hideAll hid e
  refine⟨e',?_⟩
  by_cases g:good b
  ·exact g
  ·have z:base'.get? b=none:=PySem.W.hideAll_none hid (isin b g (Heap.lt_size e'))
   rw[z] at e;cases e
 have gb:∀ b o,X.base.get? b=some o→base'.get? b=some o:=fun b o e=>gget b o (I.bk b o e) (.inl (by rw[e];rfl))
 have goodH:∀ b,good b→remX xs H b=none:=fun b g=>by
  rcases g with g | g
  ·obtain⟨o,e⟩:=Option.isSome_iff_exists.mp g
   by_cases z:b∈xs.map (·.1)
   ·exact remX_in z
   ·rw[remX_out z];exact (I.bs b o e).2
  ·rw[List.map_append] at g
   rcases List.mem_append.mp g with g | g
   ·exact remX_in g
   ·by_cases z:b∈xs.map (·.1)
    ·exact remX_in z
    ·rw[remX_out z]
     obtain⟨p,hp,rfl⟩:=List.mem_map.mp g
     exact (hcs p hp).2.1
 have kin':PySem.W.Frag.In (X.K++(xs++cs)) base':=fun a o e=>by
  have e:List.lookup a (X.K++(xs++cs))=some o:=e
  rw[List.lookup_append] at e
  cases z:List.lookup a X.K with
  | some o' =>
   rw[z] at e
   cases e
   exact gb a o (I.ok.mod.kin a o z)
  | none =>
   rw[z,Option.none_or] at e
   have hm:(a,o)∈xs++cs:=mem_of_lookupA e
   exact gget a o (good2 _ hm) (.inr (List.mem_map.mpr ⟨_,hm,rfl⟩))
 have nsB:∀ {b:Addr} {m:Str→Option Value},X.base.Ns b m→base'.Ns b m:=fun {b m} ⟨o,es,ep,e,d,r⟩=>⟨o,es,ep,gb b o e,d,r⟩
 have xfree:∀ b,b∈xs.map (·.1)→∃ o,H b=some (FZ o)∧s.heap.get? b=some o:=fun b z=>by
  obtain⟨p,hp,rfl⟩:=List.mem_map.mp z
  exact⟨p.2,hxs p hp,hx1 p hp⟩
 have frames:∀ b∈frs X.stack,base'.get? b=none:=fun b hb=>by
  cases z:base'.get? b with
  | none=>rfl
  | some o =>
   obtain⟨e,g⟩:=gof b o z
   rcases g with g | g
   ·have:=(I.stack.mem hb).1
    rw[this] at g;simp at g
   ·rw[List.map_append] at g
    rcases List.mem_append.mp g with g | g
    ·obtain⟨o',e',_⟩:=xfree b g
     rw[I.stkFree b hb] at e';cases e'
    ·obtain⟨p,hp,rfl⟩:=List.mem_map.mp g
     exact absurd hb (hcs p hp).2.2
 have e0:Env0 X.prog X.w (X.K++(xs++cs)) X.mg base' X.A X.stack s (remX xs H):=by
  refine⟨I.ok.frames,⟨kin',nsB I.ok.mod.glob,?_,?_⟩,fun b o e=>⟨(gof b o e).1,goodH b (gof b o e).2⟩,Nat.le_of_eq (PySem.W.hideAll_size _ _),funFrames_base I.stack frames,fun b hb=>?_,fun a o z=>?_,I.bare⟩
  ·obtain⟨mb,h1,h2⟩:=I.ok.mod.blt
   exact⟨mb,nsB h1,h2⟩
  ·obtain⟨mc,h1,h2⟩:=I.ok.mod.nolimit
   exact⟨mc,nsB h1,h2⟩
  ·by_cases z:b∈xs.map (·.1)
   ·exact remX_in z
   ·rw[remX_out z];exact I.stkFree b hb
  ·by_cases y:a∈xs.map (·.1)
   ·rw[remX_in y] at z;cases z
   ·rw[remX_out y] at z
    refine (I.hok a o z).stay (fun b u _ e=>e) (fun b q=>?_) fun b ys q=>?_
    ·rw[remX_out fun y=>by obtain⟨o',e',_⟩:=xfree b y;rw[q] at e';cases e'];exact q
    ·rw[remX_out fun y=>by obtain⟨o',e',_⟩:=xfree b y;rw[q] at e';cases e'];exact q
 have hl:us.length=ps.length:=by rw[← r.length];exact (F base').len _ _ _ _ h
 have hbd:BindsTo s fd ⟨us,[]⟩ (ps.zip us):=by
  have:=hb s us I.kIn (by rw[List.append_nil];exact hl)
  rw[List.append_nil] at this
  exact this
 refine wpAny_call (codeAny_mono ((F base').run X.A X.stack s (remX xs H) ⟨us,[]⟩ us vs _ E0 hr e0 hbd r h) fun rr s' hq=>?_)
 cases rr with
 | error e=>exact False.elim hq
 | ok fl =>
  cases fl with
  | next=>exact False.elim hq
  | brk=>exact False.elim hq
  | cont=>exact False.elim hq
  | ret u =>
   obtain⟨v,H2,os,bare,un,hok2,rv,q⟩:=hq
   have none2:∀ b,b∈xs.map (·.1)→H2 b=none:=fun b z=>by
    obtain⟨o,_,e⟩:=xfree b z
    exact un.free b o e (remX_in z) (by simp)
   have outX:∀ {b:Addr} {u:HO},H b=some u→(∀ o,u≠FZ o)→b ∉ xs.map (·.1):=fun {b u} e n z=>by
    obtain⟨o,e',_⟩:=xfree b z
    rw[e] at e'
    cases e'
    exact n o rfl
   refine⟨v,backX xs H H2,I.call' (ch:=[]) os ⟨fun b o e n hb hx=>un.keep b o e ?_ hb hx,fun b o e n hb hx=>un.slot b o e ?_ hb hx,fun b o e n hx=>?_,un.there,fun b ys e=>?_,fun b o u e=>?_,fun b ys e=>?_⟩ (fun a o z=>?_) bare (fun b z=>absurd z (by simp)),rv,q fun p hp=>none2 p.1 (List.mem_map.mpr ⟨p,hp,rfl⟩)⟩
   ·by_cases z:b∈xs.map (·.1)
    ·exact remX_in z
    ·rw[remX_out z];exact n
   ·by_cases z:b∈xs.map (·.1)
    ·exact remX_in z
    ·rw[remX_out z];exact n
   ·by_cases z:b∈xs.map (·.1)
    ·rw[backX_in z];exact n
    ·rw[backX_out z];exact un.free b o e (by rw[remX_out z];exact n) hx
   ·have z:=outX e (fun _ q=>nomatch q)
    rw[backX_out z];exact un.tups b ys (by rw[remX_out z];exact e)
   ·by_cases z:b∈xs.map (·.1)
    ·rw[backX_in z];exact e
    ·rw[backX_out z];exact un.frzs b o u (by rw[remX_out z];exact e)
   ·have z:=outX e (fun _ q=>nomatch q)
    rw[backX_out z];exact un.tbls b ys (by rw[remX_out z];exact e)
   ·by_cases y:a∈xs.map (·.1)
    ·rw[backX_in y] at z
     obtain⟨o',e',g⟩:=xfree a y
     rw[z] at e'
     cases e'
     exact fz_ok (un.keep a o' g (remX_in y) (fun hb=>by rw[I.stkFree a hb] at z;cases z) (by simp))
    ·rw[backX_out y] at z
     refine (hok2 a o z).stay (fun b u _ e=>e) (fun b q=>?_) fun b ys q=>?_
     ·rw[backX_out fun y=>by rw[none2 b y] at q;cases q];exact q
     ·rw[backX_out fun y=>by rw[none2 b y] at q;cases q];exact q
theorem same_back {xs:List (Addr×Obj)} {H H2:Hp} (h:Same (remX xs H) H2):Same H (backX xs H H2):=fun b o e=>by
 by_cases z:b∈xs.map (·.1)
 ·rw[backX_in z];exact e
 ·rw[backX_out z];exact h b o (by rw[remX_out z];exact e)
noncomputable def CellsAt (X:Cx) (σ:St) (ix:List Nat) (cs:List (Addr×Obj)):Prop :=
 Paired (fun (i:Nat) (p:Addr×Obj)=>∃ x v u,X.N[i]?=some x∧σ[i]?=some (some v)∧X.env.cells.lookup x=some p.1∧p.2.data=.cell (some u)∧RelV v u) ix cs
noncomputable def tCallG (X:Cx) (k:Nat) (f:Addr) (fd:FuncData) (ps:List Str) (ix:List Nat) (t:TA):TE:=fun σ H Q=>t σ H fun vs H1=>(∀ i∈ix,∃ v,σ[i]?=some (some v))∧∃ xs:List (Addr×Obj),(∀ p∈xs,H1 p.1=some (FZ p.2)) ∧
 ∀ (K':PySem.W.Frag) (cs:List (Addr×Obj)),X.Ok→KLe X.K K'→(∀ a o,K'.lookup a=some o→X.K.lookup a=some o∨(a,o)∈xs++cs)→(∀ p∈xs++cs,K'.lookup p.1=some p.2)→CellsAt X σ ix cs →
  ∃ sp:Sp,(∀ base,FnOk X.prog X.w K' X.mg base CX0 k f fd ps sp)∧sp vs (remX xs H1) (fun v H2=>(∀ p∈xs,H2 p.1=none)→Q v (backX xs H1 H2)) E0
theorem Inv.cellsAt {pins:List (Addr×Obj)} {σ:St} {H:Hp} {s:Shared} (I:Inv X pins σ H s):∀ (ix:List Nat),(∀ i∈ix,∃ x,X.N[i]?=some x∧X.env.scope.names.lookup x=some .cell∧X.fn x=true)→(∀ i∈ix,∃ v,σ[i]?=some (some v)) →
  ∃ cs,CellsAt X σ ix cs∧∀ p∈cs,s.heap.get? p.1=some p.2∧H p.1=none∧p.1 ∉ frs X.stack∧X.K.lookup p.1=none
 | [],_,_=>⟨[],.nil,fun _ h=>absurd h (by simp)⟩
 | i :: ix,h1,h2=>by
  obtain⟨cs,g1,g2⟩:=I.cellsAt ix (fun j hj=>h1 j (List.mem_cons_of_mem _ hj)) fun j hj=>h2 j (List.mem_cons_of_mem _ hj)
  obtain⟨x,e1,e2,e3⟩:=h1 i List.mem_cons_self
  obtain⟨v,e4⟩:=h2 i List.mem_cons_self
  obtain⟨m,_,hm⟩:=I.loc
  obtain⟨u,rv,lk⟩:=hm i x v e1 e4 (.inr (.inl e2))
  rcases lk with ⟨lk,_⟩ | ⟨_,c,lk,o,ho,hd⟩
  ·have lk':X.env.scope.names.lookup x=some .local:=lk
   rw[e2] at lk';cases lk'
  ·have hc:=I.ok.cab x c e3 lk
   refine⟨(c,o) :: cs,.cons ⟨x,v,u,e1,e4,lk,hd,rv⟩ g1,fun p hp=>?_⟩
   rcases List.mem_cons.mp hp with rfl | hp
   ·refine⟨ho,I.freeC x c lk,fun hb=>?_,?_⟩
    ·rcases List.mem_cons.mp (I.stkSub _ hb) with z | z
     ·exact I.cne x c lk z
     ·obtain⟨_,o',ho',_⟩:=I.ok.funs.mem z
      exact absurd (Heap.lt_size ho') (Nat.not_lt.mpr hc)
    ·cases z:X.K.lookup c with
     | none=>rfl
     | some o'=>exact absurd (Heap.lt_size (I.ok.bs c o' (I.ok.mod.kin c o' z)).1) (Nat.not_lt.mpr hc)
   ·exact g2 p hp
theorem pe_callG {x:Str} {p pos:Pos} {e:Expr} {es:List Expr} {t:TA} {ix:List Nat} (hr:Room k X.A) (hg:Gl X x) (hm:X.mg x=some (.ref f)) (hk:PySem.W.keepIn X.K (.ref f)=true) (hb:Binds X.K fd ps [])
  (hix:∀ i∈ix,∃ x,X.N[i]?=some x∧X.env.scope.names.lookup x=some .cell∧X.fn x=true)
  (ha:PA X (e :: es) t) (hdb:(x == ("__debug__":Str))=false:=by decide) (he:starEach (e :: es) X.env=(false,eval e X.env) :: starEach es X.env:=by rfl) (hpl:(backTo pos (starEach es X.env)).any (·.1)=false:=by rfl) :
  PE X (.Call (.Name x p) (e :: es) [] pos) (tCallG X k f fd ps ix t):=by
 intro pins s σ H Q I h
 refine wpAny_Call_Name_kw (ld_glob I hg hm ?_ hdb)
 refine PySem.W.callWith_K (h₀:=X.base) I.ok.mod.kin hk (thn (ha pos pins s σ H _ I h) fun us s1 ⟨vs,H1,I1,r,hσ,xs,hxs,q⟩=>⟨I1.kIn,?_⟩) he hpl
 obtain⟨cs,g1,g2⟩:=I1.cellsAt ix hix hσ
 have hx1:∀ p∈xs,s1.heap.get? p.1=some p.2:=fun p hp=>(I1.hok _ _ (hxs p hp)).1
 have good2:∀ p∈xs++cs,s1.heap.get? p.1=some p.2:=fun p hp=>(List.mem_append.mp hp).elim (hx1 p) fun z=>(g2 p z).1
 obtain⟨sp,F,hs⟩:=q (X.K++(xs++cs)) cs I1.ok (fun a o z=>by
   show List.lookup a (X.K++(xs++cs))=some o
   rw[List.lookup_append,show List.lookup a X.K=some o from z];rfl) (fun a o z=>by
   have z:List.lookup a (X.K++(xs++cs))=some o:=z
   rw[List.lookup_append] at z
   cases y:List.lookup a X.K with
   | some o' =>
    rw[y] at z
    cases z
    exact .inl rfl
   | none =>
    rw[y,Option.none_or] at z
    exact .inr (mem_of_lookupA z)) (fun p hp=>by
   have kn:X.K.lookup p.1=none:=by
    rcases List.mem_append.mp hp with z | z
    ·cases y:X.K.lookup p.1 with
     | none=>rfl
     | some o =>
      have:=(I1.bs p.1 o (I1.ok.mod.kin _ _ y)).2
      rw[hxs p z] at this;cases this
    ·exact (g2 p z).2.2.2
   show List.lookup p.1 (X.K++(xs++cs))=some p.2
   rw[List.lookup_append,show List.lookup p.1 X.K=none from kn,Option.none_or]
   exact lookup_same (fun q hq e=>by
    have h1:=good2 q hq
    rw[e,good2 p hp] at h1
    exact (Option.some.inj h1).symm) hp) g1
 exact run_fnG xs cs I1 hxs (fun p hp=>⟨(g2 p hp).1,(g2 p hp).2.1,(g2 p hp).2.2.1⟩) F hr hb r hs
end
end L2
namespace L2
open PySem PySem.Spec PyProof.Rows
theorem law_callT {P:Program} {w:World} {K:PySem.W.Frag} {mg mb:Str→Option Value} {CX:CXT} {k:Nat} {fa a:Addr} {fd:FuncData} {x:Str} {sp:Sp} {s₁:Shared} {vs:List Value} {ns:List Int} {ts:List Addr}
  (KX:K.In s₁.heap) (hns:s₁.heap.Ns mainGlobals mg) (hb:s₁.heap.Ns builtinsNs mb) (hbb:∀ x:Str,x≠"__name__"→mb x=bootBuiltins x) (hlim:s₁.heap.NoLimit) (hg:s₁.gens=#[])
  (ha:s₁.heap.get? a=some { cls:=.type "list",data:=.seq vs.toArray }) (hi:IntsAre vs ns) (hl:ns.length≤sizeLine) (hr:Room k callerA)
  (hT:∀ p∈ts,s₁.heap.get? p=some (PySem.W.tabObj #[])) (hTK:∀ p∈ts,K.lookup p=none) (hTc:∀ p∈ts,isCodeTable s₁.heap p)
  (F:∀ base:Heap,K.In base→base.Ns mainGlobals mg→FnOk P w K mg base CX k fa fd [x] sp) (hbind:∀ (s:Shared) (u:Value),BindsTo s fd ⟨[u],[]⟩ [(x,u)])
  (hsp:∀ H:Hp,(∀ p∈ts,H p=some (.tbl #[]))→SqL K H a (ns.map V.int)→sp [.ref a] H (fun v _=>v=.bl true) fun _ _ _=>False)
  (hCX:∀ H e s',CX [] H s₁ (fun _ _ _=>False) e s'→False) :
  codeAny (model P w) callerA (.call (.ref fa) ⟨[.ref a],[]⟩) (fun r s'=>r=.ok (.ret (.bool true))∧OldK s₁.heap s'.heap∧s'.os=s₁.os∧AllBare s'.gens) s₁:=by
 have rv:=vals_ints hi
 have lenV:=hi.length
 have core:∀ H:Hp,(∀ b u,H b=some u→(b=a∧K.lookup a=none∧∃ xs,u=.frz { cls:=.type "list",data:=.seq vs.toArray } (.lst xs))∨(b∈ts∧u=.tbl #[]))→(∀ p∈ts,H p=some (.tbl #[]))→SqL K H a (ns.map V.int)→HOk P w H s₁.heap →
   codeAny (model P w) callerA (.call (.ref fa) ⟨[.ref a],[]⟩) (fun r s'=>r=.ok (.ret (.bool true))∧OldK s₁.heap s'.heap∧s'.os=s₁.os∧AllBare s'.gens) s₁:=by
  intro H hA hTb hS hok
  have base_of:∀ {b:Addr} {o:Obj},s₁.heap.get? b=some o→H b=none→(hidT s₁.heap H).get? b=some o:=fun e n=>hidT_get e n
  have noA:∀ {b:Addr} {o:Obj} {es:Array DictEntry} {ep:Nat},s₁.heap.get? b=some o→o.data=.dict es ep→H b=none:=fun {b o es ep} e d=>by
   cases q:H b with
   | none=>rfl
   | some u =>
    rcases hA b u q with ⟨rfl,_⟩ | ⟨hb,_⟩
    ·rw[ha] at e;cases e
     have d':Data.seq vs.toArray _=Data.dict es ep:=d
     cases d'
    ·rw[hT b hb] at e;cases e
     have d':Data.fields #[]=Data.dict es ep:=d
     cases d'
  have nsK:∀ {b:Addr} {m:Str→Option Value},s₁.heap.Ns b m→(hidT s₁.heap H).Ns b m:=fun {b m} ⟨o,es,ep,e,d,r⟩=>⟨o,es,ep,base_of e (noA e d),d,r⟩
  have hKb:K.In (hidT s₁.heap H):=fun b o e=>base_of (KX b o e) (by
   cases q:H b with
   | none=>rfl
   | some u =>
    rcases hA b u q with ⟨rfl,hk,_⟩ | ⟨hb,_⟩
    ·rw[hk] at e;cases e
    ·rw[hTK b hb] at e;cases e)
  have hM:Mod K mg (hidT s₁.heap H):=⟨hKb,nsK hns,⟨mb,nsK hb,hbb⟩,let ⟨mc,h1,h2⟩:=hlim;⟨mc,nsK h1,h2⟩⟩
  have e0:Env0 P w K mg (hidT s₁.heap H) callerA [] s₁ H:=⟨rfl,hM,fun b o e=>of_hidT e,Nat.le_of_eq (hidT_size _ _),trivial,fun b hb=>absurd (show b∈([]:List Addr) from hb) (by simp),hok,.of_eq hg⟩
  refine codeAny_mono ((F _ hKb (nsK hns)).run callerA [] s₁ H ⟨[.ref a],[]⟩ [.ref a] [.ref a] _ _ hr e0 (hbind s₁ (.ref a)) (.cons rfl .nil) (hsp H hTb hS)) fun r s' h=>?_
  cases r with
  | error e=>exact (hCX H e s' h).elim
  | ok fl =>
   cases fl with
   | next=>exact False.elim h
   | brk=>exact False.elim h
   | cont=>exact False.elim h
   | ret u =>
    obtain⟨v,H',os,bare,un,hok',r',q⟩:=h
    have q':v=.bl true:=q
    subst q'
    obtain rfl:u=Value.bool true:=r'
    refine⟨rfl,⟨fun b o e=>?_,fun b o e=>un.there b o e (by simp)⟩,os,bare⟩
    cases q:H b with
    | none=>exact .inl (un.keep b o e q (by intro z;exact absurd (show b∈([]:List Addr) from z) (by simp)) (by simp))
    | some u =>
     rcases hA b u q with ⟨rfl,_,xs,rfl⟩ | ⟨hb,rfl⟩
     ·have z2:=un.frzs b _ _ q
      obtain⟨e1,_⟩:=hok b _ q
      obtain⟨e2,_⟩:=hok' b _ z2
      rw[e] at e1;cases e1
      exact .inl e2
     ·obtain⟨more,z2⟩:=un.tbls b _ q
      have e2:=hok' b _ z2
      rw[hT b hb] at e
      cases e
      exact .inr (.inl ⟨hTc b hb,rfl,#[],more,rfl,e2⟩)
 have naT:a ∉ ts:=fun z=>by
  have:=hT a z
  rw[ha] at this
  have h2:=congrArg Obj.cls (Option.some.inj this)
  cases h2
 cases hk:K.lookup a with
 | some o =>
  have e:=KX a o hk
  rw[ha] at e
  cases e
  refine core (fun b=>if b∈ts then some (.tbl #[]) else none) (fun b u z=>?_) (fun p hp=>if_pos hp) (.inr ⟨_,vs.toArray,_,hk,rfl,rfl,rfl,by rw[List.size_toArray,lenV];exact hl,by simpa using rv⟩) (fun b u z=>?_)
  ·by_cases hb:b∈ts
   ·have z':=(if_pos hb).symm.trans z
    cases z'
    exact .inr ⟨hb,rfl⟩
   ·have z':=(if_neg hb).symm.trans z
    cases z'
  ·by_cases hb:b∈ts
   ·have z':=(if_pos hb).symm.trans z
    cases z'
    exact hT b hb
   ·have z':=(if_neg hb).symm.trans z
    cases z'
 | none =>
  refine core (fun b=>if b∈ts then some (.tbl #[]) else if b=a then some (.frz { cls:=.type "list",data:=.seq vs.toArray } (.lst (ns.map V.int))) else none) (fun b u z=>?_) (fun p hp=>if_pos hp) (.inl (.inr ⟨{ cls:=.type "list",data:=.seq vs.toArray },(if_neg naT).trans (if_pos rfl)⟩)) (fun b u z=>?_)
  ·by_cases hb:b∈ts
   ·have z':=(if_pos hb).symm.trans z
    cases z'
    exact .inr ⟨hb,rfl⟩
   ·have z':=(if_neg hb).symm.trans z
    by_cases hba:b=a
    ·rw[if_pos hba] at z'
     cases z'
     exact .inl ⟨hba,hk,_,rfl⟩
    ·rw[if_neg hba] at z'
     cases z'
  ·by_cases hb:b∈ts
   ·have z':=(if_pos hb).symm.trans z
    cases z'
    exact hT b hb
   ·have z':=(if_neg hb).symm.trans z
    by_cases hba:b=a
    ·rw[if_pos hba] at z'
     cases z'
     subst hba
     exact⟨ha,by rw[List.length_map];exact hl,vs,_,rv,ha⟩
    ·rw[if_neg hba] at z'
     cases z'
structure BltK (K:PySem.W.Frag) (mg:Str→Option Value) (bm:Addr):Prop where
 m:mg (Str.ofString "__builtins__")=some (.ref bm)
 l:∃ ob,K.lookup bm=some ob∧ob.cls=.type "module"∧ob.dict=some builtinsNs∧ob.data=.plain
 n1:bm≠builtinsNs
 n2:bm≠mainGlobals
theorem BltK.at {K:PySem.W.Frag} {mg:Str→Option Value} {bm:Addr} (b:BltK K mg bm) {T:Addr} (n:bm≠T) (h:Heap) (k:K.In h):h.BuiltinsAt mg T:=by
 obtain⟨ob,l,c,d,e⟩:=b.l
 exact⟨bm,ob,b.m,b.n1,b.n2,n,k _ _ l,c,d,e⟩
end L2
namespace Ken
open PySem L2
theorem boot_len:bootBuiltins "len"=some (.builtin "len"):=by decide +kernel
theorem boot_isinstance:bootBuiltins "isinstance"=some (.builtin "isinstance"):=by decide +kernel
theorem boot_min:bootBuiltins "min"=some (.builtin "min"):=by decide +kernel
theorem boot_sorted:bootBuiltins "sorted"=some (.builtin "sorted"):=by decide +kernel
theorem boot_str:bootBuiltins "str"=some (.type "str"):=by decide +kernel
theorem boot_int:bootBuiltins "int"=some (.type "int"):=by decide +kernel
theorem boot_bool:bootBuiltins "bool"=some (.type "bool"):=by decide +kernel
theorem boot_tuple:bootBuiltins "tuple"=some (.type "tuple"):=by decide +kernel
theorem boot_list:bootBuiltins "list"=some (.type "list"):=by decide +kernel
theorem kit_ts (K:PySem.W.Frag):PySem.W.kitOne K (.type "tuple") (.type "str")=some false:=rfl
inductive Kd where
 | both | one | thn
 deriving DecidableEq
noncomputable def Kd.str:Kd→Str
 | .both=>"both"
 | .one=>"one"
 | .thn=>"then"
inductive Tm where
 | low
 | ltr (w:Str)
 | nd (k:Kd) (a b:Tm)
 deriving DecidableEq
noncomputable def Tm.data:Tm→PyData
 | .low=>.tuple [.str "low"]
 | .ltr w=>.tuple [.str "letter",.str w]
 | .nd k a b=>.tuple [.str k.str,a.data,b.data]
noncomputable def Tm.parts:Tm→Nat
 | .low=>1
 | .ltr _=>1
 | .nd _ a b=>1+a.parts+b.parts
noncomputable def Tm.deep:Tm→Nat
 | .low=>1
 | .ltr _=>1
 | .nd _ a b=>1+max a.deep b.deep
theorem Tm.parts_pos:∀ t:Tm,1≤t.parts
 | .low=>Nat.le_refl _
 | .ltr _=>Nat.le_refl _
 | .nd _ a b=>by show 1≤1+a.parts+b.parts;omega
noncomputable def Word (x:Str):Prop:=1≤x.cps.toList.length∧x.cps.toList.length≤8∧∀ c∈x.cps.toList,97≤c∧c≤122
theorem Word.strOk {x:Str} (h:Word x):PySem.PyData.strOk x=true:=by
 unfold PySem.PyData.strOk
 rw[Array.all_eq_true_iff_forall_mem]
 intro c hc
 have:=h.2.2 c (by simpa using hc)
 exact decide_eq_true (by omega)
noncomputable def Tm.ok:Tm→Prop
 | .low=>True
 | .ltr w=>Word w
 | .nd _ a b=>a.ok∧b.ok
noncomputable abbrev IsT (K:PySem.W.Frag) (H:Hp) (v:V) (t:Tm):Prop:=Dn K H v t.data
theorem Tm.noList:∀ t:Tm,L2.noList t.data=true
 | .low=>rfl
 | .ltr _=>rfl
 | .nd k a b=>by
  show (true&&(L2.noList a.data&&(L2.noList b.data&&true)))=true
  rw[a.noList,b.noList];rfl
theorem Tm.lay:∀ t:Tm,t.ok→t.data.canLay0=true
 | .low,_=>by
  show (PySem.PyData.strOk "low"&&true)=true
  decide +kernel
 | .ltr w,h=>by
  show (PySem.PyData.strOk "letter"&&(PySem.PyData.strOk w&&true))=true
  rw[Word.strOk h];decide +kernel
 | .nd k a b,h=>by
  show (PySem.PyData.strOk k.str&&(a.data.canLay0&&(b.data.canLay0&&true)))=true
  rw[a.lay h.1,b.lay h.2]
  cases k<;>decide +kernel
theorem Tm.depth:∀ t:Tm,t.data.depth=t.deep
 | .low=>rfl
 | .ltr _=>rfl
 | .nd k a b=>by
  show max 0 (max a.data.depth (max b.data.depth 0))+1=1+max a.deep b.deep
  rw[a.depth,b.depth];omega
section
variable {K:PySem.W.Frag} {H H':Hp} {v:V}
theorem IsT.keep {t:Tm} (h:IsT K H v t) (k:KeepT K H H'):IsT K H' v t:=Dn.keepT k t.noList h
theorem isT_low:IsT K H v .low↔∃ a,v=.ref a∧SqT K H a [.str "low"]:=by
 show Dn K H v (.tuple [.str "low"])↔_
 rw[Dn]
 constructor
 ·rintro⟨a,xs,rfl,hs,hd⟩
  rw[DnAll] at hd
  obtain⟨x,r,rfl,h1,h2⟩:=hd
  rw[Dn] at h1
  rw[DnAll] at h2
  subst h1;subst h2
  exact⟨a,rfl,hs⟩
 ·rintro⟨a,rfl,hs⟩
  refine⟨a,_,rfl,hs,?_⟩
  rw[DnAll]
  exact⟨_,_,rfl,by rw[Dn],by rw[DnAll]⟩
theorem isT_ltr {w:Str}:IsT K H v (.ltr w)↔∃ a,v=.ref a∧SqT K H a [.str "letter",.str w]:=by
 show Dn K H v (.tuple [.str "letter",.str w])↔_
 rw[Dn]
 constructor
 ·rintro⟨a,xs,rfl,hs,hd⟩
  rw[DnAll] at hd
  obtain⟨x,r,rfl,h1,h2⟩:=hd
  rw[DnAll] at h2
  obtain⟨y,r,rfl,h3,h4⟩:=h2
  rw[Dn] at h1 h3
  rw[DnAll] at h4
  subst h1;subst h3;subst h4
  exact⟨a,rfl,hs⟩
 ·rintro⟨a,rfl,hs⟩
  refine⟨a,_,rfl,hs,?_⟩
  rw[DnAll]
  refine⟨_,_,rfl,by rw[Dn],?_⟩
  rw[DnAll]
  exact⟨_,_,rfl,by rw[Dn],by rw[DnAll]⟩
theorem isT_nd {k:Kd} {a b:Tm}:IsT K H v (.nd k a b)↔∃ p x y,v=.ref p∧SqT K H p [.str k.str,x,y]∧IsT K H x a∧IsT K H y b:=by
 show Dn K H v (.tuple [.str k.str,a.data,b.data])↔_
 rw[Dn]
 constructor
 ·rintro⟨p,xs,rfl,hs,hd⟩
  rw[DnAll] at hd
  obtain⟨x,r,rfl,h1,h2⟩:=hd
  rw[DnAll] at h2
  obtain⟨y,r,rfl,h3,h4⟩:=h2
  rw[DnAll] at h4
  obtain⟨z,r,rfl,h5,h6⟩:=h4
  rw[Dn] at h1
  rw[DnAll] at h6
  subst h1;subst h6
  exact⟨p,y,z,rfl,hs,h3,h5⟩
 ·rintro⟨p,x,y,rfl,hs,h1,h2⟩
  refine⟨p,_,rfl,hs,?_⟩
  rw[DnAll]
  refine⟨_,_,rfl,by rw[Dn],?_⟩
  rw[DnAll]
  refine⟨_,_,rfl,h1,?_⟩
  rw[DnAll]
  exact⟨_,_,rfl,h2,by rw[DnAll]⟩
end
theorem eqvAll3 (a b c d e f:PyData):PyData.eqvAll [a,b,c] [d,e,f]=(PyData.eqv a d&&(PyData.eqv b e&&PyData.eqv c f)):=by
 simp[PyData.eqvAll]
theorem Kd.str_inj {a b:Kd} (h:a.str=b.str):a=b:=by
 cases a<;>cases b<;>first | rfl | exact absurd h (by decide)
theorem Tm.eqv:∀ s t:Tm,PyData.eqv s.data t.data=decide (s=t)
 | .low,.low=>by decide
 | .low,.ltr w=>by
  show PyData.eqvAll [.str "low"] [.str "letter",.str w]=_
  simp[PyData.eqvAll]
 | .low,.nd k a b=>by
  show PyData.eqvAll [.str "low"] [.str k.str,a.data,b.data]=_
  simp[PyData.eqvAll]
 | .ltr w,.low=>by
  show PyData.eqvAll [.str "letter",.str w] [.str "low"]=_
  simp[PyData.eqvAll]
 | .ltr w,.ltr v=>by
  show (PyData.eqv (.str "letter") (.str "letter")&&(PyData.eqv (.str w) (.str v)&&true))=_
  simp[PyData.eqv]
  rfl
 | .ltr w,.nd k a b=>by
  show PyData.eqvAll [.str "letter",.str w] [.str k.str,a.data,b.data]=_
  simp[PyData.eqvAll]
 | .nd k a b,.low=>by
  show PyData.eqvAll [.str k.str,a.data,b.data] [.str "low"]=_
  simp[PyData.eqvAll]
 | .nd k a b,.ltr w=>by
  show PyData.eqvAll [.str k.str,a.data,b.data] [.str "letter",.str w]=_
  simp[PyData.eqvAll]
 | .nd k a b,.nd l c d=>by
  show PyData.eqvAll [.str k.str,a.data,b.data] [.str l.str,c.data,d.data]=_
  rw[eqvAll3,a.eqv c,b.eqv d]
  have e:PyData.eqv (.str k.str) (.str l.str)=decide (k=l):=by
   show (k.str == l.str)=_
   by_cases h:k=l
   ·subst h;simp
   ·have:¬ k.str=l.str:=fun z=>h (Kd.str_inj z)
    rw[decide_eq_false h];exact beq_eq_false_iff_ne.mpr this
  rw[e]
  by_cases h1:k=l<;>by_cases h2:a=c<;>by_cases h3:b=d<;>simp[h1,h2,h3]
end Ken
namespace Ken
open PySem L2
noncomputable def mix (c k:Int):Int:=((c+1)*(48271+118*k) % 2147483629 / 977*16807+(c+1)*(48271+118*k) % 2147483629*(k*k+7)+k) % 2147483587
theorem mix_nn (c k:Int):0≤mix c k:=by unfold mix;exact Int.emod_nonneg _ (by decide)
noncomputable def sp_mix:Sp:=fun vs H Q _=>∃ c k:Int,vs=[.int c,.int k]∧0≤k∧k≤100000∧Q (.int (mix c k)) H
noncomputable def cellOf (ns:List Int) (k:Int):Int:=mix (if k < (ns.length:Int) then (ns[k.toNat]?.getD 0) % 2147483647 else 0) (k+101)
theorem cell_nn (ns:List Int) (k:Int):0≤cellOf ns k:=mix_nn _ _
noncomputable def sp_cell (K:PySem.W.Frag):Sp:=fun vs H Q _=>∃ (a:Addr) (ns:List Int) (k:Int),vs=[.ref a,.int k]∧SqL K H a (ns.map V.int)∧ns.length≤63∧0≤k∧k≤1000∧Q (.int (cellOf ns k)) H
noncomputable def Words (ws:List Str):Prop:=2≤ws.length∧ws.length≤6∧∀ w∈ws,Word w
noncomputable def Tm.inW (ws:List Str):Tm→Prop
 | .low=>True
 | .ltr w=>w∈ws
 | .nd _ a b=>a.inW ws∧b.inW ws
theorem Tm.inW.ok {ws:List Str} (hw:∀ w∈ws,Word w):∀ {t:Tm},t.inW ws→t.ok
 | .low,_=>trivial
 | .ltr w,h=>hw w h
 | .nd _ a b,h=>⟨Tm.inW.ok hw h.1,Tm.inW.ok hw h.2⟩
noncomputable def Made (K:PySem.W.Frag) (H:Hp) (ws:List Str) (p d:Nat) (r:V) (t:Tm):Prop:=IsT K H r t∧t.inW ws∧t.parts≤p∧t.deep≤d
theorem Made.mono {K:PySem.W.Frag} {H H':Hp} {ws:List Str} {p d p' d':Nat} {r:V} {t:Tm} (h:Made K H ws p d r t) (k:KeepT K H H') (hp:p≤p') (hd:d≤d'):Made K H' ws p' d' r t :=
 ⟨h.1.keep k,h.2.1,Nat.le_trans h.2.2.1 hp,Nat.le_trans h.2.2.2 hd⟩
section
variable {K:PySem.W.Frag} {H:Hp} {p:Addr}
theorem made_low (ws:List Str) (hp:H p=none):Made K (upd H p (.tup [.str "low"])) ws 1 1 (.ref p) .low :=
 ⟨isT_low.mpr ⟨p,rfl,.inl (.inl upd_same)⟩,trivial,Nat.le_refl _,Nat.le_refl _⟩
theorem made_ltr {ws:List Str} {w:Str} (hw:w∈ws) (hp:H p=none):Made K (upd H p (.tup [.str "letter",.str w])) ws 1 1 (.ref p) (.ltr w) :=
 ⟨isT_ltr.mpr ⟨p,rfl,.inl (.inl upd_same)⟩,hw,Nat.le_refl _,Nat.le_refl _⟩
theorem made_nd {ws:List Str} {k:Kd} {x y:V} {a b:Tm} {pa da pb db:Nat} (ha:Made K H ws pa da x a) (hb:Made K H ws pb db y b) (hp:H p=none) :
  Made K (upd H p (.tup [.str k.str,x,y])) ws (1+pa+pb) (1+max da db) (.ref p) (.nd k a b):=by
 refine⟨isT_nd.mpr ⟨p,x,y,rfl,.inl (.inl upd_same),ha.1.keep (keepT_new hp),hb.1.keep (keepT_new hp)⟩,⟨ha.2.1,hb.2.1⟩,?_,?_⟩
 ·show 1+a.parts+b.parts≤_
  have:=ha.2.2.1
  have:=hb.2.2.1
  omega
 ·show 1+max a.deep b.deep≤_
  have:=ha.2.2.2
  have:=hb.2.2.2
  omega
end
noncomputable def wordB (x:Str):Bool:=decide (1≤x.cps.toList.length)&&decide (x.cps.toList.length≤8)&&x.cps.toList.all fun c=>decide (97≤c)&&decide (c≤122)
theorem word_of {x:Str} (h:wordB x=true):Word x:=by
 unfold wordB at h
 simp only[Bool.and_eq_true,decide_eq_true_eq,List.all_eq_true] at h
 exact⟨h.1.1,h.1.2,fun c hc=>by have:=h.2 c hc;simpa using this⟩
theorem at_list {α:Type} {xs:List α} {i:Int} (h0:0≤i) (h1:i < (xs.length:Int)):∃ v,v∈xs∧atI xs i=some v:=by
 obtain⟨j,rfl⟩:=Int.eq_ofNat_of_zero_le h0
 have hj:j < xs.length:=by omega
 exact⟨xs[j],List.getElem_mem hj,atI_nat (List.getElem?_eq_getElem hj)⟩
end Ken
namespace Ken
open PySem L2
theorem small1M {n:Nat} (h:n≤1000000):n < sizeLine:=Nat.lt_of_le_of_lt h (by rw[sizeLine_eq];decide)
theorem isT_tup {K:PySem.W.Frag} {H:Hp} {v:V} {t:Tm} (h:IsT K H v t):∃ a xs,v=.ref a∧SqT K H a xs:=by
 cases t with
 | low=>obtain⟨a,rfl,hs⟩:=isT_low.mp h;exact⟨a,_,rfl,hs⟩
 | ltr w=>obtain⟨a,rfl,hs⟩:=isT_ltr.mp h;exact⟨a,_,rfl,hs⟩
 | nd k x y=>obtain⟨a,vx,vy,rfl,hs,_,_⟩:=isT_nd.mp h;exact⟨a,_,rfl,hs⟩
theorem canLay_list {ds:List PyData} (h:∀ d∈ds,d.canLay0=true):(PyData.list ds).canLay0=true:=by
 show PyData.canLayAll0 ds=true
 induction ds with
 | nil=>rfl
 | cons d ds ih =>
  show (d.canLay0&&PyData.canLayAll0 ds)=true
  rw[h d List.mem_cons_self,ih fun e he=>h e (List.mem_cons_of_mem _ he)];rfl
end Ken
namespace Ken
open PySem L2
theorem paired_get {α β:Type} {F:α→β→Prop}:∀ {l:List α} {m:List β} {i:Nat} {x:α},Paired F l m→l[i]?=some x→∃ y,m[i]?=some y∧F x y
 | _,_,0,_,.cons h t,e=>by cases e;exact⟨_,rfl,h⟩
 | _,_,i+1,_,.cons h t,e=>paired_get (i:=i) t (by simpa using e)
end Ken
namespace L2
open PySem PySem.Spec PyProof.Rows
end L2
namespace Ken
open PySem L2
theorem paired_app {α β:Type} {F:α→β→Prop}:∀ {l l':List α} {m m':List β},Paired F l m→Paired F l' m'→Paired F (l++l') (m++m')
 | _,_,_,_,.nil,q=>q
 | _,_,_,_,.cons h t,q=>.cons h (paired_app t q)
end Ken
namespace Ken
open PySem L2
end Ken
namespace L2
open PySem PySem.Spec PyProof.Rows
section
variable {X:Cx}
theorem call_list_ofK {K:PySem.W.Frag} (hK:X.K=K):CallR X (.type "list") (fun xs H Q=>∃ p ys,xs=[.ref p]∧(SqL K H p ys∨SqT K H p ys)∧∀ l,H l=none→Q (.ref l) (upd H l (.lst ys))):=hK▸call_list_of
theorem ix_tupK {K:PySem.W.Frag} (hK:X.K=K):IxR X (rIxT K):=hK▸ix_tup
end
end L2
namespace L2
open PySem PySem.Spec PyProof.Rows
noncomputable abbrev TK:=St→Hp→(Hp→Prop)→Prop
noncomputable def compW (σ0:St) (J:It) (g:TG) (tk:TK) (Q:Hp→Prop) (W:Nat→Nat→Hp→Prop):Prop :=
 ∀ i m H2,W i m H2→(J.stop i H2∧Q H2)∨(J.go i H2∧∀ x H3,J.yld i H2 x H3→g x σ0 H3 fun σ4 H4=>Wk σ0 σ4∧tk σ4 H4 fun H5=>∃ m',m' < m∧W (i+1) m' H5)
noncomputable def PTn (Y:Cx) (body:Sem Unit) (tk:TK):Prop:=∀ (pins:List (Addr×Obj)) (s:Shared) (σ:St) (H:Hp) (N:Hp→Prop),Inv Y pins σ H s→tk σ H N →
 wpAny (model Y.prog Y.w) Y.A body (fun _ s'=>∃ σ' H',Inv Y pins σ' H' s'∧Wk σ σ'∧N H') Y.xe s
noncomputable def TurnIs (e:Expr) (d:Nat) (tg:Expr) (p:Pos) (acc:Value) (env:Env) (body:Sem Unit):Prop:=∀ it,compTurn e d it acc env=(standAt p >>= fun _=>pyNext it >>= fun r=>match r with
   | none=>pure (.done .next)
   | some v=>letOwnedTupleGo tg it v >>= fun _=>assign tg env v >>= fun _=>body >>= fun _=>again (.compLoop e d it acc env))
noncomputable def DenIs (prog:Program) (w:World) (A:Around) (e:Expr) (d:Nat) (acc:Value) (env:Env):Prop:=∀ it,
 (model prog w).den (.compLoop e d it acc env)=(compTurn e d it acc env).onRaise (fun x=>do noteFrame x env;theTreesLotGoes x)∧A.under (.compLoop e d it acc env)=A ∧
 (∃ p,(model prog w).den (.compStart e d it acc env)=(compStart e d it acc env).onRaise (fun x=>do noteFrame x env;standAt p))∧A.under (.compStart e d it acc env)=A
theorem comp_loop {Y:Cx} {e tg:Expr} {d:Nat} {p:Pos} {g:TG} {tk:TK} {it:Addr} {acc:Value} {body:Sem Unit} {fp:List Addr} {tn:Nat→Heap→Prop} {J:It} {Q:Hp→Prop} {σ0:St} {R:Result→Shared→Prop} {s:Shared} {i0 m0:Nat} {H1:Hp} {W:Nat→Nat→Hp→Prop} {pins:List (Addr×Obj)}
  (hc:Y.calm=true) (hxe:Y.xe=fun _ _=>False) (hden:DenIs Y.prog Y.w Y.A e d acc Y.env) (eq:TurnIs e d tg p acc Y.env body) (hg:PG Y tg g) (hb:PTn Y body tk) (T:Turn Y.prog Y.w Y.K tg J fp it tn)
  (hfp:∀ (H':Hp),(∀ b∈fp,H' b=none)→∀ b∈fp,FpOk Y pins H' b) (hW:compW σ0 J g tk Q W)
  (hR:∀ s' H',Inv Y pins σ0 H' s'→Q H'→R (.ok .next) s')
  (I:Inv Y pins σ0 H1 s) (hst:tn i0 s.heap) (hfr:∀ b∈fp,H1 b=none) (w:W i0 m0 H1) :
  codeAny (model Y.prog Y.w) Y.A (.compLoop e d (.ref it) acc Y.env) R s:=by
 have nE:∀ {M:Model} {A:Around} {env:Env} {E:Value→Shared→Prop} (x:Value) (s:Shared),Y.xe x s→notedBy M A env E x s:=fun x s z=>by rw[hxe] at z;exact z.elim
 refine codeAny_loop rfl (fun n s=>∃ i H2,Inv Y pins σ0 H2 s∧tn i s.heap∧(∀ b∈fp,H2 b=none)∧W i n H2) (fun n s hI=>?_) m0 ⟨i0,H1,I,hst,hfr,w⟩
 obtain⟨i,H2,I2,st2,fr2,w2⟩:=hI
 rw[(hden (.ref it)).1,(hden (.ref it)).2.1]
 refine wpAny_noted ?_
 rw[eq]
 refine wpAny_bind (wpAny_standAt (wpAny_bind ?_))
 rcases hW i n H2 w2 with ⟨stop,q⟩ | ⟨go,step⟩
 ·refine thn (T.done Y rfl rfl rfl hc i pins s σ0 H2 _ I2 (hfp H2 fr2) st2 stop) fun r s1 ⟨hr,I3⟩=>?_
  subst hr
  exact wpAny_pure (hR s1 H2 I3 q)
 ·refine thn (T.item Y rfl rfl rfl hc i pins s σ0 H2 _ I2 (hfp H2 fr2) st2 go) fun r s1 ⟨u,hr,h4⟩=>?_
  subst hr
  refine wpAny_bind (thn h4 fun _ s5 ⟨x,H5,I5,r5,y5,st5,fr5⟩=>?_)
  have I5':=I5.pinned (hfp H5 fr5) (T.obj _ _ st5)
  refine wpAny_bind (wpAny_mono (hg _ s5 σ0 H5 x u _ I5' r5 (step x H5 y5)) (fun _ s6 ⟨σ6,H6,I6,hw6,q6⟩=>?_) nE)
  refine wpAny_bind (wpAny_mono (hb _ s6 σ6 H6 _ I6 q6) (fun _ s8 ⟨σ8,H8,I8,hw8,m',hm',w7⟩=>?_) nE)
  refine wpAny_pure ⟨rfl,m',hm',i+1,H8,?_,?_,fun b hb=>?_,w7⟩
  ·have:=hw6.trans hw8
   exact I8.unpinned.weak this.1.symm this.2
  ·exact T.keep _ _ _ st5 fun b hb o e=>(I8.pin (b,o) (List.mem_append_right _ (List.mem_append_right _ (mem_pinsAt hb e)))).1
  ·obtain⟨o,e,dd⟩:=T.obj _ _ st5 b hb
   exact (I8.pin (b,o) (List.mem_append_right _ (List.mem_append_right _ (mem_pinsAt hb e)))).2.1
theorem codeAny_compStart_gen {prog:Program} {w:World} {A:Around} {R:Result→Shared→Prop} {s:Shared} {e:Expr} {d:Nat} {g:Comprehension} {it acc:Value} {env:Env} (hden:DenIs prog w A e d acc env) (hcl:(clausesOf e)[d]?=some g) (ha:g.is_async=0)
  (h0:codeAny (model prog w) A (.compLoop e d it acc env) R s)
  (h:wpAny (model prog w) A (pyIter it) (fun it' s'=>codeAny (model prog w) A (.compLoop e d it' acc env) R s') (notedBy (model prog w) A env fun x s'=>R (.error x) s') s) :
  codeAny (model prog w) A (.compStart e d it acc env) R s:=by
 refine codeAny_of_tree ?_
 obtain⟨p,ep⟩:=(hden it).2.2.1
 rw[ep,(hden it).2.2.2]
 refine wpAny_notedAt ?_
 unfold compStart
 rw[hcl]
 have e1:((some g).elim false fun x=>x.is_async != 0)=false:=by show (g.is_async != 0)=false;rw[ha];rfl
 rw[e1,if_neg Bool.false_ne_true]
 refine wpAny_bind (wpAny_askSetting ?_)
 refine wpAny_ite ?_
 split
 ·exact wpAny_pure ⟨rfl,h0⟩
 ·refine wpAny_bind (wpAny_rule (wpAny_bind (wpAny_standAt (wpAny_bind (wpAny_mono h (fun it' s' h'=>wpAny_pure ⟨rfl,h'⟩) fun _ _ z=>z)))))
theorem den_L {prog:Program} {w:World} {A:Around} {elt:Expr} {gens:List Comprehension} {scope:Scope} {pos:Pos} {d:Nat} {acc:Value} {env:Env}:DenIs prog w A (.ListComp elt gens scope pos) d acc env:=fun it=>⟨rfl,rfl,⟨_,rfl⟩,rfl⟩
theorem den_D {prog:Program} {w:World} {A:Around} {k v:Expr} {gens:List Comprehension} {scope:Scope} {pos:Pos} {d:Nat} {acc:Value} {env:Env}:DenIs prog w A (.DictComp k v gens scope pos) d acc env:=fun it=>⟨rfl,rfl,⟨_,rfl⟩,rfl⟩
noncomputable def emitL (elt:Expr) (acc:Value) (env:Env):Sem Unit:=eval elt env >>= fun x=>call (.builtin "list.append") [acc,x] >>= fun _=>pure ()
noncomputable def emitS (elt:Expr) (acc:Value) (env:Env):Sem Unit:=eval elt env >>= fun v=>standAt elt.pos >>= fun _=>call (.builtin "set.add") [acc,v] >>= fun _=>pure ()
noncomputable def emitD (k v:Expr) (d:Addr) (env:Env):Sem Unit:=eval k env >>= fun kv=>holding [kv] (eval v env) >>= fun vv=>standAt { line:=k.pos.line,col:=k.pos.col,endLine:=v.pos.endLine,endCol:=v.pos.endCol } >>= fun _=>holding [kv,vv] (dictSet d kv vv)
noncomputable def testB (c:Expr) (env:Env) (body:Sem Unit):Sem Unit:=PySem.isTrue c env (eval c env) >>= fun ok=>if ok=true then body else pure ()
noncomputable def nestB (e:Expr) (d:Nat) (iter:Expr) (acc:Value) (env:Env):Sem Unit:=eval iter env >>= fun x=>standAt iter.pos >>= fun _=>foldedSetIterable iter env x >>= fun x=>holding [x] (pyIter x) >>= fun it=>runOwn (.compStart e d it acc env) env >>= fun _=>pure ()
theorem turn_L1 {elt tg iter c tg2 iter2:Expr} {scope:Scope} {pos:Pos} {acc:Value} {env:Env}:TurnIs (.ListComp elt [⟨tg,iter,[c],0⟩] scope pos) 0 tg iter.pos acc env (testB c env (emitL elt acc env)):=fun it=>by
  simp only[compTurn,testB,emitL,emitS,emitD,nestB,List.getElem?_cons_zero,List.getElem?_cons_succ,List.getElem?_nil,List.forIn_cons,List.forIn_nil,bind_assoc,pure_bind,if_true,bne_self_eq_false,Bool.false_eq_true,if_false,Nat.zero_add,Nat.reduceAdd]
  refine bind_congr fun _=>bind_congr fun r=>?_
  cases r with
  | none=>rfl
  | some v =>
    refine bind_congr fun _=>bind_congr fun _=>?_
    first
      | rfl
      | (refine bind_congr fun ok => ?_
         cases ok<;>simp)
      | simp
theorem turn_L2a01 {elt tg iter c c2 tg2 iter2:Expr} {scope:Scope} {pos:Pos} {acc:Value} {env:Env}:TurnIs (.ListComp elt [⟨tg,iter,[],0⟩,⟨tg2,iter2,[c2],0⟩] scope pos) 0 tg iter.pos acc env (nestB (.ListComp elt [⟨tg,iter,[],0⟩,⟨tg2,iter2,[c2],0⟩] scope pos) 1 iter2 acc env):=fun it=>by
  simp only[compTurn,testB,emitL,emitS,emitD,nestB,List.getElem?_cons_zero,List.getElem?_cons_succ,List.getElem?_nil,List.forIn_cons,List.forIn_nil,bind_assoc,pure_bind,if_true,bne_self_eq_false,Bool.false_eq_true,if_false,Nat.zero_add,Nat.reduceAdd]
  refine bind_congr fun _=>bind_congr fun r=>?_
  cases r with
  | none=>rfl
  | some v =>
    refine bind_congr fun _=>bind_congr fun _=>?_
    first
      | rfl
      | (refine bind_congr fun ok => ?_
         cases ok<;>simp)
      | simp
theorem turn_L2b01 {elt tg iter c c2 tg2 iter2:Expr} {scope:Scope} {pos:Pos} {acc:Value} {env:Env}:TurnIs (.ListComp elt [⟨tg,iter,[],0⟩,⟨tg2,iter2,[c2],0⟩] scope pos) 1 tg2 iter2.pos acc env (testB c2 env (emitL elt acc env)):=fun it=>by
  simp only[compTurn,testB,emitL,emitS,emitD,nestB,List.getElem?_cons_zero,List.getElem?_cons_succ,List.getElem?_nil,List.forIn_cons,List.forIn_nil,bind_assoc,pure_bind,if_true,bne_self_eq_false,Bool.false_eq_true,if_false,Nat.zero_add,Nat.reduceAdd]
  refine bind_congr fun _=>bind_congr fun r=>?_
  cases r with
  | none=>rfl
  | some v =>
    refine bind_congr fun _=>bind_congr fun _=>?_
    first
      | rfl
      | (refine bind_congr fun ok => ?_
         cases ok<;>simp)
      | simp
theorem turn_D0 {elt tg iter c tg2 iter2:Expr} {a:Addr} {scope:Scope} {pos:Pos} {env:Env}:TurnIs (.DictComp elt iter2 [⟨tg,iter,[],0⟩] scope pos) 0 tg iter.pos (.ref a) env (emitD elt iter2 a env):=fun it=>by
  simp only[compTurn,testB,emitL,emitS,emitD,nestB,List.getElem?_cons_zero,List.getElem?_cons_succ,List.getElem?_nil,List.forIn_cons,List.forIn_nil,bind_assoc,pure_bind,if_true,bne_self_eq_false,Bool.false_eq_true,if_false,Nat.zero_add,Nat.reduceAdd]
  refine bind_congr fun _=>bind_congr fun r=>?_
  cases r with
  | none=>rfl
  | some v =>
    refine bind_congr fun _=>bind_congr fun _=>?_
    first
      | rfl
      | (refine bind_congr fun ok => ?_
         cases ok<;>simp)
      | simp
noncomputable def kApp (te:TE) (acc:Addr):TK:=fun σ H N=>te σ H fun y H5=>∃ ys,H5 acc=some (.lst ys)∧ys.length < sizeLine∧N (upd H5 acc (.lst (ys++[y])))
noncomputable def kTest (tc:TT) (tk:TK):TK:=fun σ H N=>tc σ H fun b H1=>if b=true then tk σ H1 N else N H1
noncomputable def kNest (wi:TI) (g:TG) (tk:TK):TK:=fun σ H N=>wi σ H fun J H1=>∃ W:Nat→Nat→Hp→Prop,(∃ m,W 0 m H1)∧compW σ J g tk N W
section
variable {Y:Cx}
theorem pk_emitL {elt:Expr} {te:TE} {acc:Addr} (he:PE Y elt te):PTn Y (emitL elt (.ref acc) Y.env) (kApp te acc):=by
 intro pins s σ H N I h
 refine wpAny_bind (thn (he pins s σ H _ I h) fun v s7 ⟨y,H7,I7,r7,ys,ha7,hlen,n⟩=>?_)
 refine wpAny_bind (thn (mt_append (X:=Y) pins s7 σ H7 (.ref acc) [y] (.ref acc) [v] (fun _ H8=>H8=upd H7 acc (.lst (ys++[y]))) I7 rfl (.cons r7 .nil) ⟨acc,ys,y,rfl,rfl,ha7,hlen,rfl⟩) fun _ s8 ⟨_,H8,I8,_,e8⟩=>?_)
 subst e8
 exact wpAny_pure ⟨σ,_,I8,Wk.refl _,n⟩
theorem pk_test {c:Expr} {tc:TT} {body:Sem Unit} {tk:TK} (ht:PT Y c tc) (hb:PTn Y body tk):PTn Y (testB c Y.env body) (kTest tc tk):=by
 intro pins s σ H N I h
 refine wpAny_bind (thn (ht pins s σ H _ I h) fun b s1 ⟨H1,I1,q1⟩=>?_)
 cases b with
 | true =>
  rw[if_pos rfl] at q1 ⊢
  exact hb pins s1 σ H1 N I1 q1
 | false =>
  rw[if_neg Bool.false_ne_true] at q1 ⊢
  exact wpAny_pure ⟨σ,H1,I1,Wk.refl _,q1⟩
theorem pk_nest {e tg2 iter2:Expr} {p2:Pos} {ifs2:List Expr} {acc:Value} {wi:TI} {g2:TG} {tk2:TK} {body2:Sem Unit} (hc:Y.calm=true) (hxe:Y.xe=fun _ _=>False) (hden:DenIs Y.prog Y.w Y.A e 1 acc Y.env) (hcl:(clausesOf e)[1]?=some ⟨tg2,iter2,ifs2,0⟩)
  (hi:PI Y tg2 iter2 wi) (hs:∀ x,foldedSetIterable iter2 Y.env x=pure x) (eq:TurnIs e 1 tg2 p2 acc Y.env body2) (hg:PG Y tg2 g2) (hb:PTn Y body2 tk2) :
  PTn Y (nestB e 1 iter2 acc Y.env) (kNest wi g2 tk2):=by
 intro pins s σ H N I h
 refine wpAny_bind (thn (hi pins s σ H _ I h) fun v s1 h1=>?_)
 refine wpAny_bind (wpAny_standAt (wpAny_bind ?_))
 rw[hs]
 refine wpAny_pure (wpAny_bind (wpAny_holding (thn h1 fun itv s2 h2=>?_)))
 obtain⟨it,fp,tn,J,H2,e0,I2,T,st2,f2,W,⟨m0,w0⟩,hW⟩:=h2
 subst e0
 refine wpAny_bind (wpAny_runOwn ?_)
 have loop:codeAny (model Y.prog Y.w) Y.A (.compLoop e 1 (.ref it) acc Y.env) (fun r s'=>match r with
   | .ok f=>wpAny (model Y.prog Y.w) Y.A (pure ()) (fun _ s'=>∃ σ' H',Inv Y pins σ' H' s'∧Wk σ σ'∧N H') Y.xe s'
   | .error x=>cameBackBy (model Y.prog Y.w) Y.A Y.env Y.xe x s') s2:=by
  refine comp_loop (Y:=Y) (pins:=pins) (Q:=N) hc hxe hden eq hg hb T (fun H' hn b hb=>?_) hW (fun s' H' I' q=>wpAny_pure ⟨σ,H',I',Wk.refl _,q⟩) I2 st2 (fun b hb=>(f2 b hb).1) w0
  obtain⟨f0,f1,f3,f4,f5,f6⟩:=f2 b hb
  exact⟨hn b hb,f1,f3,f4,f5,f6⟩
 exact codeAny_compStart_gen hden hcl rfl loop (T.self _ _ _ _ _ st2 loop)
end
noncomputable def tComp (nt:Nat) (ci:List Nat) (wi:TI) (g:TG) (tk:Addr→TK) (o0:HO):TE:=fun σ H Q=>wi σ H fun J H1=>∀ acc,H1 acc=none→∃ W:Nat→Nat→Hp→Prop,(∃ m,W 0 m (upd H1 acc o0))∧compW (capt nt ci σ) J g (tk acc) (fun H2=>Q (.ref acc) H2) W
section
variable {X:Cx} {scope:Scope} {cl:List (Str×Addr)} {N':List Str} {nt:Nat} {ci:List Nat} {pins:List (Addr×Obj)} {σ:St} {H:Hp} {s:Shared}
theorem blk_startO {o0:HO} (B:BlkOk X scope cl N' nt ci) (I:Inv X pins σ H s) {fp:List Addr} (hf:∀ b∈fp,FpOk X pins H b) (ho:∀ b∈fp,∃ o,s.heap.get? b=some o) {C acc:Addr} {h1:Heap} {tk:Nat}
    (hacc:acc=s.heap.objs.size) (hC:C=s.heap.objs.size+1) (k:∀ b u,s.heap.get? b=some u→h1.get? b=some u) (ns:h1.Ns C fun _=>none) (ha:ObjOk X.prog X.w (upd H acc o0) h1 acc o0) :
    Inv (blk X N' scope cl s H C fp) [] (capt nt ci σ) (upd H acc o0) { s with heap:=h1,toks:=tk }:=by
  have hn:H acc=none:=I.hok.fresh (by rw[hacc];exact Nat.le_refl _)
  have hnC:H C=none:=I.hok.fresh (by rw[hC];exact Nat.le_succ _)
  have cellLt:∀ x c,cl.lookup x=some c→c < s.heap.objs.size:=fun x c e=>by
    obtain⟨v,q⟩:=I.cell x c (B.sub x c e)
    exact q.lt
  refine⟨⟨I.ok.mod,B.kind,I.ok.glob,I.ok.blt,?_,fun x y c e1 e2=>I.ok.inj x y c (B.sub _ _ e1) (B.sub _ _ e2),fun x hx=>B.has x hx,fun x c (z:false=true)=>Bool.noConfusion z,fun hc=>I.ok.hd hc,I.ok.frames,.inl rfl,fun b hb=>?_,I.bs,?_,fun b o e hb=>?_,fun b hb=>?_,I.stack,fun b hb=>I.stkFree b hb⟩,
    rfl,I.bare,Un.laid (a:=acc) (o:=o0) k (by rw[hacc];exact Nat.le_refl _) hn,⟨_,ns,fun i x v e1 e2 e3=>?_⟩,fun x c e=>?_,?_,fun x c e=>?_,fun p hp=>absurd (show p∈([]:List (Addr×Obj)) from hp) (by simp),I.hok.laid k (by rw[hacc];exact Nat.le_refl _) ha,?_⟩
  · show s.heap.objs.size≤C
    rw[hC];exact Nat.le_succ _
  · obtain⟨f0,f1,f2,f3,f4,f5⟩:=hf b hb
    obtain⟨o,e⟩:=ho b hb
    refine⟨?_,fun x c e'=>f4 x c (B.sub x c e')⟩
    show b≠C
    rw[hC]
    exact Nat.ne_of_lt (Nat.lt_succ_of_lt (Heap.lt_size e))
  · exact Nat.le_trans I.ok.bsz I.sz
  · obtain⟨f0,f1,f2,f3,f4,f5⟩:=hf b hb
    rcases f3 with z | z
    · exact I.ok.noex b o e z
    · exact absurd (Nat.lt_of_lt_of_le (Heap.lt_size e) (Nat.le_trans I.ok.bsz z)) (Nat.lt_irrefl _)
  · intro z
    obtain⟨f0,f1,f2,f3,f4,f5⟩:=hf b hb
    rcases List.mem_cons.mp (I.stkSub b z) with y | y
    · exact f1 y
    · exact f2 y
  ·
    obtain⟨m,hm,hl⟩:=I.loc
    unfold capt at e2
    by_cases hi:i < nt
    · rw[List.getElem?_append_left (by simpa using hi),List.getElem?_replicate] at e2
      split at e2<;>cases e2
    · rw[List.getElem?_append_right (by simpa using hi),List.length_replicate,List.getElem?_map] at e2
      cases q:ci[i - nt]? with
      | none=>rw[q] at e2;cases e2
      | some j =>
        rw[q] at e2
        have e2':(σ[j]?).join=some v:=Option.some.inj e2
        obtain⟨y,a1,a2,a3,a4⟩:=B.cap _ j q
        have ei:nt+(i - nt)=i:=by omega
        rw[ei,show N'[i]?=some x from e1] at a1
        cases a1
        have e2'':σ[j]?=some (some v):=by
          cases z:σ[j]? with
          | none=>rw[z] at e2';cases e2'
          | some w=>rw[z] at e2';exact congrArg some e2'
        obtain⟨u,r,l⟩:=hl j x v a2 e2'' (.inr (.inl a3))
        refine⟨u,r,.inr ⟨a4,?_⟩⟩
        rcases l with ⟨kk,_⟩ | ⟨_,c,c1,c2⟩
        · have kk':X.env.scope.names.lookup x=some .local:=kk
          rw[a3] at kk';cases kk'
        · obtain⟨c',ec⟩:=B.has x a4
          have:=B.sub x c' ec
          rw[c1] at this;cases this
          exact⟨c,ec,let ⟨o,e,d⟩:=c2;⟨o,k _ _ e,d⟩⟩
  · obtain⟨v,q⟩:=I.cell x c (B.sub x c e)
    exact⟨v,let ⟨o,e,d⟩:=q;⟨o,k _ _ e,d⟩⟩
  · show upd H acc o0 C=none
    rw[upd_ne (by rw[hacc,hC];exact Nat.succ_ne_self _)];exact hnC
  · have lt:=cellLt x c e
    rw[upd_ne (by rw[hacc];exact Nat.ne_of_lt lt)]
    exact I.freeC x c (B.sub x c e)
  · show (capt nt ci σ).length=N'.length
    unfold capt
    rw[List.length_append,List.length_replicate,List.length_map,B.len]
theorem cg_core {e:Expr} {gs:List Comprehension} {ifs:List Expr} {body:Addr→Env→Sem Unit} {newAcc:Sem Value} {ob:Obj} {o0:HO} {p0:Pos} {tk:Addr→TK} {tg iter:Expr} {pos':Pos} {wi:TI} {g:TG} {use:Option (Value→Sem Unit)} {Q:VK} {Qf:Value→Shared→Prop} (B:BlkOk X scope cl N' nt ci) (hc:X.calm=true) (hi:PI X tg iter wi)
  (hg:∀ s H C ex,PG (blk X N' scope cl s H C ex) tg g) (hcl:clausesOf e=⟨tg,iter,ifs,0⟩ :: gs) (hden:∀ acc env,DenIs X.prog X.w X.A e 0 acc env) (htn:∀ a env,TurnIs e 0 tg p0 (.ref a) env (body a env))
  (hb:∀ s H C ex a,PTn (blk X N' scope cl s H C ex) (body a (blk X N' scope cl s H C ex).env) (tk a)) (hnew:∀ {M:Model} {A:Around} {E:Value→Shared→Prop} {s:Shared} {Q:Value→Shared→Prop},Q (.ref s.heap.objs.size) { s with heap:=s.heap.push ob }→wpAny M A newAcc Q E s)
  (hfree:ob.isFreed=false) (hobj:∀ (H:Hp) (h:Heap) (a:Addr),h.get? a=some ob→sysModules < a→ObjOk X.prog X.w (upd H a o0) h a o0) (hs:∀ x,foldedSetIterable iter X.env x=pure x) (I:Inv X pins σ H s) (h:tComp nt ci wi g tk o0 σ H Q)
  (fin:∀ (acc C:Addr) (s':Shared) (H':Hp),Inv X pins σ H' s'→Q (.ref acc) H'→(∃ m,s'.heap.Ns C m)→FpOk X pins H' C→(∃ o,s'.heap.get? C=some o∧∀ v,o.data≠.cell v)→compPost (model X.prog X.w) X.A X.xe use Qf (.ref acc) C (.ok .next) s') :
  wpAny (model X.prog X.w) X.A (comprehension e scope X.env pos' newAcc false (eval iter X.env) use) Qf X.xe s:=by
 refine wpAny_comprehension_free (use:=use) hcl hs B.clos B.kind B.names (thn (hi pins s σ H _ I h) fun v s1 h1=>thn h1 fun itv s2 h2=>?_)
 obtain⟨it,fp,tn,J,H2,e,I2,T,st2,f2,q2⟩:=h2
 subst e
 have hacc:H2 s2.heap.objs.size=none:=I2.hok.fresh (Nat.le_refl _)
 obtain⟨W,⟨m0,w0⟩,hW⟩:=q2 s2.heap.objs.size hacc
 refine hnew (wpAny_newFunctionEnv B.cell (by intro y hy;simp at hy) (fun h₁ hns₁ hsb₁=>?_) B.kind)
 dsimp only at hns₁ hsb₁ ⊢
 have hCs:(s2.heap.push ob).objs.size=s2.heap.objs.size+1:=Heap.size_push ..
 have k1:∀ b u,s2.heap.get? b=some u→h₁.get? b=some u:=fun b u e=>hsb₁.extBut b u (by rw[hCs];exact Nat.ne_of_lt (Nat.lt_succ_of_lt (Heap.lt_size e))) (Heap.get?_push_of_some _ (Heap.get?_push_of_some _ e))
 have a1:h₁.get? s2.heap.objs.size=some ob:=hsb₁.extBut _ _ (by rw[hCs];exact Nat.ne_of_lt (Nat.lt_succ_self _)) (Heap.get?_push_of_some _ (Heap.get?_push_size _ hfree))
 rw[hCs] at hns₁ ⊢
 have hsys:sysModules < s2.heap.objs.size:=I2.big
 have I3:=blk_startO (o0:=o0) (tk:=s2.toks+([]:List (Str×Value)).length) B I2 f2 (fun b hb=>let ⟨o,e,_⟩:=T.obj _ _ st2 b hb;⟨o,e⟩) rfl rfl k1 (by simpa using hns₁) (hobj _ _ _ a1 hsys)
 have hfpB:∀ (H':Hp),(∀ b∈fp,H' b=none)→∀ b∈fp,FpOk (blk X N' scope cl s2 H2 (s2.heap.objs.size+1) fp) [] H' b:=fun H' hn b hb=>by
  obtain⟨f0,f1,f3,f4,f5,f6⟩:=f2 b hb
  obtain⟨o,e,_⟩:=T.obj _ _ st2 b hb
  refine⟨hn b hb,?_,fun z=>?_,.inl hb,fun x c e'=>f5 x c (B.sub x c e'),fun p hp=>absurd (show p∈([]:List (Addr×Obj)) from hp) (by simp)⟩
  ·exact Nat.ne_of_lt (Nat.lt_succ_of_lt (Heap.lt_size e))
  ·rcases List.mem_cons.mp (I2.stkSub b z) with y | y
   ·exact f1 y
   ·exact f3 y
 have hfr3:∀ b∈fp,upd H2 s2.heap.objs.size o0 b=none:=fun b hb=>by
  obtain⟨o,e,_⟩:=T.obj _ _ st2 b hb
  rw[upd_ne (Nat.ne_of_lt (Heap.lt_size e))];exact (f2 b hb).1
 have st3:tn 0 h₁:=T.keep _ _ _ st2 fun b _ o e=>k1 b o e
 have loop:codeAny (model X.prog X.w) X.A (.compLoop e 0 (.ref it) (.ref s2.heap.objs.size) (compEnvC scope cl (s2.heap.objs.size+1) X.env))
   (compPost (model X.prog X.w) X.A X.xe use Qf (.ref s2.heap.objs.size) (s2.heap.objs.size+1)) { s2 with heap:=h₁,toks:=s2.toks+([]:List (Str×Value)).length }:=by
  refine comp_loop (Y:=blk X N' scope cl s2 H2 (s2.heap.objs.size+1) fp) (Q:=fun H'=>Q (.ref s2.heap.objs.size) H') hc rfl (hden _ _) (htn _ _) (hg _ _ _ _) (hb _ _ _ _ _) T hfpB hW (fun s' H' I' q=>?_) I3 st3 hfr3 w0
  have un:=I'.base
  have ns:=I'.loc
  have fC:H' (s2.heap.objs.size+1)=none:=I'.free
  have I4:Inv X pins σ H' s':=I2.call' I'.os un I'.hok I'.bare fun b hb=>by
   obtain⟨f0,f1,f3,f4,f5,f6⟩:=f2 b hb
   exact⟨f4,f1,f5,f6⟩
  obtain⟨m,hm,_⟩:=ns
  have hm':s'.heap.Ns (s2.heap.objs.size+1) m:=hm
  refine fin _ _ s' H' I4 q ⟨m,hm'⟩ (I2.fpOk (Nat.le_succ _) fC) ?_
  obtain⟨o,es,ep,e,d,_⟩:=hm'
  exact⟨o,e,fun v z=>by rw[d] at z;cases z⟩
 exact codeAny_compStart_gen (hden _ _) (by rw[hcl];rfl) rfl loop (T.self _ _ _ _ _ st3 loop)
theorem lst_obj {P:Program} {w:World} (H:Hp) (h:Heap) (a:Addr) (e:h.get? a=some { cls:=.type "list",dict:=none,data:=.seq ([]:List Value).toArray }) (_:sysModules < a):ObjOk P w (upd H a (.lst [])) h a (.lst []):=⟨Nat.zero_le _,[],0,.nil,e⟩
theorem pe_lcG {elt tg iter:Expr} {ifs:List Expr} {gs:List Comprehension} {pos p0:Pos} {wi:TI} {g:TG} {tk:Addr→TK} {body:Addr→Env→Sem Unit} (B:X.Ok→BlkOk X scope cl N' nt ci) (hc:X.calm=true) (hi:PI X tg iter wi)
  (hg:∀ s H C ex,PG (blk X N' scope cl s H C ex) tg g) (htn:∀ a env,TurnIs (.ListComp elt (⟨tg,iter,ifs,0⟩ :: gs) scope pos) 0 tg p0 (.ref a) env (body a env))
  (hb:∀ s H C ex a,PTn (blk X N' scope cl s H C ex) (body a (blk X N' scope cl s H C ex).env) (tk a)) (hs:∀ x,foldedSetIterable iter X.env x=pure x:=by intro _;rfl) :
  PE X (.ListComp elt (⟨tg,iter,ifs,0⟩ :: gs) scope pos) (tComp nt ci wi g tk (.lst [])):=by
 intro pins s σ H Q I h
 rw[eval_ListComp]
 refine cg_core (B I.ok) hc hi hg rfl (fun _ _=>den_L) htn hb (fun h=>wpAny_newObj_type h) rfl lst_obj hs I h fun acc C s' H' I' q hm hf ho=>?_
 obtain⟨m,hm⟩:=hm
 obtain⟨f0,f1,f2,f3,f4,f5⟩:=hf
 exact⟨m,hm,fun h' sb=>⟨.ref acc,H',I'.turned (t':=s'.toks) (fun b o hb e=>(sb.2 b hb).trans e) f0 f1 f3 f4 f5,rfl,q⟩⟩
end
end L2
namespace Ken
open PySem L2
structure TotOrd (n:Nat) (lt:Nat→Nat→Bool):Prop where
 trans:∀ a b c,a < n→b < n→c < n→lt a b=true→lt b c=true→lt a c=true
 tot:∀ a b,a < n→b < n→a≠b→lt a b=true∨lt b a=true
 asym:∀ a b,a < n→b < n→lt a b=true→lt b a=false
noncomputable abbrev gd (p:Array Nat) (k:Nat):Nat:=p.getD k 0
theorem gd_eq {p:Array Nat} {k x:Nat} (h:p[k]?=some x):gd p k=x:=by simp[gd,Array.getD_eq_getD_getElem?,h]
structure PermOk (n:Nat) (p:Array Nat):Prop where
 size:p.size=n
 low:∀ k,k < n→gd p k < n
 inj:∀ i j,i < n→j < n→gd p i=gd p j→i=j
theorem permOk_of {n:Nat} {p:Array Nat} (h:p.Perm (List.range n).toArray):PermOk n p:=by
 have hs:p.size=n:=by have:=h.size_eq;simpa using this
 have hl:p.toList.Perm (List.range n):=by simpa using (Array.perm_iff_toList_perm.mp h)
 have hn:p.toList.Nodup:=hl.nodup_iff.mpr List.nodup_range
 have g:∀ k (hk:k < n),gd p k=p.toList[k]'(by simp[hs,hk]):=fun k hk=>by
  have:k < p.size:=by omega
  exact gd_eq (by simp[this])
 refine⟨hs,fun k hk=>?_,fun i j hi hj e=>?_⟩
 ·rw[g k hk]
  have:p.toList[k]'(by simp[hs,hk])∈List.range n:=hl.mem_iff.mp (List.getElem_mem _)
  simpa using this
 ·rw[g i hi,g j hj] at e
  exact (List.getElem_inj hn).mp e
section
variable {n:Nat} {lt:Nat→Nat→Bool} {cmp:Nat→Nat→(Bool→Shared→Prop)→Shared→Prop} {S:Shared→Prop}
noncomputable def Asks (n:Nat) (lt:Nat→Nat→Bool) (S:Shared→Prop) (cmp:Nat→Nat→(Bool→Shared→Prop)→Shared→Prop):Prop :=
 ∀ i j (C:Bool→Shared→Prop) s,i < n→j < n→i≠j→S s→(∀ s',S s'→C (lt i j) s')→cmp i j C s
noncomputable def Asc (lt:Nat→Nat→Bool) (p:Array Nat) (m:Nat):Prop:=∀ i j,i < j→j < m→lt (gd p i) (gd p j)=true
noncomputable def Dsc (lt:Nat→Nat→Bool) (p:Array Nat) (m:Nat):Prop:=∀ i j,i < j→j < m→lt (gd p j) (gd p i)=true
theorem asc_succ (O:TotOrd n lt) {p:Array Nat} (P:PermOk n p) {m:Nat} (h:Asc lt p m) (h1:1≤m) (hm:m < n) (hl:lt (gd p (m - 1)) (gd p m)=true):Asc lt p (m+1):=by
 intro i j hij hj
 by_cases e:j=m
 ·subst e
  by_cases e2:i=j - 1
  ·subst e2;exact hl
  ·exact O.trans _ _ _ (P.low _ (by omega)) (P.low _ (by omega)) (P.low _ hm) (h i (j - 1) (by omega) (by omega)) hl
 ·exact h i j hij (by omega)
theorem dsc_succ (O:TotOrd n lt) {p:Array Nat} (P:PermOk n p) {m:Nat} (h:Dsc lt p m) (h1:1≤m) (hm:m < n) (hl:lt (gd p m) (gd p (m - 1))=true):Dsc lt p (m+1):=by
 intro i j hij hj
 by_cases e:j=m
 ·subst e
  by_cases e2:i=j - 1
  ·subst e2;exact hl
  ·exact O.trans _ _ _ (P.low _ hm) (P.low _ (by omega)) (P.low _ (by omega)) hl (h i (j - 1) (by omega) (by omega))
 ·exact h i j hij (by omega)
theorem wp_asc (O:TotOrd n lt) (A:Asks n lt S cmp) {p:Array Nat} (P:PermOk n p) {Q:Nat→Shared→Prop}:∀ (f x:Nat) (s:Shared),1≤x→x+f≤n→Asc lt p x→S s →
  (∀ m s',x≤m→m≤x+f→Asc lt p m→(m=x+f∨(m < n∧lt (gd p m) (gd p (m - 1))=true))→S s'→Q m s')→W.KasT.kasWp cmp (W.kas_asc p f x) Q s
 | 0,x,s,h1,h2,ha,hs,q=>by
  rw[W.kas_asc.eq_1,W.KasT.kasWp.eq_1]
  exact q x s (Nat.le_refl _) (Nat.le_refl _) ha (.inl rfl) hs
 | f+1,x,s,h1,h2,ha,hs,q=>by
  rw[W.kas_asc.eq_2,W.KasT.kasWp.eq_2]
  have hne:gd p x≠gd p (x - 1):=fun z=>by have:=P.inj _ _ (by omega) (by omega) z;omega
  refine A _ _ _ _ (P.low _ (by omega)) (P.low _ (by omega)) hne hs fun s' hs'=>?_
  cases e:lt (gd p x) (gd p (x - 1)) with
  | true =>
   rw[if_pos rfl,W.KasT.kasWp.eq_1]
   exact q x s' (Nat.le_refl _) (by omega) ha (.inr ⟨by omega,e⟩) hs'
  | false =>
   rw[if_neg Bool.false_ne_true]
   have hl:lt (gd p (x - 1)) (gd p x)=true:=by
    rcases O.tot _ _ (P.low (x - 1) (by omega)) (P.low x (by omega)) (Ne.symm hne) with z | z
    ·exact z
    ·rw[e] at z;cases z
   refine wp_asc O A P f (x+1) s' (by omega) (by omega) (asc_succ O P ha h1 (by omega) hl) hs' fun m s2 g1 g2 g3 g4 g5=>q m s2 (by omega) (by omega) g3 ?_ g5
   rcases g4 with g4 | g4
   ·exact .inl (by omega)
   ·exact .inr g4
theorem wp_desc (O:TotOrd n lt) (A:Asks n lt S cmp) {p:Array Nat} (P:PermOk n p) {Q:Array Nat×Nat×Nat→Shared→Prop}:∀ (f x:Nat) (s:Shared),1≤x→x+f≤n→Dsc lt p x→S s →
  (∀ m s',x≤m→m≤x+f→Dsc lt p m→S s'→Q (p,m,0) s')→W.KasT.kasWp cmp (W.kas_desc f p x 0) Q s
 | 0,x,s,h1,h2,ha,hs,q=>by
  rw[W.kas_desc.eq_1,W.KasT.kasWp.eq_1]
  exact q x s (Nat.le_refl _) (Nat.le_refl _) ha hs
 | f+1,x,s,h1,h2,ha,hs,q=>by
  rw[W.kas_desc.eq_2,W.KasT.kasWp.eq_2]
  have hne:gd p x≠gd p (x - 1):=fun z=>by have:=P.inj _ _ (by omega) (by omega) z;omega
  refine A _ _ _ _ (P.low _ (by omega)) (P.low _ (by omega)) hne hs fun s' hs'=>?_
  cases e:lt (gd p x) (gd p (x - 1)) with
  | true =>
   rw[if_pos rfl,if_neg (by omega)]
   exact wp_desc O A P f (x+1) s' (by omega) (by omega) (dsc_succ O P ha h1 (by omega) e) hs' fun m s2 g1 g2 g3 g5=>q m s2 (by omega) (by omega) g3 g5
  | false =>
   rw[if_neg Bool.false_ne_true,W.KasT.kasWp.eq_2]
   have hl:lt (gd p (x - 1)) (gd p x)=true:=by
    rcases O.tot _ _ (P.low (x - 1) (by omega)) (P.low x (by omega)) (Ne.symm hne) with z | z
    ·exact z
    ·rw[e] at z;cases z
   refine A _ _ _ _ (P.low _ (by omega)) (P.low _ (by omega)) (Ne.symm hne) hs' fun s2 hs2=>?_
   rw[hl,if_pos rfl,W.KasT.kasWp.eq_1]
   exact q x s2 (Nat.le_refl _) (by omega) ha hs2
theorem rev_get {p:Array Nat} {m k:Nat} (hm:m≤p.size):gd (W.kas_rev p 0 m) k=if k < m then gd p (m - 1 - k) else gd p k:=by
 have h:=PyProof.Rows.getElem?_mirror_all (xs:=p) (i:=0) (j:=m) hm k
 unfold W.kas_rev
 by_cases hk:k < m
 ·rw[if_pos ⟨Nat.zero_le _,hk⟩] at h
  rw[if_pos hk]
  simp only[gd,Array.getD_eq_getD_getElem?,h]
  congr 2
  omega
 ·rw[if_neg (fun z=>hk z.2)] at h
  rw[if_neg hk]
  simp only[gd,Array.getD_eq_getD_getElem?,h]
theorem rev_asc {p:Array Nat} {m:Nat} (hm:m≤p.size) (h:Dsc lt p m):Asc lt (W.kas_rev p 0 m) m:=by
 intro i j hij hj
 rw[rev_get hm,rev_get hm,if_pos (by omega),if_pos hj]
 exact h _ _ (by omega) (by omega)
theorem wp_count (O:TotOrd n lt) (A:Asks n lt S cmp) {p:Array Nat} (hp:p.Perm (List.range n).toArray) (h2:2≤n) {Q:Nat×Array Nat→Shared→Prop} (s:Shared) (hs:S s)
  (q:∀ m p' s',1≤m→m≤n→p'.Perm (List.range n).toArray→Asc lt p' m→S s'→Q (m,p') s'):W.KasT.kasWp cmp (W.kas_count n p) Q s:=by
 have P:=permOk_of hp
 unfold W.kas_count
 rw[W.KasT.kasWp_bind]
 refine wp_asc O A P (n - 1) 1 s (Nat.le_refl _) (by omega) (fun i j h1 h2=>by omega) hs fun m s' g1 g2 g3 g4 g5=>?_
 by_cases e1:(m == n)=true
 ·rw[if_pos e1,W.KasT.kasWp.eq_1]
  exact q m p s' g1 (by omega) hp g3 g5
 ·rw[if_neg e1]
  have hmn:m < n:=by
   have:m≠n:=fun z=>e1 (by simp[z])
   omega
  by_cases e2:m > 1
  ·rw[if_pos e2,W.KasT.kasWp.eq_2]
   have hl:=g3 0 (m - 1) (by omega) (by omega)
   have hne:gd p 0≠gd p (m - 1):=fun z=>by have:=P.inj _ _ (by omega) (by omega) z;omega
   refine A _ _ _ _ (P.low _ (by omega)) (P.low _ (by omega)) hne g5 fun s2 hs2=>?_
   rw[hl,if_pos rfl,W.KasT.kasWp.eq_1]
   exact q m p s2 g1 (by omega) hp g3 hs2
  ·rw[if_neg e2]
   have em:m=1:=by omega
   subst em
   have hd:lt (gd p 1) (gd p 0)=true:=by
    rcases g4 with g4 | g4
    ·omega
    ·exact g4.2
   unfold W.kas_descPart
   rw[W.KasT.kasWp_bind]
   refine wp_desc O A P (n - (1+1)) 2 s' (by omega) (by omega) (fun i j h1 h2=>?_) g5 fun m2 s2 k1 k2 k3 k5=>?_
   ·have e3:i=0:=by omega
    have e4:j=1:=by omega
    subst e3 e4
    exact hd
   ·have z:¬ ((p,m2,0):Array Nat×Nat×Nat).2.2 > 0:=by show ¬ 0 > 0;omega
    rw[if_neg z]
    show W.KasT.kasWp cmp (W.kas_tail3 m2 n p) Q s2
    rw[W.kas_tail3.eq_1,W.KasT.kasWp_bind]
    have hp2:(W.kas_rev p 0 m2).Perm (List.range n).toArray:=(PyProof.Rows.mirror_perm _ _ _ _).trans hp
    have P2:=permOk_of hp2
    refine wp_asc O A P2 (n - m2) m2 s2 (by omega) (by omega) (rev_asc (by rw[P.size];omega) k3) k5 fun m3 s3 j1 j2 j3 j4 j5=>?_
    rw[W.KasT.kasWp.eq_1]
    exact q m3 _ s3 (by omega) (by omega) hp2 j3 j5
theorem wp_place (O:TotOrd n lt) (A:Asks n lt S cmp) {p:Array Nat} (P:PermOk n p) {k:Nat} (hk:k < n) (ha:Asc lt p k) {Q:Nat→Shared→Prop}:∀ (f l r:Nat) (s:Shared),l≤r→r≤k→r - l≤f→S s →
  (∀ i,i < l→lt (gd p i) (gd p k)=true)→(∀ i,r≤i→i < k→lt (gd p k) (gd p i)=true) →
  (∀ m s',m≤k→(∀ i,i < m→lt (gd p i) (gd p k)=true)→(∀ i,m≤i→i < k→lt (gd p k) (gd p i)=true)→S s'→Q m s')→W.KasT.kasWp cmp (W.kas_place p k f l r) Q s
 | 0,l,r,s,h1,h2,h3,hs,g1,g2,q=>by
  rw[W.kas_place.eq_1,W.KasT.kasWp.eq_1]
  have:l=r:=by omega
  subst this
  exact q l s h2 g1 g2 hs
 | f+1,l,r,s,h1,h2,h3,hs,g1,g2,q=>by
  rw[W.kas_place.eq_2]
  by_cases e:l ≥ r
  ·rw[if_pos e,W.KasT.kasWp.eq_1]
   have:l=r:=by omega
   subst this
   exact q l s h2 g1 g2 hs
  ·rw[if_neg e,W.KasT.kasWp.eq_2]
   have hne:gd p k≠gd p ((l+r) / 2):=fun z=>by have:=P.inj _ _ (by omega) (by omega) z;omega
   refine A _ _ _ _ (P.low _ hk) (P.low _ (by omega)) hne hs fun s' hs'=>?_
   cases ec:lt (gd p k) (gd p ((l+r) / 2)) with
   | true =>
    rw[if_pos rfl]
    refine wp_place O A P hk ha f l ((l+r) / 2) s' (by omega) (by omega) (by omega) hs' g1 (fun i i1 i2=>?_) q
    by_cases ei:i=(l+r) / 2
    ·subst ei;exact ec
    ·exact O.trans _ _ _ (P.low _ hk) (P.low _ (by omega)) (P.low _ (by omega)) ec (ha _ _ (by omega) i2)
   | false =>
    rw[if_neg Bool.false_ne_true]
    have hl:lt (gd p ((l+r) / 2)) (gd p k)=true:=by
     rcases O.tot _ _ (P.low ((l+r) / 2) (by omega)) (P.low k hk) (Ne.symm hne) with z | z
     ·exact z
     ·rw[ec] at z;cases z
    refine wp_place O A P hk ha f ((l+r) / 2+1) r s' (by omega) h2 (by omega) hs' (fun i i1=>?_) g2 q
    by_cases ei:i=(l+r) / 2
    ·subst ei;exact hl
    ·exact O.trans _ _ _ (P.low _ (by omega)) (P.low _ (by omega)) (P.low _ hk) (ha i _ (by omega) (by omega)) hl
theorem bub_get {p:Array Nat} {k m i:Nat} (hk:k < p.size) (hm:m≤k):gd (PyProof.Rows.bubble p k (k - m)) i=if i=m then gd p k else if m < i∧i≤k then gd p (i - 1) else gd p i:=by
 have h:=PyProof.Rows.getElem?_bubble (xs:=p) (src:=k) hk (k - m) (by omega) i
 have e:k - (k - m)=m:=by omega
 rw[e] at h
 simp only[gd,Array.getD_eq_getD_getElem?,h]
 split
 ·rfl
 ·split<;>rfl
theorem bub_asc {p:Array Nat} {k m:Nat} (hk:k < p.size) (hm:m≤k) (ha:Asc lt p k) (g1:∀ i,i < m→lt (gd p i) (gd p k)=true) (g2:∀ i,m≤i→i < k→lt (gd p k) (gd p i)=true):Asc lt (PyProof.Rows.bubble p k (k - m)) (k+1):=by
 intro i j hij hj
 rw[bub_get hk hm,bub_get hk hm]
 by_cases ei:i=m
 ·subst ei
  rw[if_pos rfl,if_neg (by omega),if_pos ⟨hij,by omega⟩]
  exact g2 _ (by omega) (by omega)
 ·rw[if_neg ei]
  by_cases ej:j=m
  ·subst ej
   rw[if_pos rfl,if_neg (by omega)]
   exact g1 _ hij
  ·rw[if_neg ej]
   by_cases c1:m < i∧i≤k
   ·rw[if_pos c1,if_pos ⟨by omega,by omega⟩]
    exact ha _ _ (by omega) (by omega)
   ·rw[if_neg c1]
    by_cases c2:m < j∧j≤k
    ·rw[if_pos c2]
     exact ha _ _ (by omega) (by omega)
    ·rw[if_neg c2]
     exact ha _ _ hij (by omega)
theorem wp_bin (O:TotOrd n lt) (A:Asks n lt S cmp) {Q:Array Nat→Shared→Prop}:∀ (f k:Nat) (p:Array Nat) (s:Shared),k+f=n→1≤k→p.Perm (List.range n).toArray→Asc lt p k→S s →
  (∀ p' s',p'.Perm (List.range n).toArray→Asc lt p' n→S s'→Q p' s')→W.KasT.kasWp cmp (W.kas_bin f p k) Q s
 | 0,k,p,s,h1,h2,hp,ha,hs,q=>by
  rw[W.kas_bin.eq_1,W.KasT.kasWp.eq_1]
  have:k=n:=by omega
  subst this
  exact q p s hp ha hs
 | f+1,k,p,s,h1,h2,hp,ha,hs,q=>by
  rw[W.kas_bin.eq_2,W.KasT.kasWp_bind]
  have P:=permOk_of hp
  refine wp_place O A P (by omega) ha k 0 k s (Nat.zero_le _) (Nat.le_refl _) (by omega) hs (fun i hi=>by omega) (fun i i1 i2=>by omega) fun m s' hm g1 g2 hs'=>?_
  exact wp_bin O A f (k+1) _ s' (by omega) (by omega) ((PyProof.Rows.bubble_perm _ _ _).trans hp) (bub_asc (by rw[P.size];omega) hm ha g1 g2) hs' q
theorem wp_sort (O:TotOrd n lt) (A:Asks n lt S cmp) (h2:2≤n) {Q:Array Nat→Shared→Prop} (s:Shared) (hs:S s)
  (q:∀ p s',p.Perm (List.range n).toArray→Asc lt p n→S s'→Q p s'):W.KasT.kasWp cmp (W.kas_sort n) Q s:=by
 unfold W.kas_sort
 rw[W.KasT.kasWp_bind]
 refine wp_count O A (Array.Perm.refl _) h2 s hs fun m p s' g1 g2 g3 g4 g5=>?_
 by_cases e:m < n
 ·rw[if_pos (show ((m,p):Nat×Array Nat).1 < n from e)]
  show W.KasT.kasWp cmp (W.kas_bin (n - max m 1) p (max m 1)) Q s'
  have em:max m 1=m:=by omega
  rw[em]
  exact wp_bin O A (n - m) m p s' (by omega) g1 g3 g4 g5 q
 ·rw[if_neg (show ¬ ((m,p):Nat×Array Nat).1 < n from e),W.KasT.kasWp.eq_1]
  have:m=n:=by omega
  subst this
  exact q p s' g3 g4 g5
end
end Ken
namespace L2
open PySem PySem.Spec PyProof.Rows
theorem next_key {prog:Program} {w:World} {A:Around} {E:Value→Shared→Prop} {s:Shared} {it d:Addr} {i ep:Nat} {es:Array DictEntry} {od:Obj} {e:DictEntry} {Q:Option Value→Shared→Prop} (hit:s.heap.IsKeyIter it d i es.size ep) (hod:s.heap.get? d=some od) (hdd:od.data=.dict es ep) (he:es[i]?=some e)
  (hQ:∀ h',h'.IsKeyIter it d (i+1) es.size ep→Heap.SameBut it s.heap h'→Q (some e.key) { s with heap:=h' }):wpAny (model prog w) A (pyNext (.ref it)) Q E s:=by
 obtain⟨o,ho,hc,hd⟩:=id hit
 refine wpAny_bind (wpAny_attempt (wpAny_callSpecial?_slot hit.typeIs F.slot_dict_keyiterator_next (wpAny_call_entry F.slot_dict_keyiterator_next hit.typeIs F.entry_dict_keyiterator_next ?_ (F.args_dict_keyiterator_next_1 _))))
 refine wpAny_bind (wpAny_pure (wpAny_bind (wpAny_bind (wpAny_bind (wpAny_typeNameOfWhole_keyiter hit.typeIs (wpAny_pure (wpAny_bind (wpAny_fieldsOf ho hd ?_))))))))
 have hown:Builtin.Dict_items.ownsTuple "dict_keyiterator"=false:=by decide
 simp only[hown,Bool.false_eq_true,if_false,Nat.zero_add]
 dsimp only[List.drop,List.take]
 rw[if_neg (show ¬ ((Value.ref d == Value.none)=true) from Bool.false_ne_true)]
 refine wpAny_bind (wpAny_pure (wpAny_bind (wpAny_dictEntries hod hdd ?_)))
 rw[if_neg (by simp)]
 refine wpAny_bind (wpAny_pure (wpAny_bind (wpAny_dictEpoch hod hdd ?_)))
 rw[if_neg (by simp)]
 refine wpAny_pure ?_
 dsimp only
 rw[if_neg (by omega),Int.toNat_natCast,he]
 dsimp only
 refine wpAny_bind (wpAny_bind (wpAny_typeNameOfWhole_keyiter hit.typeIs (wpAny_pure ?_)))
 refine wpAny_bind (wpAny_isOneOf_keyiter hit.typeIs ?_)
 simp only[hown,Bool.false_eq_true,if_false,Nat.zero_add]
 refine wpAny_bind (wpAny_setField ho hd (by simp) ?_)
 split
 ·rename_i h;exact absurd h (by decide)
 have hit':(s.heap.update it (Obj.mapFields fun x=>x.setIfInBounds 1 (rawInt ((i:Int)+1)))).IsKeyIter it d (i+1) es.size ep:=by
  obtain⟨c0,d0,dat,sl⟩:=o
  dsimp only at hc hd
  subst hc hd
  exact⟨_,Heap.get?_update_self _ ho rfl,rfl,rfl⟩
 refine wpAny_bind (wpAny_holding (wpAny_bind (wpAny_isOneOf_keyiter hit'.typeIs ?_)))
 rw[if_pos (by decide)]
 exact wpAny_pure (wpAny_pure ⟨_,rfl,wpAny_pure (hQ _ hit' (Heap.SameBut.update _ _ _))⟩)
theorem next_key_end {prog:Program} {w:World} {A:Around} {E:Value→Shared→Prop} {s:Shared} {it d:Addr} {i ep:Nat} {es:Array DictEntry} {od:Obj} {Q:Option Value→Shared→Prop} (hh:A.handled=none) (hit:s.heap.IsKeyIter it d i es.size ep) (hod:s.heap.get? d=some od) (hdd:od.data=.dict es ep) (he:es[i]?=none)
  (hQ:∀ h',Heap.ExtBut it s.heap h'→Q none { s with heap:=h' }):wpAny (model prog w) A (pyNext (.ref it)) Q E s:=by
 obtain⟨o,ho,hc,hd⟩:=id hit
 refine wpAny_bind (wpAny_attempt (wpAny_callSpecial?_slot hit.typeIs F.slot_dict_keyiterator_next (wpAny_call_entry F.slot_dict_keyiterator_next hit.typeIs F.entry_dict_keyiterator_next ?_ (F.args_dict_keyiterator_next_1 _))))
 refine wpAny_bind (wpAny_pure (wpAny_bind (wpAny_bind (wpAny_bind (wpAny_typeNameOfWhole_keyiter hit.typeIs (wpAny_pure (wpAny_bind (wpAny_fieldsOf ho hd ?_))))))))
 have hown:Builtin.Dict_items.ownsTuple "dict_keyiterator"=false:=by decide
 simp only[hown,Bool.false_eq_true,if_false,Nat.zero_add]
 dsimp only[List.drop,List.take]
 rw[if_neg (show ¬ ((Value.ref d == Value.none)=true) from Bool.false_ne_true)]
 refine wpAny_bind (wpAny_pure (wpAny_bind (wpAny_dictEntries hod hdd ?_)))
 rw[if_neg (by simp)]
 refine wpAny_bind (wpAny_pure (wpAny_bind (wpAny_dictEpoch hod hdd ?_)))
 rw[if_neg (by simp)]
 refine wpAny_pure ?_
 dsimp only
 rw[if_neg (by omega),Int.toNat_natCast,he]
 dsimp only
 refine wpAny_bind (wpAny_bind (wpAny_typeNameOfWhole_keyiter hit.typeIs (wpAny_pure ?_)))
 simp only[hown,Bool.false_eq_true,if_false,Nat.zero_add]
 refine wpAny_bind (wpAny_setField ho hd (by simp) ?_)
 refine wpAny_bind (wpAny_bind (wpAny_newObj_type ?_))
 refine wpAny_bind (wpAny_of_eq (show firstArgMember (.type "StopIteration") []=pure .none from rfl) ?_)
 refine wpAny_newObj_type ?_
 refine wpAny_bind (wpAny_handled ?_)
 have hh':A.in1.handled=none:=hh
 rw[hh']
 refine wpAny_throw (wpAny_bind (wpAny_isInstance (T:="StopIteration") (U:="StopIteration") (b:=true) ⟨_,Heap.get?_push_size _ rfl,rfl⟩ rfl ?_))
 rw[if_pos rfl]
 refine wpAny_pure (hQ _ ?_)
 exact ((Heap.SameBut.update _ _ _).extBut.push _).push _
theorem iter_dict {prog:Program} {w:World} {A:Around} {E:Value→Shared→Prop} {s:Shared} {d:Addr} {ep:Nat} {es:Array DictEntry} {od:Obj} {Q:Value→Shared→Prop} (hsys:(d == sysModules)=false) (hod:s.heap.get? d=some od) (hx:od.ExactDict) (hdd:od.data=.dict es ep)
  (hQ:Q (.ref s.heap.objs.size) { s with heap:=s.heap.push { cls:=.type "dict_keyiterator",data:=.fields #[.ref d,.int 0 0,.int (es.size:Nat) 0,.int (ep:Nat) 0] } }):wpAny (model prog w) A (pyIter (.ref d)) Q E s:=by
 have hT:s.TypeIs (.ref d) "dict":=⟨od,hod,hx.1⟩
 refine wpAny_pyIter_slot hT F.slot_dict_iter (wpAny_call_entry F.slot_dict_iter hT F.entry_dict_iter ?_ (F.args_dict_iter_1 (.ref d)))
 refine wpAny_bind (wpAny_bind (wpAny_notOrdered_dict hT (wpAny_pure (wpAny_bind (wpAny_pure (wpAny_bind ?_))))))
 have e0:Builtin.Dict.showsAll d=pure ():=by unfold Builtin.Dict.showsAll;rw[hsys];rfl
 rw[e0]
 refine wpAny_pure (wpAny_bind (wpAny_dictEntries hod hdd (wpAny_bind (wpAny_dictEpoch hod hdd (wpAny_bind ?_)))))
 refine wpAny_newObj_type (wpAny_pure ⟨_,rfl,"dict_keyiterator",_,⟨_,Heap.get?_push_size _ rfl,rfl⟩,F.slot_dict_keyiterator_next.lookup,?_⟩)
 exact hQ
noncomputable def EntsAt (d:Addr) (es:Array DictEntry) (ep:Nat) (h:Heap):Prop:=∃ od,h.get? d=some od∧od.ExactDict∧od.data=.dict es ep
theorem EntsAt.at {d:Addr} {es:Array DictEntry} {ep:Nat} {h h':Heap} (x:EntsAt d es ep h) (k:∀ o,h.get? d=some o→h'.get? d=some o):EntsAt d es ep h':=by
 obtain⟨od,h1,h2,h3⟩:=x
 exact⟨od,k _ h1,h2,h3⟩
theorem kdl_ents {prog:Program} {w:World} {d:Addr} {es:Array DictEntry} {ep:Nat} (hsys:(d == sysModules)=false) :
  W.KdlSrc prog w "dict" d d es.size (fun i v=>∃ e,es[i]?=some e∧v=e.key) (EntsAt d es ep) where
 type:=fun s ⟨od,h1,h2,h3⟩=>⟨od,h1,h2.1⟩
 there:=fun h ⟨od,h1,h2,h3⟩=>⟨Heap.lt_size h1,Heap.lt_size h1⟩
 keep:=fun h h' x k=>x.at fun o e=>k d (.inl rfl) o e
 notList:=rfl
 notTuple:=rfl
 hint:=fun A E s Q ⟨od,h1,h2,h3⟩ hq=>W.kdl_hint_dict ⟨od,h1,h2.1⟩ hq
 iter:=fun A s hh x=>by
  obtain⟨od,h1,h2,h3⟩:=id x
  have hne:d≠s.heap.objs.size:=Nat.ne_of_lt (Heap.lt_size h1)
  refine⟨{ cls:=.type "dict_keyiterator",data:=.fields #[.ref d,.int 0 0,.int (es.size:Nat) 0,.int (ep:Nat) 0] },fun i h=>h.IsKeyIter s.heap.objs.size d i es.size ep∧EntsAt d es ep h,fun E Q q=>iter_dict hsys h1 h2 h3 q,?_,⟨_,Heap.get?_push_size _ rfl,rfl,rfl⟩,x.at fun o e=>Heap.get?_push_of_some _ e⟩
  refine⟨fun b hb=>by simp at hb ⊢;exact .inl hb,fun i h h' ⟨a,b⟩ k=>⟨a.at fun o e=>k _ (by simp) o e,b.at fun o e=>k _ (by simp) o e⟩,fun i s2 Q E hi ⟨a,b⟩ q=>?_,fun s2 Q E ⟨a,b⟩ q=>?_,fun i s2 Q E ⟨a,b⟩ q=>wpAny_pyIter_keyiter a q⟩
  ·obtain⟨od2,g1,g2,g3⟩:=id b
   have he:es[i]?=some es[i]:=by simp[hi]
   refine next_key a g1 g3 he fun h' a' sb=>q _ h' s2.toks ⟨es[i],he,rfl⟩ ⟨a',b.at fun o e=>(sb.2 d hne).trans e⟩ fun b' o hb e=>(sb.2 b' (by simpa using hb)).trans e
  ·obtain⟨od2,g1,g2,g3⟩:=id b
   exact next_key_end hh a g1 g3 (by simp) fun h' eb=>q h' s2.toks fun b' o hb e=>eb b' o (by simpa using hb) e
end L2
namespace L2
open PySem PySem.Spec PyProof.Rows
theorem sort_small {prog:Program} {w:World} {A:Around} {E:Value→Shared→Prop} {s:Shared} {a:Addr} {vs:List Value} {n:Nat} {Q:Value→Shared→Prop} (h2:vs.length < 2) (ho:s.heap.get? a=some (seqObj "list" vs.toArray n))
  (h:Q .none { s with heap:=sortedHeap s.heap a vs vs.toArray }):wpAny (model prog w) A (call (.builtin "list.sort") [.ref a]) Q E s:=by
 refine wpAny_call_entry slot_list_sort ⟨_,ho,rfl⟩ entry_list_sort ?_ (args_list_sort (.ref a))
 rw[list_sort_plain]
 have ha:=Heap.lt_size ho
 refine wpAny_bind (listItems_at ho rfl (wpAny_bind (listUpdate_at ho rfl ?_)))
 obtain⟨e1,ho1⟩:∃ e1,(s.heap.update a (Obj.mapSeq fun _=>#[])).get? a=some (seqObj "list" #[] e1):=⟨_,get?_update_seq ho fun _=>#[]⟩
 refine wpAny_bind (seqEpoch_at ho1 rfl (wpAny_bind (wpAny_newTuple (wpAny_bind (wpAny_newList (wpAny_holding ?_))))))
 have ho6:(((s.heap.update a (Obj.mapSeq fun _=>#[])).push (seqObj "tuple" vs.toArray 0)).push (seqObj "list" #[] 0)).get? a=some (seqObj "list" #[] e1):=Heap.get?_push_of_some _ (Heap.get?_push_of_some _ ho1)
 have hz:vs.toArray.size < 2:=by simpa using h2
 simp only[if_pos hz]
 refine wpAny_bind (wpAny_pure ?_)
 rw[StateT.run_pure]
 refine wpAny_bind (wpAny_pure ?_)
 dsimp only
 have em:Array.map (fun x=>x.snd) (arrOf (SortSt.mk' general' (vs.toArray.zip vs.toArray) #[] 7 none))=vs.toArray:=by
  show Array.map (fun x=>x.snd) (vs.toArray.zip vs.toArray)=vs.toArray
  apply Array.ext'
  simp[List.map_snd_zip]
 have ez:(Array.map (fun x=>x.snd) (arrOf (SortSt.mk' general' (vs.toArray.zip vs.toArray) #[] 7 none))).size≤sizeLine+1:=by
  rw[em]
  have:vs.toArray.size=vs.length:=by simp
  rw[this]
  exact Nat.le_trans (Nat.le_of_lt h2) (by decide)
 refine wpAny_bind (seqEpoch_at ho6 rfl (wpAny_bind (listUpdate_at ho6 rfl ?_ (hsz2:=ez))))
 have h':Q .none { s with heap:=sortedHeap s.heap a vs (Array.map (fun x=>x.snd) (arrOf (SortSt.mk' general' (vs.toArray.zip vs.toArray) #[] 7 none))) }:=by rw[em];exact h
 rw[if_neg (by simp)]
 exact wpAny_pure ⟨_,rfl,h'⟩
noncomputable def sLt (x y:Str):Bool:=decide (x.cps.toList < y.cps.toList)
theorem sLt_irr (x:Str):sLt x x=false:=decide_eq_false (List.lt_irrefl _)
theorem sLt_trans {x y z:Str} (h:sLt x y=true) (g:sLt y z=true):sLt x z=true:=decide_eq_true (List.lt_trans (of_decide_eq_true h) (of_decide_eq_true g))
theorem sLt_asym {x y:Str} (h:sLt x y=true):sLt y x=false:=decide_eq_false (List.lt_asymm (of_decide_eq_true h))
theorem sLt_tot {x y:Str} (h:x≠y):sLt x y=true∨sLt y x=true:=by
 rcases Std.lt_trichotomy x.cps.toList y.cps.toList with z | z | z
 ·exact .inl (decide_eq_true z)
 ·exact absurd (str_ext z) h
 ·exact .inr (decide_eq_true z)
noncomputable def lexT:List Str→List Str→Bool
 | [],[]=>false
 | [],_ :: _=>true
 | _ :: _,[]=>false
 | x :: xs,y :: ys=>if x=y then lexT xs ys else sLt x y
theorem lexT_trans:∀ {a b c:List Str},lexT a b=true→lexT b c=true→lexT a c=true
 | [],[],c,h,_=>by cases h
 | [],_ :: _,[],_,g=>by cases g
 | [],_ :: _,_ :: _,_,_=>rfl
 | _ :: _,[],c,h,_=>by cases h
 | _ :: _,_ :: _,[],_,g=>by cases g
 | x :: a,y :: b,z :: c,h,g=>by
  unfold lexT at h g ⊢
  by_cases e1:x=y
  ·subst e1
   rw[if_pos rfl] at h
   by_cases e2:x=z
   ·rw[if_pos e2] at g ⊢
    exact lexT_trans h g
   ·rw[if_neg e2] at g ⊢
    exact g
  ·rw[if_neg e1] at h
   by_cases e2:y=z
   ·subst e2
    rw[if_neg e1];exact h
   ·rw[if_neg e2] at g
    have hz:=sLt_trans h g
    have e3:x≠z:=fun q=>by rw[q,sLt_irr] at hz;cases hz
    rw[if_neg e3];exact hz
theorem lexT_asym:∀ {a b:List Str},lexT a b=true→lexT b a=false
 | [],[],h=>by cases h
 | [],_ :: _,_=>rfl
 | _ :: _,[],h=>by cases h
 | x :: a,y :: b,h=>by
  unfold lexT at h ⊢
  by_cases e1:x=y
  ·rw[if_pos e1] at h
   rw[if_pos e1.symm]
   exact lexT_asym h
  ·rw[if_neg e1] at h
   rw[if_neg fun z=>e1 z.symm]
   exact sLt_asym h
theorem lexT_tot:∀ {a b:List Str},a≠b→lexT a b=true∨lexT b a=true
 | [],[],h=>absurd rfl h
 | [],_ :: _,_=>.inl rfl
 | _ :: _,[],_=>.inr rfl
 | x :: a,y :: b,h=>by
  unfold lexT
  by_cases e1:x=y
  ·rw[if_pos e1,if_pos e1.symm]
   exact lexT_tot fun z=>h (by rw[e1,z])
  ·rw[if_neg e1,if_neg fun z=>e1 z.symm]
   exact sLt_tot e1
noncomputable def lexF (fin:Bool):List Str→List Str→Bool
 | x :: xs,y :: ys=>if x=y then lexF fin xs ys else sLt x y
 | _,_=>fin
theorem lexF_lexT:∀ (a b:List Str),lexF (decide (a.length < b.length)) a b=lexT a b
 | [],[]=>rfl
 | [],_ :: _=>by simp[lexF,lexT]
 | _ :: _,[]=>by simp[lexF,lexT]
 | x :: a,y :: b=>by
  unfold lexF lexT
  rw[← lexF_lexT a b]
  have:decide ((x :: a).length < (y :: b).length)=decide (a.length < b.length):=by simp
  rw[this]
theorem katLex_strs {prog:Program} {w:World} {A:Around} {fin:Bool} {Q:Bool→Shared→Prop} {s:Shared}:∀ {xs ys:List Str} {us vs:List Value} (i:Nat),StrsAre us xs→StrsAre vs ys→Q (lexF fin xs ys) s→W.KatLex prog w A true fin Q (us.zip vs) i s
 | [],ys,_,vs,i,.nil,_,q=>by
  cases ys<;>exact W.kat_nil q
 | _ :: _,[],_,_,i,.cons _ _ _,.nil,q=>W.kat_nil q
 | x :: xs,y :: ys,_,_,i,.cons _ t hx,.cons _ u hy,q=>by
  refine W.kat_cons (wpAny_eqBool_str ?_)
  unfold lexF at q
  refine W.kat_go (fun e=>W.kat_yes (katLex_strs (i+1) hx hy ?_)) (fun e=>W.kat_no ?_)
  ·rw[if_pos (of_decide_eq_true e)] at q;exact q
  ·rw[if_neg (of_decide_eq_false e)] at q
   cases i with
   | zero=>exact oneLt_str q
   | succ i=>exact W.kat_one _ _ (P.lt_str q)
noncomputable def TupS (h:Heap) (v:Value) (k:List Str):Prop:=∃ a o its n,v=.ref a∧h.get? a=some o∧o.cls=.type "tuple"∧o.data=.seq its n∧StrsAre its.toList k
theorem TupS.at {h h':Heap} {v:Value} {k:List Str} (x:TupS h v k) (kp:∀ a o,v=.ref a→h.get? a=some o→h'.get? a=some o):TupS h' v k:=by
 obtain⟨a,o,its,n,e,h1,h2,h3,h4⟩:=x
 exact⟨a,o,its,n,e,kp a o e h1,h2,h3,h4⟩
theorem katTups {h:Heap}:∀ {vs:List Value} {ks:List (List Str)},Paired (TupS h) vs ks→(∀ k∈ks,k≠[])→∃ fs,W.KatTups h vs fs∧fs.length=vs.length∧∀ v∈fs,∃ x t,v=.str x t
 | _,_,.nil,_=>⟨[],W.KatTups.nil,rfl,by simp⟩
 | _,_,.cons (b:=k) hv t,hn=>by
  obtain⟨a,o,its,n,rfl,h1,h2,h3,h4⟩:=hv
  obtain⟨fs,g1,g2,g3⟩:=katTups t fun q hq=>hn q (List.mem_cons_of_mem _ hq)
  have hk:=hn k List.mem_cons_self
  cases hits:its.toList with
  | nil=>rw[hits] at h4;cases h4;exact absurd rfl hk
  | cons f r =>
   rw[hits] at h4
   cases h4 with
   | cons x tk h4 =>
    refine⟨.str x tk :: fs,W.KatTups.cons h1 h2 h3 ?_ g1,by rw[List.length_cons,List.length_cons,g2],?_⟩
    ·have:its[0]?=its.toList[0]?:=by simp
     rw[this,hits];rfl
    ·intro v hv
     rcases List.mem_cons.mp hv with rfl | hv
     ·exact⟨_,_,rfl⟩
     ·exact g3 v hv
theorem lsort_tups {prog:Program} {w:World} {A:Around} {E:Value→Shared→Prop} {s:Shared} {h₀:Heap} {L D:Addr} {m:Str→Option Value} {news:List (Addr×Obj)} {vs:List Value} {ks:List (List Str)} {c0:Nat} {Q:Value→Shared→Prop}
  (F:Fr h₀ L s.heap m) (N:News h₀ L s.heap ((D,W.listOf vs.toArray c0) :: news)) (hD:∀ q∈news,q.1≠D) (hk:Paired (TupS s.heap) vs ks) (hin:∀ v∈vs,∀ a,v=.ref a→∃ o,(a,o)∈news) (hne:∀ k∈ks,k≠[]) (hnd:ks.Nodup) (h2:2≤vs.length) (h64:vs.length < 64)
  (h:∀ (p:Array Nat) (h':Heap) (c:Nat),p.Perm (List.range vs.length).toArray→Ken.Asc (fun i j=>lexT (ks.getD i []) (ks.getD j [])) p vs.length→Fr h₀ L h' m→News h₀ L h' ((D,W.listOf (p.toList.map fun i=>vs.getD i .none).toArray c) :: news)→Q .none { s with heap:=h' }) :
  wpAny (model prog w) A (call (.builtin "list.sort") [.ref D]) Q E s:=by
 have hl:=Paired.length hk
 refine W.kat_lsort F N (W.UpdF.head hD) (by simp) h2 h64 fun e1 h' F' N'=>?_
 have kp:∀ v∈vs,∀ a o,v=.ref a→s.heap.get? a=some o→h'.get? a=some o:=fun v hv a o e g=>by
  obtain⟨o',ho'⟩:=hin v hv a e
  have g1:=(N (a,o') (List.mem_cons_of_mem _ ho')).1
  have g2:=(N' (a,o') (List.mem_cons_of_mem _ ho')).1
  rw[g] at g1
  cases g1
  exact g2
 have hk':Paired (TupS h') vs ks:=by
  have gen:∀ {us:List Value} {js:List (List Str)},Paired (TupS s.heap) us js→(∀ v∈us,v∈vs)→Paired (TupS h') us js:=by
   intro us js hp
   induction hp with
   | nil=>intro _;exact .nil
   | cons a t ih=>intro hs;exact .cons (a.at (kp _ (hs _ List.mem_cons_self))) (ih fun v hv=>hs v (List.mem_cons_of_mem _ hv))
  exact gen hk fun _ z=>z
 obtain⟨fs,g1,g2,g3⟩:=katTups hk' hne
 refine W.kat_kind (T:=.type "str") g1 (by omega) (fun v hv=>?_) (by decide) ?_
 ·obtain⟨x,t,rfl⟩:=g3 v hv
  exact fun A Q E s _ q=>wpAny_pure q
 have getK:∀ i,i < vs.length→∃ v k,vs.getD i .none=v∧ks.getD i []=k∧TupS h' v k:=fun i hi=>by
  obtain⟨k,e,q⟩:=Ken.paired_get hk' (List.getElem?_eq_getElem hi)
  exact⟨vs[i],k,by simp[hi],by simp[e],q⟩
 have O:Ken.TotOrd vs.length (fun i j=>lexT (ks.getD i []) (ks.getD j [])):=by
  refine⟨fun a b c _ _ _=>lexT_trans,fun a b ha hb hab=>lexT_tot fun z=>hab ?_,fun a b _ _=>lexT_asym⟩
  have ha':a < ks.length:=by omega
  have hb':b < ks.length:=by omega
  have e:ks[a]=ks[b]:=by simpa [ha',hb'] using z
  exact (List.getElem_inj hnd).mp e
 refine Ken.wp_sort O (S:=fun s'=>s'={ s with heap:=h' }) (fun i j C s' hi hj hij hs hC=>?_) h2 _ rfl fun p s' hp ha hs=>?_
 ·subst hs
  obtain⟨v1,k1,e1',e2',a1,o1,its1,n1,rfl,q1,q2,q3,q4⟩:=getK i hi
  obtain⟨v2,k2,f1,f2,a2,o2,its2,n2,rfl,r1,r2,r3,r4⟩:=getK j hj
  unfold W.kas_ask
  rw[e1',f1]
  refine W.kat_lt q1 q3 r1 r3 (katLex_strs 0 q4 r4 ?_)
  have l1:its1.size=k1.length:=by rw[← Array.length_toList];exact q4.length
  have l2:its2.size=k2.length:=by rw[← Array.length_toList];exact r4.length
  rw[l1,l2,lexF_lexT]
  have:=hC _ rfl
  dsimp only at this
  rw[e2',f2] at this
  exact this
 ·subst hs
  exact W.KasFin.intro F' N' (W.UpdF.head hD) fun h'' c F'' N''=>h p h'' c hp ha F'' N''
section
variable {X:Cx}
noncomputable def keyS:List Key→List Str
 | []=>[]
 | .inr x :: r=>x :: keyS r
 | .inl _ :: r=>keyS r
noncomputable def allS (k:List Key):Bool:=k.all fun q=>match q with
 | .inr _=>true
 | .inl _=>false
theorem keyS_kV:∀ {k:List Key},allS k=true→k.map kV=(keyS k).map V.str
 | [],_=>rfl
 | .inr x :: r,h=>by
  have h':allS r=true:=by simpa [allS] using h
  show V.str x :: r.map kV=V.str x :: (keyS r).map V.str
  rw[keyS_kV h']
 | .inl _ :: r,h=>by simp[allS] at h
theorem keyS_inj:∀ {a b:List Key},allS a=true→allS b=true→keyS a=keyS b→a=b
 | [],[],_,_,_=>rfl
 | [],.inr _ :: _,_,_,e=>by cases e
 | [],.inl _ :: _,_,h,_=>by simp[allS] at h
 | .inr _ :: _,[],_,_,e=>by cases e
 | .inl _ :: _,_,h,_,_=>by simp[allS] at h
 | .inr _ :: _,.inl _ :: _,_,h,_=>by simp[allS] at h
 | .inr x :: a,.inr y :: b,ha,hb,e=>by
  have ha':allS a=true:=by simpa [allS] using ha
  have hb':allS b=true:=by simpa [allS] using hb
  have e1:x=y:=List.cons.inj e |>.1
  have e2:keyS a=keyS b:=List.cons.inj e |>.2
  rw[e1,keyS_inj ha' hb' e2]
theorem objOk_has {P:Program} {w:World} {H:Hp} {h:Heap} {a:Addr} {o:HO} (x:ObjOk P w H h a o):∃ ob,h.get? a=some ob:=by
 cases o with
 | lst xs=>obtain⟨_,_,_,_,e⟩:=x;exact⟨_,e⟩
 | tup xs=>obtain⟨_,_,_,p,e,_⟩:=x;exact⟨_,e⟩
 | dK kvs=>obtain⟨_,_,_,_,o,_,_,e,_⟩:=x;exact⟨_,e⟩
 | dT kvs=>obtain⟨_,_,_,_,o,_,_,e,_⟩:=x;exact⟨_,e⟩
 | set S n=>obtain⟨o,_,_,_,e,_⟩:=x;exact⟨_,e⟩
 | ins C dx fs=>obtain⟨_,_,_,e,_⟩:=x;exact⟨_,e⟩
 | own y=>obtain⟨_,e⟩:=x;exact⟨_,e⟩
 | xd fs=>obtain⟨_,⟨_,_,_,e,_⟩,_⟩:=x;exact⟨_,e⟩
 | rng lo hi=>obtain⟨_,_,_,e⟩:=x;exact⟨_,e⟩
 | frz ob u=>obtain⟨e,_⟩:=x;exact⟨_,e⟩
 | tbl ps=>exact⟨_,show h.get? a=some _ from x⟩
 | met f y=>exact⟨_,show h.get? a=some _ from x⟩
 | ext φ=>obtain⟨_,⟨_,e⟩,_⟩:=x;exact⟨_,e⟩
theorem perm_map {α:Type} {l:List α} {d:α} {p:Array Nat} (h:p.Perm (List.range l.length).toArray):List.Perm (p.toList.map fun i=>l.getD i d) l:=by
 have h1:p.toList.Perm (List.range l.length):=by simpa using (Array.perm_iff_toList_perm.mp h)
 have h2:=h1.map fun i=>l.getD i d
 have h3:(List.range l.length).map (fun i=>l.getD i d)=l:=by
  apply List.ext_getElem?
  intro j
  rw[List.getElem?_map]
  by_cases hj:j < l.length
  ·rw[List.getElem?_range hj];simp[hj]
  ·rw[List.getElem?_eq_none (by simpa using hj),List.getElem?_eq_none (by omega)];rfl
 rw[h3] at h2
 exact h2
theorem paired_pick {α β:Type} {F:α→β→Prop} {l:List α} {m:List β} {da:α} {db:β} (h:Paired F l m):∀ {is:List Nat},(∀ i∈is,i < l.length)→Paired F (is.map fun i=>l.getD i da) (is.map fun i=>m.getD i db)
 | [],_=>.nil
 | i :: is,hs=>by
  refine .cons ?_ (paired_pick h fun j hj=>hs j (List.mem_cons_of_mem _ hj))
  have hi:=hs i List.mem_cons_self
  obtain⟨y,e,q⟩:=Ken.paired_get h (List.getElem?_eq_getElem hi)
  have e1:l.getD i da=l[i]:=by simp[hi]
  have e2:m.getD i db=y:=by simp[e]
  show F (l.getD i da) (m.getD i db)
  rw[e1,e2];exact q
theorem inv_new {pins:List (Addr×Obj)} {σ:St} {H:Hp} {s:Shared} {h2:Heap} {D:Addr} {o0:HO} {tk:Nat} {m:Str→Option Value} (I:Inv X pins σ H s) (hm:s.heap.Ns X.env.locals m) (hk:∀ b o,b≠X.env.locals→s.heap.get? b=some o→h2.get? b=some o) (hn:h2.Ns X.env.locals m) (hD:s.heap.get? D=none)
  (hob:ObjOk X.prog X.w (upd H D o0) h2 D o0):Inv X pins σ (upd H D o0) { s with heap:=h2,toks:=tk }∧H D=none:=by
 have hH:H D=none:=by
  cases e:H D with
  | none=>rfl
  | some ob =>
   obtain⟨o,ho⟩:∃ o,s.heap.get? D=some o:=objOk_has (I.hok D ob e)
   rw[hD] at ho;cases ho
 have ne:∀ b o,s.heap.get? b=some o→b≠D:=fun b o e z=>by subst z;rw[hD] at e;cases e
 have neH:∀ b u,H b=some u→b≠D:=fun b u e=>ne_of_none e hH
 refine⟨?_,hH⟩
 refine I.step (g':=s.gens) (d':=s.drawn) (t':=tk) (ch:=[]) (fun _ z=>nomatch z) (fun b o hL _ _ e _=>hk b o hL e) (fun b o hL _ _ e _=>⟨o.slots,hk b o hL e⟩) (fun b o _ e n=>by rw[upd_ne (ne b o e)];exact n) (fun b o _ e=>?_)
  (fun b xs q=>by rw[upd_ne (neH _ _ q)];exact q) (fun b o u q=>by rw[upd_ne (neH _ _ q)];exact q) (fun b ps q=>⟨#[],by rw[upd_ne (neH _ _ q),q];simp⟩) (fun m' hm'=>?_) (fun b ob e=>?_) I.bare
 ·by_cases hb:b=X.env.locals
  ·subst hb
   obtain⟨o',es,ep,q,_⟩:=hn
   exact⟨o',q⟩
  ·exact⟨o,hk b o hb e⟩
 ·rw[hm'.eq_nsMap,← hm.eq_nsMap];exact hn
 ·by_cases hb:b=D
  ·subst hb
   rw[upd_same] at e
   cases e
   exact hob
  ·rw[upd_ne hb] at e
   refine (I.hok b ob e).stay (fun c v hcv q=>hk c v ?_ q) (fun c q=>by rw[upd_ne (neH _ _ q)];exact q) fun c xs q=>by rw[upd_ne (neH _ _ q)];exact q
   rcases hcv with rfl | hcv
   ·exact ne_of_none e I.free
   ·exact ne_of_none hcv I.free
theorem call_sortedT (hc:X.calm=true):CallR X (.builtin "sorted") (fun xs H Q=>∃ a kvs,xs=[.ref a]∧H a=some (.dT kvs)∧(∀ kv∈kvs,allS kv.1=true∧kv.1≠[])∧kvs.length < 64 ∧
    ∀ l (us:List V) (ks:List (List Key)),H l=none→List.Perm ks (kvs.map (·.1))→ks.Pairwise (fun a b=>lexT (keyS a) (keyS b)=true)→Paired (fun (u:V) (k:List Key)=>∃ b,u=.ref b∧H b=some (.tup (k.map kV))) us ks→Q (.ref l) (upd H l (.lst us))):=by
  intro pins s σ H xs us Q I r h
  obtain⟨a,kvs,rfl,ha,hks,hn,q⟩:=h
  obtain⟨u,rfl,ru⟩:=vals1 r
  cases ru
  obtain⟨hz,hsys,ys,rel,o,es,ep,ho,hx,hd,hes,hnd⟩:ObjOk X.prog X.w H s.heap a (.dT kvs):=I.hok a _ ha
  obtain⟨m,hm,hloc⟩:=I.loc
  have haL:a≠X.env.locals:=ne_of_none ha I.free
  have hlen:=Paired.length rel
  have hel:es.size=kvs.length:=by rw[← Array.length_toList,hes,List.length_map];omega
  have N0:=Att.news_ledger (L:=X.env.locals) haL ho
  refine W.kdu_sorted (kdl_ents hsys) (I.ok.hd hc) (Att.fr_all hm) N0 ⟨o,ho,hx,hd⟩ (by omega) fun D h' tk vs F' N' hlow hvl hvs=>?_
  have hDL:D≠X.env.locals:=(N' _ List.mem_cons_self).2.1
  have hgD:h'.get? D=some (W.listOf vs.toArray 0):=(N' _ List.mem_cons_self).1
  have inN:∀ b ob,b≠X.env.locals→s.heap.get? b=some ob→(b,ob)∈([]++(a,o) :: Att.ledger s.heap X.env.locals a):=fun b ob hb e=>by
    by_cases hba:b=a
    · subst hba;rw[ho] at e;cases e;exact List.mem_cons_self
    · exact List.mem_cons_of_mem _ (Att.mem_ledger.mpr ⟨hb,hba,e⟩)
  have hsD:s.heap.get? D=none:=by
    cases e:s.heap.get? D with
    | none=>rfl
    | some ob=>exact absurd (hlow _ (inN D ob hDL e)) (Nat.lt_irrefl _)
  have hvy:vs=ys.map fun q=>Value.ref q.2.1:=by
    apply List.ext_getElem?
    intro j
    cases e:vs[j]? with
    | none =>
      have:vs.length≤j:=List.getElem?_eq_none_iff.mp e
      rw[List.getElem?_eq_none (by rw[List.length_map];omega)]
    | some v =>
      obtain⟨en,h1,rfl⟩:=hvs j v e
      have h1':es.toList[j]?=some en:=by simpa using h1
      rw[hes,List.getElem?_map] at h1'
      rw[List.getElem?_map]
      cases e2:ys[j]? with
      | none=>rw[e2] at h1';cases h1'
      | some y=>rw[e2] at h1';cases h1';rfl
  have pv:Paired (fun (v:Value) (k:List Key)=>∃ b,v=.ref b∧H b=some (.tup (k.map kV))) vs (kvs.map (·.1)):=by
    rw[hvy]
    have gen:∀ {ks:List (List Key×V)} {qs:List (List Key×Addr×Value)},Paired (fun (p:List Key×V) (q:List Key×Addr×Value)=>p.1=q.1∧H q.2.1=some (.tup (p.1.map kV))∧RelV p.2 q.2.2) ks qs→Paired (fun (v:Value) (k:List Key)=>∃ b,v=.ref b∧H b=some (.tup (k.map kV))) (qs.map fun q=>Value.ref q.2.1) (ks.map (·.1)):=by
      intro ks qs hp
      induction hp with
      | nil=>exact .nil
      | cons hh t ih=>exact .cons ⟨_,rfl,hh.2.1⟩ ih
    exact gen rel
  have hkl:vs.length=kvs.length:=by omega
  have fin:∀ (h2:Heap) (tk2 c:Nat) (is:List Nat),(∀ b ob,b≠X.env.locals→s.heap.get? b=some ob→h2.get? b=some ob)→h2.Ns X.env.locals m→h2.get? D=some (W.listOf (is.map fun i=>vs.getD i .none).toArray c)→(∀ i∈is,i < vs.length) →
      List.Perm (is.map fun i=>(kvs.map (·.1)).getD i []) (kvs.map (·.1))→(is.map fun i=>(kvs.map (·.1)).getD i []).Pairwise (fun a b=>lexT (keyS a) (keyS b)=true)→EP X pins σ Q (.ref D) { s with heap:=h2,toks:=tk2 }:=by
    intro h2 tk2 c is hk2 hn2 hg2 hlt hp hpw
    have pp:=paired_pick (da:=Value.none) (db:=([]:List Key)) pv hlt
    have mk:∀ {us:List Value} {ks:List (List Key)},Paired (fun (v:Value) (k:List Key)=>∃ b,v=.ref b∧H b=some (.tup (k.map kV))) us ks→∃ ws,Vals ws us∧Paired (fun (u:V) (k:List Key)=>∃ b,u=.ref b∧H b=some (.tup (k.map kV))) ws ks:=by
      intro us ks hp
      induction hp with
      | nil=>exact⟨[],.nil,.nil⟩
      | cons hh t ih =>
        obtain⟨b,rfl,hb⟩:=hh
        obtain⟨ws,g1,g2⟩:=ih
        exact⟨.ref b :: ws,.cons rfl g1,.cons ⟨b,rfl,hb⟩ g2⟩
    obtain⟨ws,g1,g2⟩:=mk pp
    have lw:ws.length≤sizeLine:=by
      have e1:=g1.length
      rw[List.length_map] at e1
      have e2:=hp.length_eq
      rw[List.length_map,List.length_map] at e2
      exact Nat.le_trans (by omega:ws.length≤64) (by decide)
    obtain⟨I2,hHD⟩:=inv_new (o0:=.lst ws) (tk:=tk2) I hm hk2 hn2 hsD ⟨lw,_,c,g1,hg2⟩
    exact⟨.ref D,_,I2,rfl,q D ws _ hHD hp hpw g2⟩
  have kpN:∀ {h2:Heap} {ob:Obj},News (Att.noObjs s.heap) X.env.locals h2 ((D,ob) :: ([]++(a,o) :: Att.ledger s.heap X.env.locals a))→∀ b ob',b≠X.env.locals→s.heap.get? b=some ob'→h2.get? b=some ob':=fun N2 b ob' hb e=>(N2 (b,ob') (List.mem_cons_of_mem _ (inN b ob' hb e))).1
  by_cases h2:vs.length < 2
  · refine sort_small h2 hgD ?_
    obtain⟨e1,he1⟩:=sortedHeap_at (out:=vs.toArray) hgD
    have old:∀ b ob,b≠D→h'.get? b=some ob→(sortedHeap h' D vs vs.toArray).get? b=some ob:=fun b ob hb e=>(sortedHeap_old hb (Heap.lt_size e)).trans e
    have hr:((List.range vs.length).map fun i=>vs.getD i Value.none)=vs:=by
      apply List.ext_getElem?
      intro j
      rw[List.getElem?_map]
      by_cases hj:j < vs.length
      · rw[List.getElem?_range hj];simp[hj]
      · rw[List.getElem?_eq_none (by simpa using hj),List.getElem?_eq_none (by omega)];rfl
    have hr2:((List.range vs.length).map fun i=>(kvs.map (·.1)).getD i [])=kvs.map (·.1):=by
      apply List.ext_getElem?
      intro j
      rw[List.getElem?_map]
      by_cases hj:j < vs.length
      · rw[List.getElem?_range hj]
        have:j < kvs.length:=by omega
        simp[this]
      · rw[List.getElem?_eq_none (by simpa using hj),List.getElem?_eq_none (by rw[List.length_map];omega)];rfl
    refine fin _ tk e1 (List.range vs.length) (fun b ob hb e=>?_) ?_ (by rw[hr];exact he1) (fun i hi=>by simpa using hi) (by rw[hr2]) ?_
    · refine old b ob (fun z=>by subst z;rw[hsD] at e;cases e) (kpN N' b ob hb e)
    · obtain⟨o',es',ep',q1,q2⟩:=F'.ns
      exact⟨o',es',ep',old _ _ (Ne.symm hDL) q1,q2⟩
    · rw[hr2]
      have hk1:(kvs.map (·.1)).length < 2:=by rw[List.length_map];omega
      generalize kvs.map (·.1)=l at hk1 ⊢
      cases l with
      | nil=>exact .nil
      | cons x l =>
        cases l with
        | nil=>exact List.pairwise_singleton _ _
        | cons y l=>exact absurd hk1 (by rw[List.length_cons,List.length_cons];omega)
  · have hkk:∀ k∈kvs.map (·.1),allS k=true∧k≠[]:=fun k hk=>by
      obtain⟨kv,hkv,rfl⟩:=List.mem_map.mp hk
      exact hks kv hkv
    have neS:∀ {k:List Key},allS k=true→k≠[]→keyS k≠[]:=fun {k} h1 h2 z=>by
      cases k with
      | nil=>exact h2 rfl
      | cons q r =>
        cases q with
        | inl i=>simp[allS] at h1
        | inr x=>cases z
    have hnd':(kvs.map (·.1)).Nodup:=by
      have e:kvs.map (·.1)=ys.map (·.1):=by
        have gen:∀ {ks:List (List Key×V)} {qs:List (List Key×Addr×Value)},Paired (fun (p:List Key×V) (q:List Key×Addr×Value)=>p.1=q.1∧H q.2.1=some (.tup (p.1.map kV))∧RelV p.2 q.2.2) ks qs→ks.map (·.1)=qs.map (·.1):=by
          intro ks qs hp
          induction hp with
          | nil=>rfl
          | cons hh t ih=>rw[List.map_cons,List.map_cons,hh.1,ih]
        exact gen rel
      rw[e];exact hnd
    have tS:Paired (TupS h') vs ((kvs.map (·.1)).map keyS):=by
      have gen:∀ {us:List Value} {ks:List (List Key)},Paired (fun (v:Value) (k:List Key)=>∃ b,v=.ref b∧H b=some (.tup (k.map kV))) us ks→(∀ k∈ks,allS k=true)→Paired (TupS h') us (ks.map keyS):=by
        intro us ks hp
        induction hp with
        | nil=>intro _;exact .nil
        | cons hh t ih =>
          intro hs
          obtain⟨b,rfl,hb⟩:=hh
          refine .cons ?_ (ih fun k hk=>hs k (List.mem_cons_of_mem _ hk))
          obtain⟨_,its,rv,ob,g1,g2,n2,g3⟩:=I.hok b _ hb
          rw[keyS_kV (hs _ List.mem_cons_self)] at rv
          exact⟨b,ob,its.toArray,n2,rfl,kpN N' b ob (ne_of_none hb I.free) g1,g2,g3,by simpa using strsAre_of rv⟩
      exact gen pv fun k hk=>(hkk k hk).1
    have ndS:((kvs.map (·.1)).map keyS).Nodup:=by
      have gen:∀ l:List (List Key),(∀ k∈l,allS k=true)→l.Nodup→(l.map keyS).Nodup:=by
        intro l
        induction l with
        | nil=>intro _ _;exact List.nodup_nil
        | cons k l ih =>
          intro h1 h2
          have h3:=List.nodup_cons.mp h2
          rw[List.map_cons,List.nodup_cons]
          refine⟨fun hm=>?_,ih (fun q hq=>h1 q (List.mem_cons_of_mem _ hq)) h3.2⟩
          obtain⟨q,hq,e⟩:=List.mem_map.mp hm
          have:=keyS_inj (h1 q (List.mem_cons_of_mem _ hq)) (h1 k List.mem_cons_self) e
          exact h3.1 (this▸hq)
      exact gen _ (fun k hk=>(hkk k hk).1) hnd'
    refine lsort_tups (ks:=(kvs.map (·.1)).map keyS) F' N' (fun x hx=>Nat.ne_of_lt (hlow x hx)) tS (fun v hv b e=>?_) (fun k hk=>?_) ndS (by omega) (by omega) fun p h2 c hp ha F2 N2=>?_
    · subst e
      obtain⟨j,hj,ej⟩:=List.mem_iff_getElem.mp hv
      obtain⟨k,_,b',eb,hb⟩:=Ken.paired_get pv (List.getElem?_eq_getElem hj)
      rw[ej] at eb
      have eb':b=b':=by injection eb
      subst eb'
      obtain⟨_,its,rv,ob,g1,_⟩:=I.hok b _ hb
      exact⟨ob,inN b ob (ne_of_none hb I.free) g1⟩
    · obtain⟨k',hk',rfl⟩:=List.mem_map.mp hk
      exact neS (hkk k' hk').1 (hkk k' hk').2
    · have P:=Ken.permOk_of hp
      have hpl:p.toList.length=vs.length:=by rw[Array.length_toList];exact P.size
      have pl:∀ i∈p.toList,i < vs.length:=fun i hi=>by
        have h1:p.toList.Perm (List.range vs.length):=by simpa using (Array.perm_iff_toList_perm.mp hp)
        simpa using h1.mem_iff.mp hi
      refine fin h2 tk c p.toList (kpN N2) F2.ns (N2 _ List.mem_cons_self).1 pl ?_ ?_
      · refine perm_map ?_
        rw[List.length_map,← hkl];exact hp
      · rw[List.pairwise_iff_getElem]
        intro i j hi hj hij
        rw[List.length_map] at hi hj
        have:=ha i j hij (by omega)
        have gi : Ken.gd p i = p.toList[i] := Ken.gd_eq (by have : i < p.size := by rw [P.size]; omega
                                                            simp[this])
        have gj : Ken.gd p j = p.toList[j] := Ken.gd_eq (by have : j < p.size := by rw [P.size]; omega
                                                            simp[this])
        rw[gi,gj] at this
        have li:=pl _ (List.getElem_mem hi)
        have lj:=pl _ (List.getElem_mem hj)
        have ki:p.toList[i] < kvs.length:=by omega
        have kj:p.toList[j] < kvs.length:=by omega
        have hgi:(kvs.map (·.1)).getD (p.toList[i]) []=(kvs[p.toList[i]]).1:=by rw[List.getD_eq_getElem?_getD,List.getElem?_map,List.getElem?_eq_getElem ki];rfl
        have hgj:(kvs.map (·.1)).getD (p.toList[j]) []=(kvs[p.toList[j]]).1:=by rw[List.getD_eq_getElem?_getD,List.getElem?_map,List.getElem?_eq_getElem kj];rfl
        have hsi:((kvs.map (·.1)).map keyS).getD (p.toList[i]) []=keyS (kvs[p.toList[i]]).1:=by rw[List.getD_eq_getElem?_getD,List.getElem?_map,List.getElem?_map,List.getElem?_eq_getElem ki];rfl
        have hsj:((kvs.map (·.1)).map keyS).getD (p.toList[j]) []=keyS (kvs[p.toList[j]]).1:=by rw[List.getD_eq_getElem?_getD,List.getElem?_map,List.getElem?_map,List.getElem?_eq_getElem kj];rfl
        replace this:lexT (((kvs.map (·.1)).map keyS).getD (p.toList[i]) []) (((kvs.map (·.1)).map keyS).getD (p.toList[j]) [])=true:=this
        rw[hsi,hsj] at this
        rw[List.getElem_map,List.getElem_map,hgi,hgj]
        exact this
end
end L2
namespace L2
open PySem PySem.Spec PyProof.Rows
section
variable {X:Cx} {pins:List (Addr×Obj)} {σ:St} {H:Hp} {s:Shared} {a:Addr} {y v:V} {u r:Value} {A:Around} {E:Value→Shared→Prop}
theorem d_dictSet {H':Hp} {Q:Unit→Shared→Prop} (hu:A.units < cLine) (I:Inv X pins σ H s) (g:DPut H a y v H') (ry:RelV y u) (rv:RelV v r) (h:∀ s',Inv X pins σ H' s'→Q () s') :
  wpAny (model X.prog X.w) A (dictSet a u r) Q E s:=by
 rcases g with ⟨kvs,k,e,ey,l,eH⟩ | ⟨kvs,k,b,e,ey,eb,l,eH⟩
 ·subst ey eH
  obtain⟨z,hd,vs,rel,dd⟩:=dk_of I.hok e
  have hz:vs.length≤sizeLine:=by rw[← rel.length];exact z
  have hl:(putK kvs k v).length≤sizeLine:=by have:=length_putK kvs k v;omega
  refine wpAny_dictSet_pairs (hsz:=hz) (kV_is ry) dd fun h' dd' hs=>h _ ?_
  have he:∃ q,h'.get? a=some q:=let ⟨q,_,_,hq,_⟩:=dd';⟨q,hq⟩
  exact d_write I (by rw[e];exact True.intro) hs he (dk_new hl hd (rel.put k rv) dd')
 ·subst ey eH
  cases (show u=Value.ref b from ry)
  obtain⟨z,hd,xs,rel,dd⟩:=dt_of I.hok e
  have hz:xs.length≤sizeLine:=by rw[← Paired.length rel];exact z
  have hl:(putK kvs k v).length≤sizeLine:=by have:=length_putK kvs k v;omega
  refine wpAny_dictSet_heap (hsz:=hz) (knd:=tupleKind (mixKind X.prog X.w)) hu (key_of I.hok eb) dd fun h' dd' hs=>h _ ?_
  obtain⟨q,es,ep,hq,h2,h3,h4,_,h5⟩:=dd'
  refine d_write I (by rw[e];exact True.intro) hs ⟨q,hq⟩ ⟨hl,hd,_,(rel.put k eb rv).keeps fun c ys ec=>?_,q,es,ep,hq,h2,h3,h4,h5⟩
  rw[upd_ne (ne_of ec e (fun z=>nomatch z))]
  exact ec
end
noncomputable def kPut (tk tv:TE) (acc:Addr):TK:=fun σ H N=>tk σ H fun y H1=>tv σ H1 fun x H2=>∃ H3,DPut H2 acc y x H3∧N H3
section
variable {Y:Cx}
theorem pk_emitD {k v:Expr} {tk tv:TE} {acc:Addr} (hu:Y.A.units < cLine) (hk:PE Y k tk) (hv:PE Y v tv):PTn Y (emitD k v acc Y.env) (kPut tk tv acc):=by
 intro pins s σ H N I h
 refine wpAny_bind (thn (hk pins s σ H _ I h) fun kv s1 ⟨y,H1,I1,r1,h1⟩=>?_)
 refine wpAny_bind (wpAny_holding (thn (hv pins s1 σ H1 _ I1 h1) fun vv s2 ⟨x,H2,I2,r2,H3,g,n⟩=>?_))
 refine wpAny_bind (wpAny_standAt (wpAny_holding ?_))
 exact d_dictSet hu I2 g r1 r2 fun s' I'=>⟨σ,_,I',Wk.refl _,n⟩
end
section
variable {X:Cx} {scope:Scope} {cl:List (Str×Addr)} {N':List Str} {nt:Nat} {ci:List Nat} {pins:List (Addr×Obj)} {σ:St} {H:Hp} {s:Shared}
theorem dT_obj {P:Program} {w:World} (H:Hp) (h:Heap) (a:Addr) (e:h.get? a=some { cls:=.type "dict",dict:=none,data:=.dict #[] }) (hb:sysModules < a):ObjOk P w (upd H a (.dT [])) h a (.dT []) :=
 ⟨Nat.zero_le _,beq_eq_false_iff_ne.mpr (Ne.symm (Nat.ne_of_lt hb)),[],.nil,_,#[],0,e,⟨rfl,rfl,rfl⟩,rfl,rfl,List.nodup_nil⟩
theorem pe_dc {ek ev tg iter:Expr} {ifs:List Expr} {gs:List Comprehension} {pos p0:Pos} {wi:TI} {g:TG} {tk:Addr→TK} {body:Addr→Env→Sem Unit} (B:X.Ok→BlkOk X scope cl N' nt ci) (hc:X.calm=true) (hi:PI X tg iter wi)
  (hg:∀ s H C ex,PG (blk X N' scope cl s H C ex) tg g) (htn:∀ a env,TurnIs (.DictComp ek ev (⟨tg,iter,ifs,0⟩ :: gs) scope pos) 0 tg p0 (.ref a) env (body a env))
  (hb:∀ s H C ex a,PTn (blk X N' scope cl s H C ex) (body a (blk X N' scope cl s H C ex).env) (tk a)) (hs:∀ x,foldedSetIterable iter X.env x=pure x:=by intro _;rfl) :
  PE X (.DictComp ek ev (⟨tg,iter,ifs,0⟩ :: gs) scope pos) (tComp nt ci wi g tk (.dT [])):=by
 intro pins s σ H Q I h
 rw[arm_eval_DictComp]
 refine cg_core (B I.ok) hc hi hg rfl (fun _ _=>den_D) htn hb (fun h=>wpAny_newObj_type h) rfl dT_obj hs I h fun acc C s' H' I' q hm hf ho=>?_
 obtain⟨m,hm⟩:=hm
 obtain⟨f0,f1,f2,f3,f4,f5⟩:=hf
 exact⟨m,hm,fun h' sb=>⟨.ref acc,H',I'.turned (t':=s'.toks) (fun b o hb e=>(sb.2 b hb).trans e) f0 f1 f3 f4 f5,rfl,q⟩⟩
end
theorem comp_list {K:PySem.W.Frag} {a:Addr} {xs:List V} {σ0:St} {g:TG} {tk:TK} {Q:Hp→Prop} {H:Hp} (Pv:Nat→Hp→Prop) (h0:Pv 0 H) (hl:∀ i H,i≤xs.length→Pv i H→SqL K H a xs)
  (hs:∀ i x H (N:Hp→Prop),xs[i]?=some x→Pv i H→(∀ H',Pv (i+1) H'→N H')→g x σ0 H fun σ4 H4=>Wk σ0 σ4∧tk σ4 H4 N) (hd:∀ H,Pv xs.length H→Q H) :
  ∃ W:Nat→Nat→Hp→Prop,(∃ m,W 0 m H)∧compW σ0 (Itl K a) g tk Q W:=by
 refine⟨fun i m H=>m=xs.length - i∧i≤xs.length∧Pv i H,⟨xs.length,by simp,Nat.zero_le _,h0⟩,?_⟩
 rintro i m H ⟨rfl,hi,p⟩
 have q:=hl i H hi p
 by_cases hlt:i < xs.length
 ·refine .inr ⟨⟨xs,xs[i],q,by simp[hlt]⟩,fun x H' y=>?_⟩
  obtain⟨e,y⟩:=y
  subst e
  exact hs i x H' _ (y xs q) p fun H5 p5=>⟨xs.length - (i+1),by omega,rfl,hlt,p5⟩
 ·have e:i=xs.length:=by omega
  subst e
  exact .inl ⟨⟨xs,q,Nat.le_refl _⟩,hd _ p⟩
theorem comp_tup {K:PySem.W.Frag} {a:Addr} {xs:List V} {σ0:St} {g:TG} {tk:TK} {Q:Hp→Prop} {H:Hp} (Pv:Nat→Hp→Prop) (h0:Pv 0 H) (hl:∀ i H,i≤xs.length→Pv i H→SqT K H a xs)
  (hs:∀ i x H (N:Hp→Prop),xs[i]?=some x→Pv i H→(∀ H',Pv (i+1) H'→N H')→g x σ0 H fun σ4 H4=>Wk σ0 σ4∧tk σ4 H4 N) (hd:∀ H,Pv xs.length H→Q H) :
  ∃ W:Nat→Nat→Hp→Prop,(∃ m,W 0 m H)∧compW σ0 (Itt K a) g tk Q W:=by
 refine⟨fun i m H=>m=xs.length - i∧i≤xs.length∧Pv i H,⟨xs.length,by simp,Nat.zero_le _,h0⟩,?_⟩
 rintro i m H ⟨rfl,hi,p⟩
 have q:=hl i H hi p
 by_cases hlt:i < xs.length
 ·refine .inr ⟨⟨xs,xs[i],q,by simp[hlt]⟩,fun x H' y=>?_⟩
  obtain⟨e,y⟩:=y
  subst e
  exact hs i x H' _ (y xs q) p fun H5 p5=>⟨xs.length - (i+1),by omega,rfl,hlt,p5⟩
 ·have e:i=xs.length:=by omega
  subst e
  exact .inl ⟨⟨xs,q,Nat.le_refl _⟩,hd _ p⟩
section
variable {X:Cx} {K:PySem.W.Frag} {tg l:Expr} {tl:TE}
theorem pi_tupK (e:X.K=K) (hl:PE X l tl):PI X tg l (iTup K tl):=by subst e;exact pi_tup hl
theorem call_isiK (e:X.K=K):CallR X (.builtin "isinstance") (rIsi K):=by subst e;exact call_isi
end
end L2
namespace Ken
open PySem L2
noncomputable def Tm.kids:Tm→List Tm
 | .nd _ a b=>[a,b]
 | _=>[]
noncomputable def Tm.pre:Tm→List Tm
 | .low=>[.low]
 | .ltr w=>[.ltr w]
 | .nd k a b=>.nd k a b :: (a.pre++b.pre)
theorem Tm.pre_len:∀ t:Tm,t.pre.length=t.parts
 | .low=>rfl
 | .ltr _=>rfl
 | .nd _ a b=>by
  show (a.pre++b.pre).length+1=1+a.parts+b.parts
  rw[List.length_append,a.pre_len,b.pre_len];omega
theorem Tm.pre_eq (t:Tm):t.pre=t :: t.kids.flatMap Tm.pre:=by
 cases t with
 | low=>rfl
 | ltr w=>rfl
 | nd k a b=>show _ :: (a.pre++b.pre)=_ :: (a.pre++(b.pre++[]));rw[List.append_nil]
theorem Tm.pre_ok:∀ {t:Tm},t.ok→∀ s∈t.pre,s.ok
 | .low,_,s,h=>by rcases List.mem_singleton.mp h with rfl;trivial
 | .ltr w,h0,s,h=>by rcases List.mem_singleton.mp h with rfl;exact h0
 | .nd k a b,h0,s,h=>by
  rcases List.mem_cons.mp h with rfl | h
  ·exact h0
  ·rcases List.mem_append.mp h with h | h
   ·exact Tm.pre_ok h0.1 s h
   ·exact Tm.pre_ok h0.2 s h
noncomputable def Tm.own:Tm→List Str
 | .low=>["low"]
 | .ltr w=>["letter",w]
 | .nd k _ _=>[k.str]
noncomputable def Tm.spell (t:Tm):List Str:=t.pre.flatMap Tm.own
theorem spell_nd (k:Kd) (a b:Tm):(Tm.nd k a b).spell=k.str :: (a.spell++b.spell):=by
 show (Tm.nd k a b :: (a.pre++b.pre)).flatMap Tm.own=_
 rw[List.flatMap_cons,List.flatMap_append];rfl
theorem spell_pre:∀ {s t:Tm} {l m:List Str},s.spell++l=t.spell++m→s=t∧l=m
 | .low,.low,l,m,h=>⟨rfl,by have:=List.cons.inj (show ("low":Str) :: l=("low":Str) :: m from h);exact this.2⟩
 | .low,.ltr w,l,m,h=>absurd (List.cons.inj (show ("low":Str) :: l=("letter":Str) :: (w :: m) from h)).1 (by decide)
 | .low,.nd k a b,l,m,h=>by
  rw[spell_nd] at h
  exact absurd (List.cons.inj (show ("low":Str) :: l=k.str :: ((a.spell++b.spell)++m) from h)).1 (by cases k<;>decide)
 | .ltr w,.low,l,m,h=>absurd (List.cons.inj (show ("letter":Str) :: (w :: l)=("low":Str) :: m from h)).1 (by decide)
 | .ltr w,.ltr v,l,m,h=>by
  have h1:=(List.cons.inj (show ("letter":Str) :: (w :: l)=("letter":Str) :: (v :: m) from h)).2
  obtain⟨e1,e2⟩:=List.cons.inj h1
  exact⟨by rw[e1],e2⟩
 | .ltr w,.nd k a b,l,m,h=>by
  rw[spell_nd] at h
  exact absurd (List.cons.inj (show ("letter":Str) :: (w :: l)=k.str :: ((a.spell++b.spell)++m) from h)).1 (by cases k<;>decide)
 | .nd k a b,.low,l,m,h=>by
  rw[spell_nd] at h
  exact absurd (List.cons.inj (show k.str :: ((a.spell++b.spell)++l)=("low":Str) :: m from h)).1 (by cases k<;>decide)
 | .nd k a b,.ltr w,l,m,h=>by
  rw[spell_nd] at h
  exact absurd (List.cons.inj (show k.str :: ((a.spell++b.spell)++l)=("letter":Str) :: (w :: m) from h)).1 (by cases k<;>decide)
 | .nd k a b,.nd k' c d,l,m,h=>by
  rw[spell_nd,spell_nd] at h
  obtain⟨e1,e2⟩:=List.cons.inj (show k.str :: ((a.spell++b.spell)++l)=k'.str :: ((c.spell++d.spell)++m) from h)
  rw[List.append_assoc,List.append_assoc] at e2
  obtain⟨f1,f2⟩:=spell_pre e2
  obtain⟨g1,g2⟩:=spell_pre f2
  exact⟨by rw[Kd.str_inj e1,f1,g1],g2⟩
theorem spell_inj {s t:Tm} (h:s.spell=t.spell):s=t:=(spell_pre (l:=[]) (m:=[]) (by rw[h])).1
theorem spell_ne (t:Tm):t.spell≠[]:=by
 cases t with
 | low=>exact fun z=>nomatch z
 | ltr w=>exact fun z=>nomatch z
 | nd k a b=>rw[spell_nd];exact fun z=>nomatch z
theorem spell_len:∀ t:Tm,t.spell.length≤2*t.parts
 | .low=>by decide
 | .ltr _=>by show 2≤2*1;decide
 | .nd k a b=>by
  rw[spell_nd,List.length_cons,List.length_append]
  have:=spell_len a
  have:=spell_len b
  show _≤2*(1+a.parts+b.parts)
  omega
theorem paired_keepT {K:PySem.W.Frag} {H H':Hp} (k:KeepT K H H') {us:List V} {ts:List Tm} (h:Paired (IsT K H) us ts):Paired (IsT K H') us ts:=Paired.mapP h fun _ _ z=>z.keep k
noncomputable def sp_within (K:PySem.W.Frag):Sp:=fun vs H Q _=>∃ (v:V) (t:Tm),vs=[v]∧IsT K H v t ∧
 ∀ (r:Addr) (H':Hp) (us:List V),Same H H'→H r=none→H' r=some (.lst us)→Paired (IsT K H') us t.kids→Q (.ref r) H'
noncomputable def sp_pieces (K:PySem.W.Frag):Sp:=fun vs H Q _=>∃ (v:V) (t:Tm),vs=[v]∧IsT K H v t∧t.parts≤400 ∧
 ∀ (r:Addr) (H':Hp) (us:List V),Same H H'→H r=none→H' r=some (.lst us)→Paired (IsT K H') us t.pre→Q (.ref r) H'
noncomputable def sp_spelled (K:PySem.W.Frag):Sp:=fun vs H Q _=>∃ (v:V) (t:Tm),vs=[v]∧IsT K H v t∧t.parts≤400 ∧
 ∀ (r:Addr) (H':Hp),Same H H'→H r=none→H' r=some (.tup (t.spell.map V.str))→Q (.ref r) H'
noncomputable def strsOf:List V→List Str
 | []=>[]
 | .str x :: r=>x :: strsOf r
 | _ :: r=>strsOf r
theorem strsOf_app:∀ a b:List V,strsOf (a++b)=strsOf a++strsOf b
 | [],_=>rfl
 | v :: r,b=>by
  cases v<;>simp[strsOf,strsOf_app r b]
theorem isT_items {K:PySem.W.Frag} {H:Hp} {v:V} {t:Tm} (h:IsT K H v t):∃ a vs,v=.ref a∧SqT K H a vs∧strsOf vs=t.own∧vs.length≤3∧∀ y∈vs,(∃ x,y=.str x)∨∃ b xs,y=.ref b∧SqT K H b xs:=by
 cases t with
 | low =>
  obtain⟨a,rfl,hs⟩:=isT_low.mp h
  exact⟨a,_,rfl,hs,rfl,by decide,fun y hy=>by rcases List.mem_singleton.mp hy with rfl;exact .inl ⟨_,rfl⟩⟩
 | ltr w =>
  obtain⟨a,rfl,hs⟩:=isT_ltr.mp h
  refine⟨a,_,rfl,hs,rfl,by simp,fun y hy=>?_⟩
  rcases List.mem_cons.mp hy with rfl | hy
  ·exact .inl ⟨_,rfl⟩
  ·rcases List.mem_singleton.mp hy with rfl;exact .inl ⟨_,rfl⟩
 | nd k x y =>
  obtain⟨a,vx,vy,rfl,hs,hx,hy⟩:=isT_nd.mp h
  obtain⟨b,xs,rfl,hb⟩:=isT_tup hx
  obtain⟨c,ys,rfl,hc⟩:=isT_tup hy
  refine⟨a,_,rfl,hs,rfl,by simp,fun y hy=>?_⟩
  rcases List.mem_cons.mp hy with rfl | hy
  ·exact .inl ⟨_,rfl⟩
  ·rcases List.mem_cons.mp hy with rfl | hy
   ·exact .inr ⟨_,_,rfl,hb⟩
   ·rcases List.mem_singleton.mp hy with rfl;exact .inr ⟨_,_,rfl,hc⟩
end Ken
namespace Ken
open PySem L2
noncomputable def Tm.key (t:Tm):List Key:=t.spell.map Sum.inr
theorem keyS_inr:∀ l:List Str,keyS (l.map Sum.inr)=l
 | []=>rfl
 | x :: r=>by show x :: keyS (r.map Sum.inr)=x :: r;rw[keyS_inr r]
theorem Tm.keyS (t:Tm):L2.keyS t.key=t.spell:=keyS_inr _
theorem Tm.key_all (t:Tm):allS t.key=true:=by
 unfold allS Tm.key
 rw[List.all_eq_true]
 intro q hq
 obtain⟨x,_,rfl⟩:=List.mem_map.mp hq
 rfl
theorem Tm.key_ne (t:Tm):t.key≠[]:=fun z=>spell_ne t (by rw[← t.keyS,z];rfl)
theorem Tm.key_kV (t:Tm):t.key.map kV=t.spell.map V.str:=by rw[keyS_kV t.key_all,t.keyS]
theorem key_inj {s t:Tm} (h:s.key=t.key):s=t:=spell_inj (by rw[← s.keyS,← t.keyS,h])
noncomputable def DS (K:PySem.W.Frag) (H:Hp) (kvs:List (List Key×V)) (ss:List Tm):Prop:=Paired (fun (kv:List Key×V) (s:Tm)=>kv.1=s.key∧IsT K H kv.2 s) kvs ss
section
variable {K:PySem.W.Frag} {H:Hp}
theorem DS.keys {kvs:List (List Key×V)} {ss:List Tm} (h:DS K H kvs ss):kvs.map (·.1)=ss.map Tm.key:=by
 unfold DS at h
 induction h with
 | nil=>rfl
 | cons x t ih=>rw[List.map_cons,List.map_cons,x.1,ih]
theorem DS.val {kvs:List (List Key×V)} {ss:List Tm} (h:DS K H kvs ss) {s:Tm} (hs:s∈ss):∃ v,valV kvs s.key=some v∧IsT K H v s:=by
 unfold DS at h
 induction h with
 | nil=>cases hs
 | @cons p q ps qs x t ih =>
  by_cases e:p.1=s.key
  ·refine⟨p.2,valV_pos e,?_⟩
   have:q=s:=key_inj (by rw[← x.1,e])
   rw[← this];exact x.2
  ·rw[valV_neg e]
   refine ih ?_
   rcases List.mem_cons.mp hs with z | z
   ·exact absurd (by rw[x.1,z]) e
   ·exact z
theorem DS.none {kvs:List (List Key×V)} {ss:List Tm} (h:DS K H kvs ss) {s:Tm} (hs:s ∉ ss):valV kvs s.key=none:=by
 unfold DS at h
 induction h with
 | nil=>rfl
 | @cons p q ps qs x t ih =>
  have e:¬ p.1=s.key:=fun e=>hs (by rw[show s=q from (key_inj (by rw[← x.1,e])).symm];exact List.mem_cons_self)
  rw[valV_neg e]
  exact ih fun z=>hs (List.mem_cons_of_mem _ z)
theorem DS.put_old {kvs:List (List Key×V)} {ss:List Tm} (h:DS K H kvs ss) {s:Tm} (hs:s∈ss) {v:V} (hv:IsT K H v s):DS K H (putK kvs s.key v) ss:=by
 obtain⟨u,hu,_⟩:=h.val hs
 unfold putK
 rw[if_pos (by rw[valV_any,hu];rfl)]
 unfold DS at h ⊢
 clear hu hs
 induction h with
 | nil=>exact .nil
 | @cons p q ps qs x t ih =>
  rw[List.map_cons]
  refine .cons ?_ ih
  by_cases e:p.1=s.key
  ·rw[if_pos e]
   exact⟨x.1,by rw[show q=s from key_inj (by rw[← x.1,e])];exact hv⟩
  ·rw[if_neg e];exact x
theorem DS.put_new {kvs:List (List Key×V)} {ss:List Tm} (h:DS K H kvs ss) {s:Tm} (hs:s ∉ ss) {v:V} (hv:IsT K H v s):DS K H (putK kvs s.key v) (ss++[s]):=by
 rw[putK_new v (h.none hs)]
 exact paired_app h (.cons ⟨rfl,hv⟩ .nil)
end
theorem keys_of {ss:List Tm}:∀ {ks:List (List Key)},(∀ k∈ks,k∈ss.map Tm.key)→∃ os:List Tm,ks=os.map Tm.key∧∀ s∈os,s∈ss
 | [],_=>⟨[],rfl,fun _ z=>nomatch z⟩
 | k :: ks,h=>by
  obtain⟨s,hs,rfl⟩:=List.mem_map.mp (h k List.mem_cons_self)
  obtain⟨os,rfl,ho⟩:=keys_of fun q hq=>h q (List.mem_cons_of_mem _ hq)
  refine⟨s :: os,rfl,fun t ht=>?_⟩
  rcases List.mem_cons.mp ht with rfl | ht
  ·exact hs
  ·exact ho t ht
theorem perm_keys {ks:List (List Key)} {ss:List Tm} (h:List.Perm ks (ss.map Tm.key)) (hn:ss.Nodup):∃ os:List Tm,ks=os.map Tm.key∧os.Nodup∧∀ s,s∈os↔s∈ss:=by
 obtain⟨os,rfl,ho⟩:=keys_of fun k hk=>h.mem_iff.mp hk
 have nk:(ss.map Tm.key).Nodup:=by
  clear h ho
  induction ss with
  | nil=>exact List.nodup_nil
  | cons s ss ih =>
   have h3:=List.nodup_cons.mp hn
   rw[List.map_cons,List.nodup_cons]
   refine⟨fun hm=>?_,ih h3.2⟩
   obtain⟨q,hq,e⟩:=List.mem_map.mp hm
   exact h3.1 (key_inj e▸hq)
 have no:(os.map Tm.key).Nodup:=h.nodup_iff.mpr nk
 refine⟨os,rfl,?_,fun s=>⟨ho s,fun hs=>?_⟩⟩
 ·clear ho h
  induction os with
  | nil=>exact List.nodup_nil
  | cons s os ih =>
   rw[List.map_cons,List.nodup_cons] at no
   rw[List.nodup_cons]
   exact⟨fun z=>no.1 (List.mem_map_of_mem z),ih no.2⟩
 ·obtain⟨o,ho',e⟩:=List.mem_map.mp (h.mem_iff.mpr (List.mem_map_of_mem hs))
  exact key_inj e▸ho'
noncomputable def sortedT (os:List Tm):Prop:=os.Pairwise fun a b=>lexT a.spell b.spell=true
noncomputable def sp_once (K:PySem.W.Frag):Sp:=fun vs H Q _=>∃ (a:Addr) (xs:List V) (ts:List Tm),vs=[.ref a]∧SqL K H a xs∧Paired (IsT K H) xs ts∧ts.length < 64∧(∀ t∈ts,t.parts≤400) ∧
 ∀ (r:Addr) (H':Hp) (us:List V) (os:List Tm),Same H H'→H r=none→H' r=some (.lst us)→Paired (IsT K H') us os→os.Nodup→(∀ t,t∈os↔t∈ts)→sortedT os→Q (.ref r) H'
end Ken
namespace L2
open PySem PySem.Spec PyProof.Rows
noncomputable def Itv (K:PySem.W.Frag) (a:Addr) (n:Nat):It :=
 ⟨fun i H=>i < n∧∃ xs x,SqL K H a xs∧xs[n - 1 - i]?=some x,fun i H x H'=>H'=H∧∀ xs,SqL K H a xs→xs[n - 1 - i]?=some x,fun i _=>i=n⟩
theorem turn_rev {P:Program} {w:World} {K:PySem.W.Frag} {tg:Expr} (a it:Addr) (n:Nat):Turn P w K tg (Itv K a n) [it] it (fun i h=>h.IsRevIter it a ((n:Int) - 1 - (i:Int))) where
  mem:=by simp
  obj:=fun i h st b hb=>by
    have e:b=it:=by simpa using hb
    subst e
    obtain⟨o,e,c,d⟩:=st
    exact⟨o,e,fun v z=>by rw[d] at z;cases z⟩
  keep:=fun i h h' st k=>st.at fun o e=>k it (by simp) o e
  item:=by
    intro X hP hw hK hc i pins s σ H E I hf st hg
    subst hP hw hK
    obtain⟨hi,xs,x,hq,hx⟩:=hg
    obtain⟨its,rv,p,hz⟩:=I.list hq
    obtain⟨u,hu,ru⟩:=rv.get hx
    obtain⟨f0,f1,f2,f3,f4,f5⟩:=hf it (by simp)
    have en:(n:Int) - 1 - (i:Int)=((n - 1 - i:Nat):Int):=by omega
    rw[en] at st
    refine wpAny_pyNext_rev_item st p.isList (x:=u) (by simpa using hu) fun h' st' sb=>?_
    have I1:Inv X pins σ H { s with heap:=h' }:=I.turned (t':=s.toks) (fun b o hb e=>(sb.2 b hb).trans e) f0 f1 f3 f4 f5
    have en2:((n - 1 - i:Nat):Int) - 1=(n:Int) - 1 - ((i+1:Nat):Int):=by omega
    rw[en2] at st'
    obtain⟨o,e,c,d⟩:=id st'
    exact⟨u,rfl,go_of (s:={ s with heap:=h' }) e c d (by decide) ⟨x,H,I1,ru,⟨rfl,fun ys hy=>by rw[I.list_inj hy hq];exact hx⟩,st',fun b hb=>(hf b hb).1⟩⟩
  done:=by
    intro X hP hw hK hc i pins s σ H E I hf st hg
    subst hP hw hK
    have hg':i=n:=hg
    subst hg'
    obtain⟨f0,f1,f2,f3,f4,f5⟩:=hf it (by simp)
    have en:(i:Int) - 1 - (i:Int)=-1:=by omega
    rw[en] at st
    exact wpAny_pyNext_rev_end (I.ok.hd hc) st fun h' eb=>⟨rfl,I.turned (t':=s.toks) (fun b o hb e=>eb b o hb e) f0 f1 f3 f4 f5⟩
  self:=fun _ _ _ _ _ st h=>wpAny_pyIter_revIter st h
noncomputable def iRev (K:PySem.W.Frag) (ta:TA):TI:=fun σ H R=>ta σ H fun vs H1=>∃ a xs,vs=[.ref a]∧SqL K H1 a xs∧R (Itv K a xs.length) H1
section
variable {X:Cx}
theorem pi_rev {tg e:Expr} {ta:TA} {p pos:Pos} (hg:Gl X "reversed") (hm:X.mg "reversed"=none) (ha:PA X [e] ta) (hs:starEach [e] X.env=[(false,eval e X.env)]:=by rfl) :
  PI X tg (.Call (.Name "reversed" p) [e] [] pos) (iRev X.K ta):=by
 intro pins s σ H R I h
 refine Call_ (ld_blt I hg hm (by first | exact PySem.boot_reversed | rfl) (PyProof.Rows.callWith_type1 (thn (ha pos pins s σ H _ I h) fun us s1 ⟨vs,H1,I1,r1,q1⟩=>?_) (by rw[hs];rfl) rfl))
 obtain⟨l,xs,e,q1,q⟩:=q1
 subst e
 obtain⟨u1,rfl,ru1⟩:=r1.one
 cases ru1
 obtain⟨its1,rv1,p1,_⟩:=I1.list q1
 have hlen:=rv1.length
 refine call_reversed_list p1.isList ?_
 have hit:Heap.IsRevIter (s1.heap.push (revObj l ((its1.toArray.size:Int) - 1))) s1.heap.objs.size l ((its1.toArray.size:Int) - 1):=⟨_,Heap.get?_push_size _ rfl,rfl,rfl⟩
 refine wpAny_pyIter_revIter hit ?_
 have I2:Inv X pins σ H1 { s1 with heap:=s1.heap.push (revObj l ((its1.toArray.size:Int) - 1)) }:=I1.kept (t':=s1.toks) fun b o e=>Heap.get?_push_of_some _ e
 have en:((its1.toArray.size:Nat):Int) - 1=(xs.length:Int) - 1 - ((0:Nat):Int):=by rw[List.size_toArray];omega
 rw[en] at hit
 rw[en] at I2
 rw[en]
 refine⟨_,_,_,_,H1,rfl,I2,turn_rev l _ xs.length,hit,fun b hb=>?_,q⟩
 have e:b=s1.heap.objs.size:=by simpa using hb
 subst e
 exact I1.fpOk (Nat.le_refl _) (I1.hok.fresh (Nat.le_refl _))
end
theorem for_rev {K:PySem.W.Frag} {a:Addr} {xs:List V} {g:TG} {tb:TS} {D:Ends} {σ:St} {H:Hp} (Pv:Nat→St→Hp→Prop) (h0:Pv 0 σ H) (hl:∀ i σ H,i≤xs.length→Pv i σ H→SqL K H a xs)
  (hs:∀ i x σ H,i < xs.length→xs[xs.length - 1 - i]?=some x→Pv i σ H→g x σ H fun σ2 H2=>tb { D with nx:=Pv (i+1),ct:=Pv (i+1),bk:=D.nx } σ2 H2) (hd:∀ σ H,Pv xs.length σ H→D.nx σ H) :
  ∃ W:Nat→Nat→St→Hp→Prop,(∃ m,W 0 m σ H)∧∀ i m σ H,W i m σ H →
   ((Itv K a xs.length).stop i H∧D.nx σ H)∨((Itv K a xs.length).go i H∧∃ N:St→Hp→Prop,(∀ σ' H',N σ' H'→∃ m',m' < m∧W (i+1) m' σ' H')∧∀ x H',(Itv K a xs.length).yld i H x H'→g x σ H' fun σ2 H2=>tb { D with nx:=N,ct:=N,bk:=D.nx } σ2 H2):=by
 refine⟨fun i m σ H=>m=xs.length - i∧i≤xs.length∧Pv i σ H,⟨xs.length,by simp,Nat.zero_le _,h0⟩,?_⟩
 rintro i m σ H ⟨rfl,hi,p⟩
 have q:=hl i σ H hi p
 by_cases hlt:i < xs.length
 ·refine .inr ⟨⟨hlt,xs,xs[xs.length - 1 - i],q,List.getElem?_eq_getElem (by omega)⟩,Pv (i+1),fun σ' H' p'=>⟨xs.length - (i+1),by omega,rfl,hlt,p'⟩,fun x H' y=>?_⟩
  obtain⟨e,y⟩:=y
  subst e
  exact hs i x σ _ hlt (y xs q) p
 ·have e:i=xs.length:=by omega
  subst e
  exact .inl ⟨rfl,hd _ _ p⟩
noncomputable def tCallL (i:Nat) (f:Addr) (t:TE):TE:=fun σ H Q=>σ[i]?=some (some (.ref f))∧t σ H Q
section
variable {X:Cx}
theorem pe_callL {k:Nat} {CX:CXT} {E:XK} {f:Addr} {fd:FuncData} {ps:List Str} {sp:Sp} {ds:List Value} {dvs:List V} {x:Str} {p pos:Pos} {e:Expr} {es:List Expr} {t:TA} {i:Nat} (F:FnOk X.prog X.w X.K X.mg X.base CX k f fd ps sp) (hr:Room k X.A) (hN:X.N[i]?=some x) (hv:Vis X.env.scope x) (hk:PySem.W.keepIn X.K (.ref f)=true) (hb:Binds X.K fd ps ds) (hd:Vals dvs ds) (hx:Passes CX X E)
  (ha:PA X (e :: es) t) (hdb:(x == ("__debug__":Str))=false:=by decide) (hcd:(x == ("__classdict__":Str))=false:=by decide) (he:starEach (e :: es) X.env=(false,eval e X.env) :: starEach es X.env:=by rfl) (hpl:(backTo pos (starEach es X.env)).any (·.1)=false:=by rfl) :
  PE X (.Call (.Name x p) (e :: es) [] pos) (tCallL i f (tCall sp dvs E t)):=by
 intro pins s σ H Q I h
 obtain⟨h1,h2⟩:=h
 refine wpAny_Call_Name_kw ?_
 refine thn (pe_var (X:=X) (i:=i) hN hv hdb hcd pins s σ H (fun v H1=>v=.ref f∧H1=H) I ⟨_,h1,rfl,rfl⟩) fun v s0 ⟨y,H0,I0,r0,e1,e2⟩=>?_
 subst e1
 subst e2
 cases (show v=Value.ref f from r0)
 refine PySem.W.callWith_K (h₀:=X.base) I0.ok.mod.kin hk (thn (ha pos pins s0 σ H0 _ I0 h2) fun us s1 ⟨vs,H1,I1,r,q⟩=>⟨I1.kIn,?_⟩) he hpl
 exact run_fn F hr hb hd hx I1 r q
end
end L2
namespace Ken
open PySem L2
theorem pre_drop:∀ (t:Tm) (j:Nat),j < t.pre.length→∃ s rest,t.pre[j]?=some s∧t.pre.drop j=s.pre++rest∧s.parts≤t.parts
 | .low,j,h=>by
  have:j=0:=by have h':j < 1:=h;omega
  subst this
  exact⟨.low,[],rfl,rfl,Nat.le_refl _⟩
 | .ltr w,j,h=>by
  have:j=0:=by have h':j < 1:=h;omega
  subst this
  exact⟨.ltr w,[],rfl,rfl,Nat.le_refl _⟩
 | .nd k a b,0,h=>⟨.nd k a b,[],rfl,by rw[List.append_nil];rfl,Nat.le_refl _⟩
 | .nd k a b,j+1,h=>by
  have e1:(Tm.nd k a b).pre=.nd k a b :: (a.pre++b.pre):=rfl
  have e2:(Tm.nd k a b).parts=1+a.parts+b.parts:=rfl
  rw[e1] at h ⊢
  rw[List.length_cons,List.length_append] at h
  rw[List.getElem?_cons_succ,List.drop_succ_cons,e2]
  by_cases hj:j < a.pre.length
  ·obtain⟨s,rest,h1,h2,h3⟩:=pre_drop a j hj
   refine⟨s,rest++b.pre,by rw[List.getElem?_append_left hj];exact h1,?_,by omega⟩
   rw[List.drop_append_of_le_length (Nat.le_of_lt hj),h2,List.append_assoc]
  ·obtain⟨s,rest,h1,h2,h3⟩:=pre_drop b (j - a.pre.length) (by omega)
   refine⟨s,rest,by rw[List.getElem?_append_right (by omega)];exact h1,?_,by omega⟩
   rw[List.drop_append,List.drop_of_length_le (by omega),List.nil_append];exact h2
theorem pre_head (t:Tm):∃ l,t.pre=t :: l:=⟨_,t.pre_eq⟩
theorem forest_head {fs:List Tm} {a:Tm} {rest:List Tm} (h:fs.flatMap Tm.pre=a.pre++rest):∃ fs',fs=a :: fs'∧fs'.flatMap Tm.pre=rest:=by
 cases fs with
 | nil =>
  obtain⟨l,e⟩:=pre_head a
  rw[e] at h;cases h
 | cons f fs =>
  obtain⟨l,e⟩:=pre_head f
  obtain⟨m,e'⟩:=pre_head a
  have h':=h
  rw[List.flatMap_cons,e,e'] at h'
  have ef:f=a:=(List.cons.inj h').1
  subst ef
  rw[List.flatMap_cons] at h
  exact⟨fs,rfl,List.append_cancel_left h⟩
theorem forest_nil {fs:List Tm} (h:fs.flatMap Tm.pre=[]):fs=[]:=by
 cases fs with
 | nil=>rfl
 | cons f fs =>
  obtain⟨l,e⟩:=pre_head f
  rw[List.flatMap_cons,e] at h;cases h
theorem len_le_of_subT:∀ {os ts:List Tm},os.Nodup→(∀ t∈os,t∈ts)→os.length≤ts.length
 | [],_,_,_=>Nat.zero_le _
 | o :: os,ts,hn,h=>by
  obtain⟨l,r,rfl⟩:=List.append_of_mem (h o List.mem_cons_self)
  have h1:=List.nodup_cons.mp hn
  have:=len_le_of_subT (ts:=l++r) h1.2 fun t ht=>by
   have:=h t (List.mem_cons_of_mem _ ht)
   rcases List.mem_append.mp this with z | z
   ·exact List.mem_append_left _ z
   ·rcases List.mem_cons.mp z with z | z
    ·exact absurd (z▸ht) h1.1
    ·exact List.mem_append_right _ z
  rw[List.length_append] at this
  rw[List.length_cons,List.length_append,List.length_cons];omega
end Ken
namespace L2
open PySem PySem.Spec PyProof.Rows
noncomputable def posOf (s:Stmt):Pos:=match s with
 | .FunctionDef _ _ _ _ _ _ _ _ _ p=>p
 | _=>⟨0,0,0,0⟩
noncomputable def inDef (s:Stmt) (j:Nat):Stmt:=(defBody s).getD j (.Pass ⟨0,0,0,0⟩)
theorem ps_defS {X:Cx} {i:Nat} {name qual:Str} {st:Stmt} {cl:List (Str×Addr)} {c P:Addr} {ds:List (Pos×Str)}
  (hst:st=.FunctionDef name (defArgs st) (defBody st) [] none [] (defScope st) none name (posOf st))
  (hN:X.N.Nodup) (hi:X.N[i]?=some name) (hx:Loc X.env.scope name) (hcl:closureFor (defScope st) X.env=pure cl) (hc:X.env.code=.ref c) (hC:∀ h,X.K.In h→PySem.W.CodeHd h c P) (hB:∀ h,X.K.In h→h.BuiltinsAt X.mg P) (hP:mainGlobals≠P)
  (hq:qualnameIn X.env name name=qual) (hd:(posOf st,qual)∈ds) (hds:∀ d∈ds,d.1.line=(posOf st).line→d.1.col=(posOf st).col→d.2=qual)
  (h1:(defArgs st).defaults=[]) (h2:(defArgs st).kw_defaults=[]) (h3:annTrees (defArgs st) none X.env=[])
  (hf:X.fn name=true∨X.env.scope.names.lookup name=some .local:=by first | exact .inl rfl | exact .inr rfl | assumption) :
  PS X st (tDef i name qual (defArgs st) (defBody st) (defScope st) cl P ds):=by
 have h:=ps_def (X:=X) (pos:=posOf st) (body:=defBody st) hN hi hx hcl hc hC hB hP hq hd hds h1 h2 h3 hf
 rw[← hst] at h
 exact h
theorem codeIn_of {K:PySem.W.Frag} {c:Addr} {o:Obj} {vs:Array Value} {q:Str} {t:Tok} (h:K.lookup c=some o) (hd:o.data=.fields vs) (hv:vs[1]?=some (.str q t)):PySem.W.codeIn K (.ref c) q=true:=by
 obtain⟨cls,dict,data,slots⟩:=o
 have hd:data=.fields vs:=hd
 subst hd
 unfold PySem.W.codeIn
 dsimp only
 rw[show List.lookup c K=_ from h]
 obtain⟨l⟩:=vs
 have hv:l[1]?=some (.str q t):=by simpa using hv
 match l,hv with
 | a :: b :: r,hv =>
  have hb:b=.str q t:=by simpa using hv
  subst hb
  show (q == q)=true
  simp
theorem keepIn_fn {K:PySem.W.Frag} {f:Addr} {oc:Value} {od:Option Addr} {fd:FuncData} {sl:Array (Option Value)} (h:K.lookup f=some ⟨oc,od,.func fd,sl⟩):PySem.W.keepIn K (.ref f)=true:=by
 unfold PySem.W.keepIn
 dsimp only
 rw[show List.lookup f K=_ from h]
theorem codeIn_le {K K':PySem.W.Frag} (k:KLe K K') {cd:Value} {q:Str} (h:PySem.W.codeIn K cd q=true):PySem.W.codeIn K' cd q=true:=by
 cases cd with
 | ref c =>
  unfold PySem.W.codeIn at h ⊢
  dsimp only at h ⊢
  cases z:List.lookup c K with
  | none=>rw[z] at h;cases h
  | some o =>
   rw[z] at h
   rw[show List.lookup c K'=some o from k c o z]
   exact h
 | _=>exact absurd h (by simp[PySem.W.codeIn])
theorem Fun.le {K K':PySem.W.Frag} (k:KLe K K') {x qual:Str} {st:Stmt} {f:Addr} {fd:FuncData} (F:Fun K x qual st f fd):Fun K' x qual st f fd:=by
 obtain⟨⟨oc,od,kV,doc,pm,an,cdv,ct,osl,e,lk,hcd⟩,kp⟩:=F
 exact⟨⟨oc,od,kV,doc,pm,an,cdv,ct,osl,e,k _ _ lk,codeIn_le k hcd⟩,keepIn_fn (k _ _ lk)⟩
theorem Binds.le {K K':PySem.W.Frag} (k:KLe K K') {fd:FuncData} {ps:List Str} {ds:List Value} (b:Binds K fd ps ds):Binds K' fd ps ds:=fun s us h hl=>b s us (fun a o e=>h a o (k a o e)) hl
theorem SqT.le {K K':PySem.W.Frag} (k:KLe K K') {H:Hp} {a:Addr} {xs:List V} (h:SqT K H a xs):SqT K' H a xs:=by
 rcases h with h | ⟨o,its,n,e,r⟩
 ·exact .inl h
 ·exact .inr ⟨o,its,n,k a o e,r⟩
structure FunT (K:PySem.W.Frag) (x qual:Str) (st:Stmt) (f:Addr) (fd:FuncData) (P:Addr):Prop where
 ex:∃ (oc:Value) (od:Option Addr) (kV doc pm:Value) (an:Option Addr) (c:Addr) (ct:Value) (osl:Array (Option Value)),
  fd=PySem.W.fnOf x qual (defArgs st) (defBody st) (defScope st) .none kV doc pm an (.ref c) ct∧K.lookup f=some ⟨oc,od,.func fd,osl⟩∧PySem.W.codeIn K (.ref c) qual=true∧∀ h,K.In h→PySem.W.CodeHd h c P
 kp:PySem.W.keepIn K (.ref f)=true
theorem FunT.ok {P:Program} {w:World} {K:PySem.W.Frag} {mg:Str→Option Value} {base:Heap} {x qual:Str} {st:Stmt} {f:Addr} {fd:FuncData} {T:Addr} {N ps:List Str} {k:Nat} {sp:Sp} (F:FunT K x qual st f fd T) (S:FnScope N ps (defScope st)) (len:∀ vs H Q E,sp vs H Q E→vs.length=ps.length)
  (hbody:∀ (c:Addr) (A:Around) (outer:List Env) (s:Shared) (H:Hp) (vs:List V) (Q:VK) (E:XK),(∀ h,K.In h→PySem.W.CodeHd h c T)→Room k (A.deeper (envOfC qual (defScope st) s.heap.objs.size f (.ref c)))→sp vs H Q E →
   ∃ t,PSs (cxOf CX0 P w K mg base N qual (defScope st) f (.ref c) A outer s H E).nox (defBody st) t∧t { nx:=fun _ H'=>Q .non H',rt:=Q } (start N vs) H):FnOk P w K mg base CX0 (k+1) f fd ps sp:=by
 obtain⟨oc,od,kV,doc,pm,an,c,ct,osl,rfl,lk,hcd,hC⟩:=F.ex
 refine fn_of lk hcd S len fun A outer s H vs Q E hr hsp=>?_
 obtain⟨t,h,q⟩:=hbody c A outer s H vs Q E hC hr hsp
 exact⟨t,h.nox,q⟩
structure FunC (K:PySem.W.Frag) (x qual:Str) (st:Stmt) (cl:List (Str×Addr)) (f:Addr) (fd:FuncData):Prop where
 ex:∃ (oc:Value) (od:Option Addr) (doc pm cdv ct:Value) (osl:Array (Option Value)),
  fd=PySem.W.fnX x qual (defArgs st) (defBody st) (defScope st) cl .none .none doc pm none cdv ct∧K.lookup f=some ⟨oc,od,.func fd,osl⟩∧PySem.W.codeIn K cdv qual=true
 kp:PySem.W.keepIn K (.ref f)=true
theorem FunC.ok {P:Program} {w:World} {K:PySem.W.Frag} {mg:Str→Option Value} {base:Heap} {x qual:Str} {st:Stmt} {cl:List (Str×Addr)} {f:Addr} {fd:FuncData} {N ps fv:List Str} {frv:List V} {k:Nat} {sp:Sp} (F:FunC K x qual st cl f fd) (S:FnScopeC N ps fv (defScope st)) (C:Caught K (defScope st) cl fv frv) (len:∀ vs H Q E,sp vs H Q E→vs.length=ps.length)
  (hbody:∀ (cdv:Value) (A:Around) (outer:List Env) (s:Shared) (H:Hp) (vs:List V) (Q:VK) (E:XK),Room k (A.deeper (PySem.W.envX qual (defScope st) s.heap.objs.size f cdv cl))→sp vs H Q E →
   ∃ t,PSs (cxC CX0 P w K mg base N qual (defScope st) f cdv cl A outer s H E).nox (defBody st) t∧t { nx:=fun _ H'=>Q .non H',rt:=Q } (start N (vs++frv)) H):FnOk P w K mg base CX0 (k+1) f fd ps sp:=by
 obtain⟨oc,od,doc,pm,cdv,ct,osl,rfl,lk,hcd⟩:=F.ex
 refine fn_ofC lk hcd S C len fun A outer s H vs Q E hr hsp=>?_
 obtain⟨t,h,q⟩:=hbody cdv A outer s H vs Q E hr hsp
 exact⟨t,h.nox,q⟩
theorem FunC.binds {K:PySem.W.Frag} {x qual:Str} {st:Stmt} {cl:List (Str×Addr)} {f:Addr} {fd:FuncData} {ps:List Str} (F:FunC K x qual st cl f fd)
  (h:∀ (doc pm cdv ct:Value) (us:List Value),us.length=ps.length→bindArgs (PySem.W.fnX x qual (defArgs st) (defBody st) (defScope st) cl .none .none doc pm none cdv ct) ⟨us,[]⟩=pure (ps.zip us)):Binds K fd ps []:=by
 obtain⟨oc,od,doc,pm,cdv,ct,osl,rfl,lk,hcd⟩:=F.ex
 exact .all (h doc pm cdv ct)
theorem FnFz.objs {H:Hp} {f:Addr} {name qual:Str} {st:Stmt} {cl:List (Str×Addr)} (h:FnFz H f name qual (defArgs st) (defBody st) (defScope st) cl) :
  ∃ (o1:Obj) (c:Addr) (o2:Obj),H f=some (FZ o1)∧H c=some (FZ o2)∧(∀ its n,o1.data≠.seq its n)∧(∀ its n,o2.data≠.seq its n) ∧
   ∀ K:PySem.W.Frag,K.lookup f=some o1→K.lookup c=some o2→∃ fd,FunC K name qual st cl f fd:=by
 obtain⟨doc,pm,ct,cv,h1,c,o,vs,t,rfl,h3,h4,h5⟩:=h
 refine⟨_,c,o,h1,h3,?_,?_,fun K e1 e2=>⟨_,⟨_,_,doc,pm,_,ct,_,rfl,e1,codeIn_of e2 h4 h5⟩,keepIn_fn e1⟩⟩
 ·intro its n z
  cases z
 ·intro its n z
  rw[h4] at z;cases z
noncomputable def CellIn (X:Cx) (K:PySem.W.Frag) (x:Str) (v:V):Prop:=∃ c o u,X.env.cells.lookup x=some c∧K.lookup c=some o∧o.data=.cell (some u)∧RelV v u
theorem caught_of {X:Cx} {K:PySem.W.Frag} {sc:Scope} {fv:List Str} {frv:List V} (ok:X.Ok) (hlen:frv.length=fv.length) (h1:∀ y∈sc.names,y.2=.free→y.1∈fv) (h2:∀ x∈fv,(x,NameKind.free)∈sc.names)
  (hc:∀ (i:Nat) (x:Str) (v:V),fv[i]?=some x→frv[i]?=some v→CellIn X K x v):Caught K sc (closL X.env.cells sc.names []) fv frv:=by
 have at':∀ x c,(closL X.env.cells sc.names []).lookup x=some c→x∈fv∧c=(X.env.cells.lookup x).getD 0:=fun x c e=>by
  rcases closL_mem (PySem.mem_of_lookup e) with z | ⟨z1,z2⟩
  ·exact absurd z (by simp)
  ·exact⟨h1 _ z1 rfl,z2⟩
 have val:∀ x∈fv,∃ i v,fv[i]?=some x∧frv[i]?=some v:=fun x hx=>by
  obtain⟨i,hi,e⟩:=List.getElem_of_mem hx
  exact⟨i,frv[i]'(by omega),by rw[List.getElem?_eq_getElem hi,e],List.getElem?_eq_getElem _⟩
 have lk:∀ x,x∈fv→∃ c,(closL X.env.cells sc.names []).lookup x=some c:=fun x hx=>by
  obtain⟨c,hm⟩:=closL_has (cells:=X.env.cells) (acc:=[]) (.inl (h2 x hx))
  exact lookup_of_mem hm
 refine⟨hlen,fun i x v e1 e2=>?_,fun x c e=>?_,fun x y c e1 e2=>?_,fun x e=>?_⟩
 ·obtain⟨c,o,u,g1,g2,g3,g4⟩:=hc i x v e1 e2
  obtain⟨c',e⟩:=lk x (List.mem_of_getElem? e1)
  have:=(at' x c' e).2
  rw[g1] at this
  cases this
  exact⟨c,o,u,e,g2,g3,g4⟩
 ·obtain⟨hx,hcv⟩:=at' x c e
  obtain⟨i,v,e1,e2⟩:=val x hx
  obtain⟨c',o,u,g1,g2,g3,g4⟩:=hc i x v e1 e2
  rw[g1] at hcv
  cases hcv
  exact⟨o,_,g2,g3⟩
 ·obtain⟨hx,hcx⟩:=at' x c e1
  obtain⟨hy,hcy⟩:=at' y c e2
  obtain⟨i,v,i1,i2⟩:=val x hx
  obtain⟨j,u,j1,j2⟩:=val y hy
  obtain⟨c1,_,_,g1,_⟩:=hc i x v i1 i2
  obtain⟨c2,_,_,g2,_⟩:=hc j y u j1 j2
  rw[g1] at hcx
  rw[g2] at hcy
  cases hcx
  cases hcy
  exact ok.inj x y _ g1 g2
 ·exact lk x (h1 _ (PySem.mem_of_lookup e) rfl)
mutual
theorem Dn.moveT {K K':PySem.W.Frag} {H H':Hp} (k:∀ a xs,SqT K H a xs→SqT K' H' a xs):∀ {d:PyData} {v:V},noList d=true→Dn K H v d→Dn K' H' v d
 | .none,v,_,h=>by rw[Dn] at h ⊢;exact h
 | .bool _,v,_,h=>by rw[Dn] at h ⊢;exact h
 | .int _,v,_,h=>by rw[Dn] at h ⊢;exact h
 | .str _,v,_,h=>by rw[Dn] at h ⊢;exact h
 | .list _,v,n,h=>by rw[noList] at n;cases n
 | .dict _,v,n,h=>by rw[noList] at n;cases n
 | .tuple ds,v,n,h=>by
  rw[Dn] at h ⊢
  rw[noList] at n
  obtain⟨a,xs,e,hs,hd⟩:=h
  exact⟨a,xs,e,k a xs hs,DnAll.moveT k n hd⟩
theorem DnAll.moveT {K K':PySem.W.Frag} {H H':Hp} (k:∀ a xs,SqT K H a xs→SqT K' H' a xs):∀ {ds:List PyData} {xs:List V},noLists ds=true→DnAll K H xs ds→DnAll K' H' xs ds
 | [],xs,_,h=>by rw[DnAll] at h ⊢;exact h
 | d :: ds,xs,n,h=>by
  rw[DnAll] at h ⊢
  rw[noLists,Bool.and_eq_true] at n
  obtain⟨x,r,e,h1,h2⟩:=h
  exact⟨x,r,e,Dn.moveT k n.1 h1,DnAll.moveT k n.2 h2⟩
end
theorem sqT_in {K K':PySem.W.Frag} {H:Hp} {xs:List (Addr×Obj)} (hx:∀ p∈xs,H p.1=some (FZ p.2)) (k:KLe K K') (a:Addr) (ys:List V) (h:SqT K H a ys):SqT K' (remX xs H) a ys:=by
 have out:∀ {b:Addr} {u:HO},H b=some u→(∀ o,u≠FZ o)→b ∉ xs.map (·.1):=fun {b u} e n z=>by
  obtain⟨p,hp,rfl⟩:=List.mem_map.mp z
  rw[hx p hp] at e
  cases e
  exact n p.2 rfl
 rcases h with (h | ⟨o,h⟩) | ⟨o,its,n,e,r⟩
 ·exact .inl (.inl (by rw[remX_out (out h fun _ z=>nomatch z)];exact h))
 ·exact .inl (.inr ⟨o,by rw[remX_out (out h fun _ z=>by cases z)];exact h⟩)
 ·exact .inr ⟨o,its,n,k a o e,r⟩
theorem sqT_out {K K':PySem.W.Frag} {H H2:Hp} {xs cs:List (Addr×Obj)} (k:∀ a o,K'.lookup a=some o→K.lookup a=some o∨(a,o)∈xs++cs) (hn:∀ p∈xs++cs,∀ its n,p.2.data≠.seq its n) (hx:∀ p∈xs,H2 p.1=none) (a:Addr) (ys:List V) (h:SqT K' H2 a ys):SqT K (backX xs H H2) a ys:=by
 have out:∀ {b:Addr} {u:HO},H2 b=some u→b ∉ xs.map (·.1):=fun {b u} e z=>by
  obtain⟨p,hp,rfl⟩:=List.mem_map.mp z
  rw[hx p hp] at e
  cases e
 rcases h with (h | ⟨o,h⟩) | ⟨o,its,n,e,r1,r2,r3⟩
 ·exact .inl (.inl (by rw[backX_out (out h)];exact h))
 ·exact .inl (.inr ⟨o,by rw[backX_out (out h)];exact h⟩)
 ·rcases k a o e with z | z
  ·exact .inr ⟨o,its,n,z,r1,r2,r3⟩
  ·exact absurd r2 (hn _ z its n)
end L2
namespace Ken
open PySem L2
noncomputable def Tm.sub (t:Tm) (x:Str) (o:Tm):Tm :=
 match t with
 | .low=>.low
 | .ltr w=>if w=x then o else .ltr w
 | .nd k a b=>.nd k (a.sub x o) (b.sub x o)
theorem Tm.sub_ok {x:Str} {o:Tm} (ho:o.ok):∀ {t:Tm},t.ok→(t.sub x o).ok
 | .low,_=>trivial
 | .ltr w,h=>by
  show (if w=x then o else Tm.ltr w).ok
  by_cases e:w=x
  ·rw[if_pos e];exact ho
  ·rw[if_neg e];exact h
 | .nd k a b,h=>⟨Tm.sub_ok ho h.1,Tm.sub_ok ho h.2⟩
noncomputable abbrev RH:=Hp→Tm→V→Prop
noncomputable def sp_of1H (K:PySem.W.Frag) (J:Hp→Prop) (R:RH):Sp:=fun vs H Q _=>∃ (v:V) (t:Tm),vs=[v]∧J H∧IsT K H v t∧t.kids=[]∧t.ok∧∀ (r:V) (H':Hp),Same H H'→R H' t r→Q r H'
noncomputable def sp_of2H (J:Hp→Prop) (R:RH) (B:Nat):Sp:=fun vs H Q _=>∃ (k:Kd) (a b:Tm) (x y:V),vs=[.str k.str,x,y]∧J H∧R H a x∧R H b y∧(Tm.nd k a b).parts≤B∧∀ (r:V) (H':Hp),Same H H'→R H' (.nd k a b) r→Q r H'
noncomputable def sp_foldedH (K:PySem.W.Frag) (J:Hp→Prop) (R:RH) (B:Nat) (fs fp:Addr):Sp:=fun vs H Q _=>∃ (v:V) (t:Tm),vs=[v,.ref fs,.ref fp]∧J H∧IsT K H v t∧t.ok∧t.parts≤B∧B≤400∧∀ (r:V) (H':Hp),Same H H'→R H' t r→Q r H'
noncomputable def sp_placed (K:PySem.W.Frag) (T:Addr) (ds:List (Pos×Str)):Sp:=fun vs H Q _=>∃ (v:V) (t:Tm) (x:Str) (ov:V) (o:Tm),vs=[v,.str x,ov]∧IsT K H v t∧IsT K H ov o∧t.ok∧Word x∧t.parts≤300∧TabOk H T ds ∧
 ∀ (r:V) (H':Hp),SameT H H'→TabOk H' T ds→IsT K H' r (t.sub x o)→Q r H'
theorem SameT.keepT {K:PySem.W.Frag} {H H':Hp} (e:SameT H H'):KeepT K H H':=fun a xs h=>by
 rcases h with (h | ⟨o,h⟩) | h
 ·exact .inl (.inl (e _ _ (fun _ z=>nomatch z) h))
 ·exact .inl (.inr ⟨o,e _ _ (fun _ z=>nomatch z) h⟩)
 ·exact .inr h
theorem pre_mem_ok {t s:Tm} (h:t.ok) (hs:s∈t.pre):s.ok:=Tm.pre_ok h s hs
end Ken
namespace L2
open PySem PySem.Spec PyProof.Rows
structure CodeFs (vs:Array Value) (T:Addr):Prop where
 a:vs[11]?=some (.ref T)
 b:vs.getD 11 .none=.ref T
 c:∃ file tf,vs.getD 18 .none=.str file tf
 d:∃ flags tg,vs.getD 7 .none=.int flags tg
 e:∃ inF,vs.getD 9 .none=.bool inF
 f:∃ text tt,vs.getD 10 .none=.int text tt
theorem codeHd_of {K:PySem.W.Frag} {c T:Addr} {od:Option Addr} {vs:Array Value} {sl:Array (Option Value)} (l:K.lookup c=some ⟨.type "code",od,.fields vs,sl⟩) (x:CodeFs vs T) (n:c≠T) (h:Heap) (k:K.In h):PySem.W.CodeHd h c T:=by
 obtain⟨file,tf,h1⟩:=x.c
 obtain⟨flags,tg,h2⟩:=x.d
 obtain⟨inF,h3⟩:=x.e
 obtain⟨text,tt,h4⟩:=x.f
 exact⟨_,vs,file,tf,flags,tg,inF,text,tt,k _ _ l,rfl,rfl,x.a,x.b,h1,h2,h3,h4,n⟩
theorem funT_mk {K:PySem.W.Frag} {x qual:Str} {st:Stmt} {f:Addr} {oc:Value} {od an:Option Addr} {osl:Array (Option Value)} {kV doc pm ct:Value} {c T:Addr} (l:K.lookup f=some ⟨oc,od,.func (PySem.W.fnOf x qual (defArgs st) (defBody st) (defScope st) .none kV doc pm an (.ref c) ct),osl⟩)
  (cc:PySem.W.codeIn K (.ref c) qual=true) (k:PySem.W.keepIn K (.ref f)=true) (hC:∀ h,K.In h→PySem.W.CodeHd h c T):FunT K x qual st f (PySem.W.fnOf x qual (defArgs st) (defBody st) (defScope st) .none kV doc pm an (.ref c) ct) T:=⟨⟨oc,od,kV,doc,pm,an,c,ct,osl,rfl,l,cc,hC⟩,k⟩
end L2
namespace Hd
open PySem PySem.W PySem.Calls PyProof.Rows
noncomputable abbrev pos0:Pos:=⟨0,0,0,0⟩
noncomputable def o11:Obj:={ cls:=.type "tuple",data:=.seq #[] }
noncomputable def o12:Obj:={ cls:=.none,data:=.fields #[] }
noncomputable def o13:Obj:={ cls:=.type "code",data:=.fields #[.str (Str.ofString "<module>") 182,.str (Str.ofString "<module>") 183,.str (Str.ofString "/claim/cut.py") 184,.int 1 0,.int 0 0,.int 0 0,.int 0 0,.int 0 0,.ref 11,.bool false,.int 181 0,.ref 12,.none,.none,.none,.none,.int 185 0,.int 1 0,.str (Str.ofString "/claim/cut.py") 186] }
noncomputable def o14:Obj:={ cls:=.type "frame",slots:=#[some (.ref 13),some (.ref 3),some (.ref 3),none,some (.str (Str.ofString "__main__") 164),none,some (.ref 0)] }
noncomputable def treeB (P:Params):BT :=
 (.node (boot_o_0 P) (.node (boot_o_1 P) (.node (boot_o_3 P) (.node (boot_o_7 P) .nil .nil) (.node o11 .nil .nil)) (.node (boot_o_5 P) (.node (boot_o_9 P) .nil .nil) (.node o13 .nil .nil))) (.node (boot_o_2 P) (.node (boot_o_4 P) (.node (boot_o_8 P) .nil .nil) (.node o12 .nil .nil)) (.node (boot_o_6 P) (.node (boot_o_10 P) .nil .nil) (.node o14 .nil .nil))))
noncomputable abbrev annB:Option Value:=some (.ref 6)
noncomputable def envOf (p:Program):Env:={ scope:=p.main.scope,locals:=mainNs,globals:=mainNs,cells:=[],code:=.ref 13,frame:=some 14 }
noncomputable def codeOf (p:Program):Code:=.body (behindTheImports p) (envOf p)
noncomputable def SB (w:World) (os:OsState):SharedT:=⟨treeB w.params,15,{},#[],{},187,os⟩
noncomputable def S0 (w:World) (os:OsState):Shared:=⟨boot_heap w.params,Array.mk [],boot_drawn,boot_toks,os⟩
noncomputable def pre (p:Program) (w:World) (os:OsState):=topGo treeTable p w 11 annB 12 (S0 w os) (topStub p)
noncomputable def preTo (p:Program) (w:World) (os:OsState):Option (Shared×Thread):=some ((SB w os).abs,⟨denote treeTable (codeOf p),codeOf p,pos0,[topFrame pos0]⟩)
noncomputable def blk (p:Program) (w:World) (os:OsState):=segRun treeTable p w 11 annB 1 1 (SB w os).abs (blockOf (behindTheImports p) (envOf p) (codeOf p) pos0 [topFrame pos0])
noncomputable def blkTo (p:Program) (w:World) (os:OsState):Option (Flow×Shared×Code×Pos):=some (.next,(SB w os).abs,codeOf p,pos0)
noncomputable def run (p:Program) (n:Nat) (w:World) (os:OsState):=segRunT treeTable p w 11 annB 1 n (SB w os) (piecesOf (behindTheImports p) (envOf p) (codeOf p) pos0 [topFrame pos0])
noncomputable def fin (p:Program) (e:Pos) (w:World) (x:SharedT):Option Shared:=topRun treeTable p w 11 annB 2 x.abs ⟨doneF .next,codeOf p,e,[topFrame pos0]⟩
noncomputable def kept (p:Program) (w:World) (s:Shared):Bool:=staticsOk (importedModules p.main.body) (boot_heap w.params) s.heap&&namesBound p s.heap&&gensDone s&&laidKept (boot_heap w.params) s.heap
noncomputable def ev {α:Type} (p q:Program) (loose:List Str) (lv:List (Str×WData)) (Yf:Shared→α) (n:Nat) (e:Pos) (w:World) (os:OsState) :=
 (run p n w os).map fun x=>(x.1,x.2.2,(fin p e w x.2.1).map fun s=>(kept p w s,openSeen q loose (importedModules p.main.body) (fun s=>xlAt q lv s&&recOk [] s) true s,Yf s))
noncomputable def evTo {α:Type} (p q:Program) (loose:List Str) (Ya:World→α) (e:Pos) (w:World) :=
 some (Flow.next,(codeOf p,e),some (true,(expectedOf q,bltViewBooted,true,true,pinGoodD (drecsOf q),
  plainGoodE q (looseW q loose),plainGoodD q loose,wideGood q,clsGoodW q loose),Ya w))
theorem S0_size (w:World) (os:OsState):((S0 w os).heap.isNs mainGlobals&&(S0 w os).gens.size == 0)=true∧(S0 w os).heap.objs.size=11∧(S0 w os).heap.nsMap mainGlobals "__annotations__"=annB:=by
 refine⟨?_,?_,?_⟩<;>kernel_rfl
theorem left {α:Type} {p q:Program} {loose:List Str} {lv:List (Str×WData)} {Yf:Shared→α} {Ya:World→α} {N n:Nat} {e:Pos}
  (ho:opening p=plainProg p.main.scope.names) (hN:Nat.ble 600 N=true) (hf:∀ s,fenceModules? p s=some s)
  (h1:∀ w,(fun os=>pre p w os)=fun os=>preTo p w os) (h2:∀ w,(fun os=>blk p w os)=fun os=>blkTo p w os)
  (h3:∀ w,(fun os=>ev p q loose lv Yf n e w os)=fun _=>evTo p q loose Ya e w) (hl:Nat.ble (12+(1+(n+2))) N=true) :
  LeftO p q loose (fun s=>xlAt q lv s&&recOk [] s) Yf Ya N:=fun w=>by
 obtain⟨s,es,eb⟩:=Option.map_eq_some_iff.mp (boot_open ho hN hf w)
 obtain⟨hp,gs,dr,tk,os⟩:=s
 have sz:=S0_size w os
 obtain⟨rfl,rfl,rfl,rfl⟩:hp=boot_heap w.params∧gs=Array.mk []∧dr=boot_drawn∧tk=boot_toks:=by
  have:=eb
  simp only[Prod.mk.injEq] at this
  exact this
 obtain⟨x,ex,ey⟩:=Option.map_eq_some_iff.mp (congrFun (h3 w) os)
 obtain⟨f,xT,c,pe⟩:=x
 have q1:=(Prod.mk.inj ey).1
 have q2:=(Prod.mk.inj (Prod.mk.inj ey).2).1
 have q3:=(Prod.mk.inj (Prod.mk.inj ey).2).2
 dsimp only at q1 q2 q3
 subst q1
 cases q2
 obtain⟨s1,e1,e2⟩:=Option.map_eq_some_iff.mp q3
 have r3:topRun treeTable p w 11 annB (n+2) (SB w os).abs (restOf (behindTheImports p++[]) (envOf p) (codeOf p) pos0 [topFrame pos0])=some s1:=piece_app (segRun_of ex) (piece_nil e1)
 rw[List.append_nil] at r3
 have r2:=piece_block (congrFun (h2 w) os) r3
 have r1:=go_top (congrFun (h1 w) os) r2
 have r0:=topRun_mono (N - (12+(1+(n+2)))) _ _ _ _ r1
 rw[show 12+(1+(n+2))+(N - (12+(1+(n+2))))=N by have:=Nat.le_of_ble_eq_true hl;omega] at r0
 have k1:=(Prod.mk.inj e2).1
 have k2:=(Prod.mk.inj (Prod.mk.inj e2).2).1
 have k3:=(Prod.mk.inj (Prod.mk.inj e2).2).2
 have t:topFrom treeTable p w N (S0 w os)=some s1:=by
  unfold topFrom
  rw[sz.1,sz.2.1,sz.2.2]
  dsimp only
  rw[r0,Option.bind_some]
  have k1':(staticsOk (importedModules p.main.body) (S0 w os).heap s1.heap&&namesBound p s1.heap&&gensDone s1&&laidKept (S0 w os).heap s1.heap)=true:=k1
  rw[k1']
 unfold openEnds
 rw[es,Option.bind_some]
 have t':=congrArg (Option.map fun s=>(openSeen q loose (importedModules p.main.body) (fun s=>xlAt q lv s&&recOk [] s) true s,Yf s)) t
 exact t'.trans (congrArg some (Prod.ext k2 k3))
theorem pre_self:@pre=@pre:=rfl
theorem preTo_self:@preTo=@preTo:=rfl
theorem blk_self:@blk=@blk:=rfl
theorem blkTo_self:@blkTo=@blkTo:=rfl
end Hd
name_quick hdPre for Hd.pre by Hd.pre_self
name_quick hdPreTo for Hd.preTo by Hd.preTo_self
name_quick hdBlk for Hd.blk by Hd.blk_self
name_quick hdBlkTo for Hd.blkTo by Hd.blkTo_self
namespace Hd
open PySem PySem.W PySem.Calls PyProof.Rows
noncomputable def evA (p:Program) (n:Nat) (e:Pos) (w:World) (os:OsState):=(run p n w os).map fun x=>(x.1,x.2.2,(fin p e w x.2.1).map fun s=>kept p w s)
noncomputable def evATo (p:Program) (e:Pos):=some (Flow.next,(codeOf p,e),some true)
noncomputable def seen1 (p q:Program) (loose:List Str) (lv:List (Str×WData)) (s:Shared):=((openSeen q loose (importedModules p.main.body) (fun s=>xlAt q lv s&&recOk [] s) true s).1,(openSeen q loose (importedModules p.main.body) (fun s=>xlAt q lv s&&recOk [] s) true s).2.1,(openSeen q loose (importedModules p.main.body) (fun s=>xlAt q lv s&&recOk [] s) true s).2.2.1)
noncomputable def seen2 (p q:Program) (loose:List Str) (lv:List (Str×WData)) (s:Shared):=(openSeen q loose (importedModules p.main.body) (fun s=>xlAt q lv s&&recOk [] s) true s).2.2.2
noncomputable def evB (p q:Program) (loose:List Str) (lv:List (Str×WData)) (n:Nat) (e:Pos) (w:World) (os:OsState):=(run p n w os).map fun x=>(fin p e w x.2.1).map fun s=>seen1 p q loose lv s
noncomputable def evBTo (q:Program):=some (some (expectedOf q,bltViewBooted,true))
noncomputable def evD (p q:Program) (loose:List Str) (lv:List (Str×WData)) (n:Nat) (e:Pos) (w:World) (os:OsState):=(run p n w os).map fun x=>(fin p e w x.2.1).map fun s=>seen2 p q loose lv s
noncomputable def evDTo (q:Program) (loose:List Str):=some (some (true,pinGoodD (drecsOf q),plainGoodE q (looseW q loose),plainGoodD q loose,wideGood q,clsGoodW q loose))
noncomputable def evC {α:Type} (p:Program) (Yf:Shared→α) (n:Nat) (e:Pos) (w:World) (os:OsState):=(run p n w os).map fun x=>(fin p e w x.2.1).map fun s=>Yf s
noncomputable def evCTo {α:Type} (Ya:World→α) (w:World):=some (some (Ya w))
theorem ev_of {α:Type} {p q:Program} {loose:List Str} {lv:List (Str×WData)} {Yf:Shared→α} {Ya:World→α} {n:Nat} {e:Pos} {w:World}
  (hA:(fun os=>evA p n e w os)=fun _=>evATo p e) (hB:(fun os=>evB p q loose lv n e w os)=fun _=>evBTo q) (hD:(fun os=>evD p q loose lv n e w os)=fun _=>evDTo q loose) (hC:(fun os=>evC p Yf n e w os)=fun _=>evCTo Ya w) :
  (fun os=>ev p q loose lv Yf n e w os)=fun _=>evTo p q loose Ya e w:=by
 funext os
 have a:=congrFun hA os
 have b:=congrFun hB os
 have c:=congrFun hC os
 have d:=congrFun hD os
 unfold evD evDTo at d
 unfold evA evATo at a
 unfold evB evBTo at b
 unfold evC evCTo at c
 unfold ev evTo
 cases hr:run p n w os with
 | none=>rw[hr] at a;cases a
 | some x =>
  rw[hr] at a b c d
  have a:=Option.some.inj a
  have b:=Option.some.inj b
  have c:=Option.some.inj c
  have d:=Option.some.inj d
  dsimp only at a b c d
  obtain⟨a1,a2⟩:=Prod.mk.inj a
  obtain⟨a2,a3⟩:=Prod.mk.inj a2
  show some (x.1,x.2.2,_)=_
  cases hf:fin p e w x.2.1 with
  | none=>rw[hf] at a3;cases a3
  | some s =>
   rw[hf] at a3 b c d
   have a3:=Option.some.inj a3
   have b:=Option.some.inj b
   have c:=Option.some.inj c
   have d:=Option.some.inj d
   dsimp only at a3 b c d
   unfold seen1 at b
   unfold seen2 at d
   obtain⟨b1,b2⟩:=Prod.mk.inj b
   obtain⟨b2,b3⟩:=Prod.mk.inj b2
   have o:openSeen q loose (importedModules p.main.body) (fun s=>xlAt q lv s&&recOk [] s) true s=(expectedOf q,bltViewBooted,true,true,pinGoodD (drecsOf q),plainGoodE q (looseW q loose),plainGoodD q loose,wideGood q,clsGoodW q loose):=Prod.ext b1 (Prod.ext b2 (Prod.ext b3 d))
   rw[a1,a2]
   show some (_,_,some (kept p w s,_,_))=_
   rw[a3,o,c]
theorem evA_self:@evA=@evA:=rfl
theorem evB_self:@evB=@evB:=rfl
theorem evD_self:@evD=@evD:=rfl
theorem evDTo_self:@evDTo=@evDTo:=rfl
theorem evC_self:@evC=@evC:=rfl
end Hd
name_quick hdEvA for Hd.evA by Hd.evA_self
name_quick hdEvB for Hd.evB by Hd.evB_self
name_quick hdEvD for Hd.evD by Hd.evD_self
name_quick hdEvDTo for Hd.evDTo by Hd.evDTo_self
name_quick hdEvC for Hd.evC by Hd.evC_self
namespace Hd
open PySem PySem.W PySem.Calls PyProof.Rows L2
noncomputable def pick (h:Heap) (as:List Addr):Frag:=as.filterMap fun a=>(h.get? a).map fun o=>(a,o)
theorem pick_in (h:Heap):∀ as:List Addr,(pick h as).In h
 | []=>fun _ _ e=>by cases e
 | b :: as=>fun a o e=>by
  have ih:=pick_in h as a o
  have e':List.lookup a (pick h (b :: as))=some o:=e
  unfold pick at e'
  rw[List.filterMap_cons] at e'
  cases z:h.get? b with
  | none=>rw[z] at e';exact ih e'
  | some u =>
   rw[z] at e'
   dsimp only[Option.map] at e'
   rw[List.lookup_cons] at e'
   split at e'
   ·rename_i hb
    have:=eq_of_beq hb
    subst this
    cases e'
    exact z
   ·exact ih e'
noncomputable def stAt (p:Program) (i:Nat):Stmt:=p.main.body.getD i (.Pass ⟨0,0,0,0⟩)
noncomputable def nm:Stmt→Str
 | .FunctionDef n _ _ _ _ _ _ _ _ _=>n
 | .ClassDef n _ _ _ _ _ _ _ _ _ _=>n
 | .Assign [.Name n _] _ _=>n
 | _=>Str.empty
noncomputable def constS:PySem.Expr→Str
 | .Constant (.str s) _ _=>s
 | .Name n _=>n
 | _=>Str.empty
noncomputable def tupLit:Stmt→List Str
 | .Assign _ (.Tuple es _ _) _=>es.map constS
 | _=>[]
noncomputable def dictLit:Stmt→List (Str×Str)
 | .Assign _ (.Dict ks vs _) _=>List.zip (ks.map fun k=>match k with | some e=>constS e | none=>Str.empty) (vs.map constS)
 | _=>[]
structure Ask where
 fns:List Nat
 tups:List Nat
 kfs:List Nat
 kds:List Nat
 bl:List Str
noncomputable abbrev FnD:=Str×Str×Arguments×FuncBody×Scope×Addr×List (Str×Addr)×Value×Addr×Bool
noncomputable def fnD (K:Frag) (fd:FuncData):FnD:=(fd.name,fd.qualname,fd.params,fd.body,fd.scope,fd.globals,fd.closure,fd.defaults,fd.builtins,codeIn K fd.code fd.qualname)
noncomputable def refSeen (K:Frag) (x:Str):Option (Addr×Obj):=match nsIn K mainGlobals x with
 | some (some (.ref f))=>(K.lookup f).map fun o=>(f,o)
 | _=>none
noncomputable def fnSeen (K:Frag) (x:Str):Option FnD:=match refSeen K x with
 | some (_,⟨_,_,.func fd,_⟩)=>some (fnD K fd)
 | _=>none
noncomputable def fnWant (st:Stmt):Option FnD:=some (nm st,nm st,defArgs st,.stmts (defBody st),defScope st,mainGlobals,[],.none,builtinsNs,true)
theorem ref_of {K:Frag} {x:Str} {r:Addr×Obj} (e:refSeen K x=some r):nsIn K mainGlobals x=some (some (.ref r.1))∧K.lookup r.1=some r.2:=by
 unfold refSeen at e
 split at e
 ·rename_i f hf
  obtain⟨o,e1,e2⟩:=Option.map_eq_some_iff.mp e
  subst e2
  exact⟨hf,e1⟩
 ·cases e
theorem fn_of {K:Frag} {st:Stmt} (e:fnSeen K (nm st)=fnWant st):∃ (f:Addr) (oc:Value) (od:Option Addr) (sl:Array (Option Value)) (kV dc pm:Value) (an:Option Addr) (cd ct:Value),
  nsIn K mainGlobals (nm st)=some (some (.ref f))∧K.lookup f=some ⟨oc,od,.func (fnOf (nm st) (nm st) (defArgs st) (defBody st) (defScope st) .none kV dc pm an cd ct),sl⟩∧codeIn K cd (nm st)=true∧keepIn K (.ref f)=true:=by
 unfold fnSeen at e
 split at e
 ·rename_i f oc od fd sl h
  obtain⟨h1,h2⟩:=ref_of h
  dsimp only at h1 h2
  obtain⟨a1,a2,a3,a4,a5,a6,a7,a8,a9,a10,a11,a12,a13,a14,a15⟩:=fd
  have e:=Option.some.inj e
  simp only[fnD,Prod.mk.injEq] at e
  obtain⟨rfl,rfl,rfl,rfl,rfl,rfl,rfl,rfl,rfl,hc⟩:=e
  refine⟨f,oc,od,sl,_,_,_,_,_,_,h1,h2,hc,?_⟩
  show (match K.lookup f with | some ⟨_,_,.func _,_⟩=>true | some ⟨_,_,.cls _,_⟩=>specialIn K (.ref f) "__call__" == some (some (.builtin "type.__call__")) | _=>false)=true
  rw[h2]
 ·cases e
noncomputable def strOf:Value→Option Str
 | .str s _=>some s
 | _=>none
theorem strOf_eq {v:Value} {s:Str} (e:strOf v=some s):∃ t,v=.str s t:=by
 unfold strOf at e
 split at e
 ·cases e;exact⟨_,rfl⟩
 ·cases e
noncomputable def tupSeen (K:Frag) (x:Str):Option (Value×List (Option Str)):=match refSeen K x with
 | some (_,⟨c,_,.seq vs _,_⟩)=>some (c,vs.toList.map strOf)
 | _=>none
noncomputable def tupWant (st:Stmt):Option (Value×List (Option Str)):=some (.type "tuple",(tupLit st).map some)
theorem vals_strs:∀ {l:List Str} {vs:List Value},vs.map strOf=l.map some→Vals (l.map V.str) vs
 | [],[],_=>.nil
 | [],_ :: _,e=>by cases e
 | _ :: _,[],e=>by cases e
 | s :: l,v :: vs,e=>by
  have e1:=(List.cons.inj e).1
  have e2:=(List.cons.inj e).2
  exact .cons (strOf_eq e1) (vals_strs e2)
theorem tup_of {K:Frag} {st:Stmt} (e:tupSeen K (nm st)=tupWant st) (hl:(tupLit st).length≤sizeLine):∃ a:Addr,nsIn K mainGlobals (nm st)=some (some (.ref a))∧∀ H,SqT K H a ((tupLit st).map V.str):=by
 unfold tupSeen at e
 split at e
 ·rename_i a c od vs n sl h
  obtain⟨h1,h2⟩:=ref_of h
  have e:=Option.some.inj e
  obtain⟨rfl,e2⟩:=Prod.mk.inj e
  refine⟨a,h1,fun H=>.inr ⟨_,_,_,h2,rfl,rfl,?_,vals_strs e2⟩⟩
  have:=congrArg List.length e2
  rw[List.length_map,List.length_map,Array.length_toList] at this
  rw[this]
  exact hl
 ·cases e
noncomputable abbrev DiD:=Value×Option Addr×Array (Option Value)×Bool×Nat×List (Int×Option Str×Bool)
noncomputable def kfRow (K:Frag) (e:DictEntry) (kf:Str×Str):Int×Option Str×Bool:=(e.hash,strOf e.key,nsIn K mainGlobals kf.2 == some (some e.val))
noncomputable def kfSeen (K:Frag) (x:Str) (kfs:List (Str×Str)):Option DiD:=match refSeen K x with
 | some (a,⟨c,od,.dict es _,sl⟩)=>some (c,od,sl,a == sysModules,es.toList.length,List.zipWith (kfRow K) es.toList kfs)
 | _=>none
noncomputable def kfWant (P:Params) (kfs:List (Str×Str)):Option DiD:=some (.type "dict",none,#[],false,kfs.length,kfs.map fun kf=>(PyData.keyHash P kf.1,some kf.1,true))
theorem kf_pairs {K:Frag} {w:World}:∀ {kfs:List (Str×Str)} {es:List DictEntry} {fs:List Addr},es.length=kfs.length→List.zipWith (kfRow K) es kfs=kfs.map (fun kf=>(PyData.keyHash w.params kf.1,some kf.1,true)) →
  Paired (fun (kf:Str×Str) (f:Addr)=>nsIn K mainGlobals kf.2=some (some (.ref f))) kfs fs →
  Paired (fun (p:Str×V) (e:DictEntry)=>(∃ tk,e.key=.str p.1 tk)∧e.hash=PyData.keyHash w.params p.1∧RelV p.2 e.val) (List.zipWith (fun kf f=>(kf.1,V.ref f)) kfs fs) es
 | [],[],_,_,_,r=>by cases r;exact .nil
 | [],_ :: _,_,h,_,_=>by cases h
 | _ :: _,[],_,h,_,_=>by cases h
 | kf :: kfs,e :: es,_,h,q,r=>by
  cases r with
  | @cons _ f _ fs h1 t =>
   have q1:=(List.cons.inj q).1
   have q2:=(List.cons.inj q).2
   simp only[kfRow,Prod.mk.injEq] at q1
   obtain⟨q3,q4,q5⟩:=q1
   have q6:=eq_of_beq q5
   rw[h1] at q6
   refine .cons ⟨strOf_eq q4,q3,?_⟩ (kf_pairs (Nat.succ.inj h) q2 t)
   have:e.val=.ref f:=(Option.some.inj (Option.some.inj q6)).symm
   rw[this]
   exact rfl
theorem kf_of {K:Frag} {w:World} {st:Stmt} (e:kfSeen K (nm st) (dictLit st)=kfWant w.params (dictLit st)) (fs:List Addr) (hf:Paired (fun (kf:Str×Str) (f:Addr)=>nsIn K mainGlobals kf.2=some (some (.ref f))) (dictLit st) fs)
  (nd:((List.zipWith (fun kf f=>(kf.1,V.ref f)) (dictLit st) fs).map (·.1)).Nodup):∃ a:Addr,nsIn K mainGlobals (nm st)=some (some (.ref a))∧KDict K w a (List.zipWith (fun kf f=>(kf.1,V.ref f)) (dictLit st) fs):=by
 unfold kfSeen at e
 split at e
 ·rename_i a c od es n sl h
  obtain⟨h1,h2⟩:=ref_of h
  have e:=Option.some.inj e
  simp only[Prod.mk.injEq] at e
  obtain⟨rfl,rfl,rfl,e4,e5,e6⟩:=e
  exact⟨a,h1,⟨_,es,n,h2,⟨rfl,rfl,rfl⟩,rfl,kf_pairs e5 e6 hf⟩,nd,e4⟩
 ·cases e
noncomputable abbrev DsD:=Value×Option Addr×Array (Option Value)×Bool×List (Int×Option Str×Option Str)
noncomputable def kdSeen (K:Frag) (x:Str):Option DsD:=match refSeen K x with
 | some (a,⟨c,od,.dict es _,sl⟩)=>some (c,od,sl,a == sysModules,es.toList.map fun e=>(e.hash,strOf e.key,strOf e.val))
 | _=>none
noncomputable def kdWant (P:Params) (kvs:List (Str×Str)):Option DsD:=some (.type "dict",none,#[],false,kvs.map fun kv=>(PyData.keyHash P kv.1,some kv.1,some kv.2))
noncomputable abbrev Obs:=List (Option FnD)×List (Option (Value×List (Option Str)))×List (Option DiD)×List (Option DsD)×List (Option (Option Value))
noncomputable def obsK (p:Program) (A:Ask) (K:Frag):Obs :=
 (A.fns.map fun i=>fnSeen K (nm (stAt p i)),A.tups.map fun i=>tupSeen K (nm (stAt p i)),A.kfs.map fun i=>kfSeen K (nm (stAt p i)) (dictLit (stAt p i)),A.kds.map fun i=>kdSeen K (nm (stAt p i)),A.bl.map fun x=>nsIn K mainGlobals x)
noncomputable def valK (p:Program) (A:Ask) (P:Params):Obs :=
 (A.fns.map fun i=>fnWant (stAt p i),A.tups.map fun i=>tupWant (stAt p i),A.kfs.map fun i=>kfWant P (dictLit (stAt p i)),A.kds.map fun i=>kdWant P (dictLit (stAt p i)),A.bl.map fun _=>some none)
noncomputable def addrs (p:Program) (A:Ask) (h:Heap):List Addr :=
 mainGlobals :: (A.fns++A.tups++A.kfs++A.kds).flatMap fun i=>match nsIn (pick h [mainGlobals]) mainGlobals (nm (stAt p i)) with
  | some (some (.ref a))=>a :: (match h.get? a with
   | some ⟨_,_,.func fd,_⟩=>(match fd.code with | .ref c=>[c] | _=>[])
   | _=>[])
  | _=>[]
theorem map_at {α β:Type} {f g:α→β} {l:List α} (e:l.map f=l.map g) {a:α} (h:a∈l):f a=g a:=List.map_inj_left.mp e a h
section
variable {p:Program} {A:Ask} {K:Frag} {P:Params} (e:obsK p A K=valK p A P)
theorem e_fn (e:obsK p A K=valK p A P) {i:Nat} (h:i∈A.fns):fnSeen K (nm (stAt p i))=fnWant (stAt p i):=map_at (f:=fun i=>fnSeen K (nm (stAt p i))) (g:=fun i=>fnWant (stAt p i)) (Prod.mk.inj e).1 h
theorem e_tup (e:obsK p A K=valK p A P) {i:Nat} (h:i∈A.tups):tupSeen K (nm (stAt p i))=tupWant (stAt p i):=map_at (f:=fun i=>tupSeen K (nm (stAt p i))) (g:=fun i=>tupWant (stAt p i)) (Prod.mk.inj (Prod.mk.inj e).2).1 h
theorem e_kf (e:obsK p A K=valK p A P) {i:Nat} (h:i∈A.kfs):kfSeen K (nm (stAt p i)) (dictLit (stAt p i))=kfWant P (dictLit (stAt p i)) :=
 map_at (f:=fun i=>kfSeen K (nm (stAt p i)) (dictLit (stAt p i))) (g:=fun i=>kfWant P (dictLit (stAt p i))) (Prod.mk.inj (Prod.mk.inj (Prod.mk.inj e).2).2).1 h
theorem e_bl (e:obsK p A K=valK p A P) {x:Str} (h:x∈A.bl):nsIn K mainGlobals x=some none :=
 map_at (f:=fun x=>nsIn K mainGlobals x) (g:=fun _=>some none) (Prod.mk.inj (Prod.mk.inj (Prod.mk.inj (Prod.mk.inj e).2).2).2).2 h
end
end Hd
namespace Hd
open PySem PySem.W PySem.Calls PySem.Spec PyProof.Rows L2
noncomputable def posOf:Stmt→Pos
 | .FunctionDef _ _ _ _ _ _ _ _ _ p=>p
 | _=>⟨0,0,0,0⟩
noncomputable def FnF (K:Frag) (x:Str) (st:Stmt):Prop:=∃ (f:Addr) (oc:Value) (od:Option Addr) (sl:Array (Option Value)) (kV dc pm:Value) (an:Option Addr) (cd ct:Value),
 nsIn K mainGlobals x=some (some (.ref f))∧K.lookup f=some ⟨oc,od,.func (fnOf x x (defArgs st) (defBody st) (defScope st) .none kV dc pm an cd ct),sl⟩∧codeIn K cd x=true∧keepIn K (.ref f)=true
theorem fn_ofx {K:Frag} {x:Str} {st:Stmt} (hx:nm st=x) (e:fnSeen K (nm st)=fnWant st):FnF K x st:=hx▸fn_of e
noncomputable def FunF (K:Frag) (x:Str) (st:Stmt):Prop:=∃ (f:Addr) (fd:FuncData),nsIn K mainGlobals x=some (some (.ref f))∧Fun K x x st f fd
theorem fun_ofx {K:Frag} {x:Str} {st:Stmt} (hx:nm st=x) (e:fnSeen K (nm st)=fnWant st):FunF K x st:=by
 obtain⟨f,oc,od,sl,kV,dc,pm,an,cd,ct,a,l,c,k⟩:=fn_ofx hx e
 exact⟨f,_,a,fun_mk l c k⟩
noncomputable def TupF (K:Frag) (x:Str) (l:List Str):Prop:=∃ a:Addr,nsIn K mainGlobals x=some (some (.ref a))∧∀ H,SqT K H a (l.map V.str)
theorem tup_ofx {K:Frag} {x:Str} {st:Stmt} {l:List Str} (hx:nm st=x) (hl:tupLit st=l) (hz:l.length≤sizeLine) (e:tupSeen K (nm st)=tupWant st):TupF K x l:=by
 subst hx hl
 exact tup_of e hz
noncomputable def KfF (K:Frag) (w:World) (x:Str) (l:List (Str×V)):Prop:=∃ a:Addr,nsIn K mainGlobals x=some (some (.ref a))∧KDict K w a l
theorem kf_ofx {K:Frag} {w:World} {x:Str} {st:Stmt} {l:List (Str×Str)} (fs:List Addr) (hx:nm st=x) (hl:dictLit st=l) (hf:Paired (fun (kf:Str×Str) (f:Addr)=>nsIn K mainGlobals kf.2=some (some (.ref f))) l fs)
  (nd:((List.zipWith (fun kf f=>(kf.1,V.ref f)) l fs).map (·.1)).Nodup) (e:kfSeen K (nm st) (dictLit st)=kfWant w.params (dictLit st)):KfF K w x (List.zipWith (fun kf f=>(kf.1,V.ref f)) l fs):=by
 subst hx hl
 exact kf_of e fs hf nd
end Hd
namespace L2
open PySem PySem.Spec PyProof.Rows Ken
end L2
namespace L2
open PySem PySem.Spec PyProof.Rows Ken
end L2
namespace L2
open PySem PySem.Spec PyProof.Rows
end L2
namespace L2
open PySem PySem.Spec PyProof.Rows
end L2
namespace L2
open PySem PySem.Spec PyProof.Rows Ken
end L2
namespace L2
open PySem PySem.Spec PyProof.Rows Ken
end L2
namespace L2
open PySem PySem.Spec PyProof.Rows Ken
theorem cxOf_prog (CX:CXT) (P:Program) (w:World) (K:PySem.W.Frag) (mg:Str→Option Value) (base:Heap) (N:List Str) (qual:Str) (scope:Scope) (f:Addr) (cd:Value) (A:Around) (outer:List Env) (s:Shared) (H:Hp) (E:XK):(cxOf CX P w K mg base N qual scope f cd A outer s H E).prog=P:=rfl
theorem cxOf_w (CX:CXT) (P:Program) (w:World) (K:PySem.W.Frag) (mg:Str→Option Value) (base:Heap) (N:List Str) (qual:Str) (scope:Scope) (f:Addr) (cd:Value) (A:Around) (outer:List Env) (s:Shared) (H:Hp) (E:XK):(cxOf CX P w K mg base N qual scope f cd A outer s H E).w=w:=rfl
theorem blk_prog (X:Cx) (N':List Str) (scope:Scope) (cl:List (Str×Addr)) (s:Shared) (H:Hp) (C:Addr) (ex:List Addr):(blk X N' scope cl s H C ex).prog=X.prog:=rfl
theorem blk_w (X:Cx) (N':List Str) (scope:Scope) (cl:List (Str×Addr)) (s:Shared) (H:Hp) (C:Addr) (ex:List Addr):(blk X N' scope cl s H C ex).w=X.w:=rfl
end L2
namespace Ken
open PySem L2 PyProof.Rows
end Ken
namespace L2
open PySem PySem.Spec PyProof.Rows Ken
end L2
namespace L2
open PySem PySem.Spec PyProof.Rows Ken
end L2
namespace L2
open PySem PySem.Spec PyProof.Rows
end L2
namespace L2
open PySem PySem.Spec PyProof.Rows
end L2
namespace L2
open PySem PySem.Spec PyProof.Rows
end L2
namespace L2
open PySem PySem.Spec PyProof.Rows
end L2
namespace L2
open PySem PySem.Spec PyProof.Rows PySem.W
end L2
namespace L2
open PySem PySem.Spec PyProof.Rows PySem.W
end L2
namespace L2
open PySem PySem.Spec PyProof.Rows
section
variable {X:Cx}
theorem nox_K (X:Cx):X.nox.K=X.K:=rfl
theorem cxOf_K1 (CX:CXT) (P:Program) (w:World) (K:PySem.W.Frag) (mg:Str→Option Value) (base:Heap) (N:List Str) (qual:Str) (scope:Scope) (f:Addr) (cd:Value) (A:Around) (outer:List Env) (s:Shared) (H:Hp) (E:XK):(cxOf CX P w K mg base N qual scope f cd A outer s H E).K=K:=rfl
end
end L2
namespace Ken
open PySem
end Ken
namespace L2
open PySem PySem.Spec PyProof.Rows PySem.W
end L2
namespace L2
open PySem PySem.Spec PyProof.Rows PySem.W
end L2
namespace L2
open PySem PySem.Spec PyProof.Rows PySem.W
end L2
namespace L2
open PySem PySem.Spec PyProof.Rows Ken
end L2
namespace L2
open PySem PySem.Spec PyProof.Rows
end L2
namespace Hd
open PySem PySem.W PySem.Calls PySem.Spec PyProof.Rows L2
end Hd
namespace Hd
open PySem PySem.W PySem.Calls PySem.Spec PyProof.Rows L2
end Hd
namespace L2
open PySem PySem.Spec PyProof.Rows
structure Df (K:PySem.W.Frag) (mg:Str→Option Value) (x:Str) (st:Stmt) (ps:List Str):Prop where
 ex:∃ (f:Addr) (fd:FuncData),mg x=some (.ref f)∧Fun K x x st f fd∧PySem.W.keepIn K (.ref f)=true∧Binds K fd ps []
end L2
namespace Hd
open PySem PySem.W PySem.Calls PySem.Spec PyProof.Rows L2
section
variable {p:Program} {A:Ask} {K:Frag} {P:Params} {h:Heap} {mg:Str→Option Value} {x a b c d e f g:Str}
theorem df {ps:List Str} (X:K.In h) (G:h.Ns mainGlobals mg) (E:obsK p A K=valK p A P) (i:Nat) (hx:nm (stAt p i)=x) (hi:i∈A.fns)
  (hb:∀ kV dc pm an cd ct (us:List Value),us.length=ps.length→bindArgs (fnOf x x (defArgs (stAt p i)) (defBody (stAt p i)) (defScope (stAt p i)) .none kV dc pm an cd ct) ⟨us,[]⟩=pure (ps.zip us)):Df K mg x (stAt p i) ps:=by
 obtain⟨f,fd,a,F⟩:=fun_ofx hx (e_fn E hi)
 exact⟨⟨f,fd,mg_of X G a,F,F.kp,F.binds hb⟩⟩
theorem nsx {f:Addr} (X:K.In h) (G:h.Ns mainGlobals mg) (E:obsK p A K=valK p A P) (i:Nat) (m:mg x=some (.ref f)) (hx:nm (stAt p i)=x:=by kernel_rfl) (hi:i∈A.fns:=by decide):nsIn K mainGlobals x=some (some (.ref f)):=by
 obtain⟨f',fd,a,F⟩:=fun_ofx hx (e_fn E hi)
 have e:=(mg_of X G a).symm.trans m
 cases e
 exact a
theorem df1 (X:K.In h) (G:h.Ns mainGlobals mg) (E:obsK p A K=valK p A P) (i:Nat) (hx:nm (stAt p i)=x:=by kernel_rfl) (hi:i∈A.fns:=by decide)
  (hb:∀ kV dc pm an cd ct u1,bindArgs (fnOf x x (defArgs (stAt p i)) (defBody (stAt p i)) (defScope (stAt p i)) .none kV dc pm an cd ct) ⟨[u1],[]⟩=pure [(a,u1)]:=by intros;rfl):Df K mg x (stAt p i) [a] :=
 df X G E i hx hi fun kV dc pm an cd ct us hl=>match us,hl with | [u],_=>hb kV dc pm an cd ct u
theorem df2 (X:K.In h) (G:h.Ns mainGlobals mg) (E:obsK p A K=valK p A P) (i:Nat) (hx:nm (stAt p i)=x:=by kernel_rfl) (hi:i∈A.fns:=by decide)
  (hb:∀ kV dc pm an cd ct u1 u2,bindArgs (fnOf x x (defArgs (stAt p i)) (defBody (stAt p i)) (defScope (stAt p i)) .none kV dc pm an cd ct) ⟨[u1,u2],[]⟩=pure [(a,u1),(b,u2)]:=by intros;rfl):Df K mg x (stAt p i) [a,b] :=
 df X G E i hx hi fun kV dc pm an cd ct us hl=>match us,hl with | [u,v],_=>hb kV dc pm an cd ct u v
theorem df3 (X:K.In h) (G:h.Ns mainGlobals mg) (E:obsK p A K=valK p A P) (i:Nat) (hx:nm (stAt p i)=x:=by kernel_rfl) (hi:i∈A.fns:=by decide)
  (hb:∀ kV dc pm an cd ct u1 u2 u3,bindArgs (fnOf x x (defArgs (stAt p i)) (defBody (stAt p i)) (defScope (stAt p i)) .none kV dc pm an cd ct) ⟨[u1,u2,u3],[]⟩=pure [(a,u1),(b,u2),(c,u3)]:=by intros;rfl):Df K mg x (stAt p i) [a,b,c] :=
 df X G E i hx hi fun kV dc pm an cd ct us hl=>match us,hl with | [u,v,w],_=>hb kV dc pm an cd ct u v w
theorem df4 (X:K.In h) (G:h.Ns mainGlobals mg) (E:obsK p A K=valK p A P) (i:Nat) (hx:nm (stAt p i)=x:=by kernel_rfl) (hi:i∈A.fns:=by decide)
  (hb:∀ kV dc pm an cd ct u1 u2 u3 u4,bindArgs (fnOf x x (defArgs (stAt p i)) (defBody (stAt p i)) (defScope (stAt p i)) .none kV dc pm an cd ct) ⟨[u1,u2,u3,u4],[]⟩=pure [(a,u1),(b,u2),(c,u3),(d,u4)]:=by intros;rfl):Df K mg x (stAt p i) [a,b,c,d] :=
 df X G E i hx hi fun kV dc pm an cd ct us hl=>match us,hl with | [u,v,w,y],_=>hb kV dc pm an cd ct u v w y
theorem df6 (X:K.In h) (G:h.Ns mainGlobals mg) (E:obsK p A K=valK p A P) (i:Nat) (hx:nm (stAt p i)=x:=by kernel_rfl) (hi:i∈A.fns:=by decide)
  (hb:∀ kV dc pm an cd ct u1 u2 u3 u4 u5 u6,bindArgs (fnOf x x (defArgs (stAt p i)) (defBody (stAt p i)) (defScope (stAt p i)) .none kV dc pm an cd ct) ⟨[u1,u2,u3,u4,u5,u6],[]⟩=pure [(a,u1),(b,u2),(c,u3),(d,u4),(e,u5),(f,u6)]:=by intros;rfl):Df K mg x (stAt p i) [a,b,c,d,e,f] :=
 df X G E i hx hi fun kV dc pm an cd ct us hl=>match us,hl with | [u,v,w,y,z,q],_=>hb kV dc pm an cd ct u v w y z q
end
end Hd
namespace Hd
open PySem PySem.W PySem.Calls PySem.Spec PyProof.Rows L2
noncomputable def codeRef (K:Frag):Value→Option (Addr×Obj)
 | .ref c=>(K.lookup c).map fun o=>(c,o)
 | _=>none
noncomputable def codeAt (K:Frag) (x:Str):Option (Addr×Obj):=match refSeen K x with
 | some (_,⟨_,_,.func fd,_⟩)=>codeRef K fd.code
 | _=>none
noncomputable def tabV:Option Value→Addr
 | some (.ref T)=>T
 | _=>0
noncomputable def tabOf:Option (Addr×Obj)→Addr
 | some (_,⟨_,_,.fields vs,_⟩)=>tabV vs[11]?
 | _=>0
noncomputable def tabAt (K:Frag) (x:Str):Addr:=tabOf (codeAt K x)
noncomputable def fieldsOk (c:Addr) (vs:Array Value):Bool:=match (vs[11]?:Option Value),vs.getD 11 .none,vs.getD 18 .none,vs.getD 7 .none,vs.getD 9 .none,vs.getD 10 .none with
 | some (.ref T),.ref T',.str _ _,.int _ _,.bool _,.int _ _=>T == T'&&c != T&&mainGlobals != T
 | _,_,_,_,_,_=>false
noncomputable def codeOk (K:Frag) (x:Str):Bool:=(match codeAt K x with
 | some (c,⟨cl,_,.fields vs,_⟩)=>cl == .type "code"&&fieldsOk c vs
 | _=>false)&&(K.lookup (tabAt K x)).isNone
theorem refSeen_eq {K:Frag} {x:Str} {f:Addr} {o:Obj} (a:nsIn K mainGlobals x=some (some (.ref f))) (l:K.lookup f=some o):refSeen K x=some (f,o):=by
 unfold refSeen
 rw[a]
 dsimp only
 rw[l]
 rfl
noncomputable def FunTF (K:Frag) (x:Str) (st:Stmt) (T:Addr):Prop:=∃ (f:Addr) (fd:FuncData),nsIn K mainGlobals x=some (some (.ref f))∧FunT K x x st f fd T∧Fun K x x st f fd∧mainGlobals≠T∧K.lookup T=none∧∀ h,K.In h→isCodeTable h T
theorem funT_of {K:Frag} {st:Stmt} (e:fnSeen K (nm st)=fnWant st) (h:codeOk K (nm st)=true):FunTF K (nm st) st (tabAt K (nm st)):=by
 obtain⟨f,oc,od,sl,kV,dc,pm,an,cd,ct,a,l,c,k⟩:=fn_of e
 have r:=refSeen_eq a l
 have q:codeAt K (nm st)=codeRef K cd:=by
  unfold codeAt
  rw[r]
 unfold codeOk at h
 rw[Bool.and_eq_true] at h
 obtain⟨h,hn⟩:=h
 have hn:=Option.isNone_iff_eq_none.mp hn
 split at h
 ·rename_i cc cl od2 vs sl2 hc
  have ht:tabAt K (nm st)=tabV vs[11]?:=by
   unfold tabAt
   rw[hc]
   rfl
  rw[Bool.and_eq_true] at h
  obtain⟨hcl,hf⟩:=h
  have hcl:=eq_of_beq hcl
  subst hcl
  unfold fieldsOk at hf
  split at hf
  ·rename_i T T' s1 s2 i1 i2 b1 j1 j2 g1 g2 g3 g4 g5 g6
   simp only[Bool.and_eq_true] at hf
   obtain⟨⟨f1,f2⟩,f3⟩:=hf
   have f1:=eq_of_beq f1
   have f2:cc≠T:=fun z=>by rw[z] at f2;simp at f2
   have f3:mainGlobals≠T:=fun z=>by rw[← z] at f3;simp at f3
   subst f1
   have ht:tabAt K (nm st)=T:=by rw[ht,g1];rfl
   rw[ht] at hn ⊢
   cases cd with
   | ref c0 =>
    rw[hc] at q
    obtain⟨o,e1,e2⟩:=Option.map_eq_some_iff.mp (show (K.lookup c0).map (fun o=>(c0,o))=_ from q.symm)
    cases e2
    have hC:∀ h,K.In h→CodeHd h cc T:=fun h kx=>codeHd_of e1 ⟨g1,g2,⟨_,_,g3⟩,⟨_,_,g4⟩,⟨_,g5⟩,⟨_,_,g6⟩⟩ f2 h kx
    exact⟨f,_,a,funT_mk l c k hC,fun_mk l c k,f3,hn,fun h kx=>⟨cc,_,vs,kx _ _ e1,rfl,rfl,g1⟩⟩
   | _=>exact absurd (hc.symm.trans q) (by intro z;cases z)
  ·cases hf
 ·cases h
theorem funT_ofx {K:Frag} {x:Str} {st:Stmt} (hx:nm st=x) (e:fnSeen K (nm st)=fnWant st) (h:codeOk K (nm st)=true):FunTF K x st (tabAt K x):=hx▸funT_of e h
noncomputable def emptyTab (o:Option Obj):Bool:=match o with
 | some ⟨.none,none,.fields vs,sl⟩=>vs.size == 0&&sl.size == 0
 | _=>false
theorem emptyTab_of {o:Option Obj} (h:emptyTab o=true):o=some (tabObj #[]):=by
 unfold emptyTab at h
 split at h
 ·rename_i vs sl
  rw[Bool.and_eq_true] at h
  have h1:vs=#[]:=Array.size_eq_zero_iff.mp (by simpa using h.1)
  have h2:sl=#[]:=Array.size_eq_zero_iff.mp (by simpa using h.2)
  rw[h1,h2]
 ·cases h
noncomputable def bltOk (K:Frag):Bool:=match nsIn K mainGlobals (Str.ofString "__builtins__") with
 | some (some (.ref b))=>(K.lookup b).isSome
 | _=>false
noncomputable def tabs (p:Program) (TA:List Nat) (K:Frag):List Addr:=TA.map fun i=>tabAt K (nm (stAt p i))
noncomputable def codesOk (p:Program) (TA:List Nat) (K:Frag):Bool:=(TA.all fun i=>codeOk K (nm (stAt p i)))&&bltOk K
noncomputable def tabsOk (p:Program) (TA:List Nat) (h:Heap) (K:Frag):Bool:=(tabs p TA K).all fun T=>emptyTab (h.get? T)
theorem t_code {p:Program} {TA:List Nat} {K:Frag} (h:codesOk p TA K=true) {i:Nat} (hi:i∈TA):codeOk K (nm (stAt p i))=true:=by
 unfold codesOk at h
 rw[Bool.and_eq_true] at h
 exact List.all_eq_true.mp h.1 i hi
end Hd
namespace Hd
open PySem PySem.W PySem.Calls PySem.Spec PyProof.Rows L2
noncomputable def addrs5 (p:Program) (A:Ask) (h:Heap):List Addr :=
 addrs p A h++(match nsIn (pick h [mainGlobals]) mainGlobals (Str.ofString "__builtins__") with
  | some (some (.ref b))=>[b]
  | _=>[])
noncomputable def obs5 (p:Program) (A:Ask) (TA:List Nat) (s:Shared):Obs×Bool×Bool :=
 (obsK p A (pick s.heap (addrs5 p A s.heap)),codesOk p TA (pick s.heap (addrs5 p A s.heap)),tabsOk p TA s.heap (pick s.heap (addrs5 p A s.heap)))
noncomputable def val5 (p:Program) (A:Ask) (w:World):Obs×Bool×Bool:=(valK p A w.params,true,true)
noncomputable def hook5 (p:Program) (A:Ask) (TA:List Nat):Hook :=
 ⟨Obs×Bool×Bool,obs5 p A TA,val5 p A,fun w h=>∃ K:Frag,K.In h∧obsK p A K=valK p A w.params∧codesOk p TA K=true∧∀ T∈tabs p TA K,h.get? T=some (tabObj #[]),
  fun w s e=>by
   obtain⟨e1,e2⟩:=Prod.mk.inj e
   obtain⟨e2,e3⟩:=Prod.mk.inj e2
   refine⟨_,pick_in _ _,e1,e2,fun T hT=>?_⟩
   exact emptyTab_of (List.all_eq_true.mp e3 T hT),
  fun w h h' x k=>by
   obtain⟨K,i,e,c,t⟩:=x
   exact⟨K,fun a o z=>k _ _ (i a o z),e,c,fun T hT=>k _ _ (t T hT)⟩⟩
theorem walkH5 {l:OpenLaw} {n k:Nat} {q p:Program} {A:Ask} {TA:List Nat} {loose:List Str} {XP:(Str→Option Value)→Heap→Prop} {d:DefRec} {CX:CXT} {sp:Frag→List Addr→Sp} {x:Str}
  (hn:l.most=some n) (hn2:n≤sizeLine) (hdf:d.params.defaults=[]) (hr:Room k callerA) (hTA:∀ i∈TA,i∈A.fns)
  (F:∀ (w:World) (mg:Str→Option Value) (fa:Addr) (h:Heap) (K:Frag) (bm:Addr),K.In h→h.Ns mainGlobals mg→mg d.name=some (.ref fa)→obsK p A K=valK p A w.params→codesOk p TA K=true→BltK K mg bm→(∀ T∈tabs p TA K,bm≠T) →
   ∃ fd:FuncData,(∀ (s:Shared) (u:Value),BindsTo s fd ⟨[u],[]⟩ [(x,u)])∧∀ base:Heap,K.In base→base.Ns mainGlobals mg→FnOk l.prog w K mg base CX k fa fd [x] (sp K (tabs p TA K)))
  (hsp:∀ (K:Frag) (ts:List Addr) (H:Hp) (a:Addr) (ns:List Int),ns.length≤n→ts.length=TA.length→(∀ T∈ts,H T=some (.tbl #[]))→SqL K H a (ns.map V.int)→sp K ts [.ref a] H (fun v _=>v=.bl true) fun _ _ _=>False)
  (hCX:∀ (H:Hp) (s:Shared) (e:Value) (s':Shared),CX [] H s (fun _ _ _=>False) e s'→False) :
  WalkO q loose XP (hook5 p A TA).says l.row.toRowW d [] (fun f vs=>PySem.call f vs) :=
 Att.attach_call hn hdf fun w s₀ s₁ mg mb fa o pm cd doc a vs ns G Y ho hd hcd hmg hobj hints hlen hg=>by
  obtain⟨K,KX,E,hc,TX⟩:=Y
  obtain⟨bm,ob,b1,b2,b3,b4,b5,b6⟩:=G.T.bmain
  have hblt:K.lookup bm=some ob:=by
   have hb:=hc
   unfold codesOk at hb
   rw[Bool.and_eq_true] at hb
   have hb:=hb.2
   unfold bltOk at hb
   split at hb
   ·rename_i b e
    have e1:=(mg_of KX G.T.g e).symm.trans b1
    cases e1
    obtain⟨o',e2⟩:=Option.isSome_iff_exists.mp hb
    have e3:=KX _ _ e2
    rw[b3] at e3
    cases e3
    exact e2
   ·cases hb
  have nT:∀ T∈tabs p TA K,bm≠T:=fun T hT z=>by
   have:=TX T hT
   rw[← z,b3] at this
   cases this
   cases b4
  have nM:bm≠mainGlobals:=fun z=>by
   obtain⟨o',es,ep,e,d',_⟩:=G.T.g
   rw[← z,b3] at e
   cases e
   rw[b6] at d'
   cases d'
  have fact:∀ T∈tabs p TA K,K.lookup T=none∧isCodeTable s₁.heap T:=fun T hT=>by
   obtain⟨i,hi,rfl⟩:=List.mem_map.mp hT
   obtain⟨_,_,_,_,_,_,h1,h2⟩:=funT_of (e_fn E (hTA i hi)) (t_code hc hi)
   exact⟨h1,h2 _ KX⟩
  obtain⟨fd,hb,hF⟩:=F w mg fa _ K bm KX G.T.g hmg E hc ⟨b1,⟨ob,hblt,b4,b5,b6⟩,b2,nM⟩ nT
  exact law_callT KX G.T.g G.T.b G.T.builtins G.T.nolimit hg hobj hints (Nat.le_trans hlen hn2) hr TX (fun T hT=>(fact T hT).1) (fun T hT=>(fact T hT).2) hF hb
   (fun H hO hS=>hsp K _ H a ns hlen (by simp[tabs]) hO hS) fun H e s'=>hCX H s₁ e s'
theorem obs5_self:@obs5=@obs5:=rfl
theorem val5_self:@val5=@val5:=rfl
end Hd
name_quick hdObs5 for Hd.obs5 by Hd.obs5_self
name_quick hdVal5 for Hd.val5 by Hd.val5_self
namespace Ken
open PySem L2
structure WkOrd (n:Nat) (lt:Nat→Nat→Bool):Prop where
 ntrans:∀ a b c,a < n→b < n→c < n→lt b a=false→lt c b=false→lt c a=false
 asym:∀ a b,a < n→b < n→lt a b=true→lt b a=false
section
variable {n:Nat} {lt:Nat→Nat→Bool} {cmp:Nat→Nat→(Bool→Shared→Prop)→Shared→Prop} {S:Shared→Prop}
noncomputable def WA (lt:Nat→Nat→Bool) (p:Array Nat) (m:Nat):Prop:=∀ i j,i < j→j < m→lt (gd p j) (gd p i)=false
noncomputable def WD (lt:Nat→Nat→Bool) (p:Array Nat) (m:Nat):Prop:=∀ i j,i < j→j < m→lt (gd p i) (gd p j)=false
noncomputable def EqS (lt:Nat→Nat→Bool) (p:Array Nat) (a b:Nat):Prop:=∀ i j,a≤i→i < b→a≤j→j < b→lt (gd p i) (gd p j)=false
theorem irr (O:WkOrd n lt) {a:Nat} (h:a < n):lt a a=false:=by
 cases e:lt a a with
 | false=>rfl
 | true=>have:=O.asym a a h h e;rw[e] at this;exact this
theorem wa_succ (O:WkOrd n lt) {p:Array Nat} (P:PermOk n p) {m:Nat} (h:WA lt p m) (h1:1≤m) (hm:m < n) (hl:lt (gd p m) (gd p (m - 1))=false):WA lt p (m+1):=by
 intro i j hij hj
 by_cases e:j=m
 ·subst e
  by_cases e2:i=j - 1
  ·subst e2;exact hl
  ·exact O.ntrans _ _ _ (P.low _ (by omega)) (P.low _ (by omega)) (P.low _ hm) (h i (j - 1) (by omega) (by omega)) hl
 ·exact h i j hij (by omega)
theorem wd_succ (O:WkOrd n lt) {p:Array Nat} (P:PermOk n p) {m:Nat} (h:WD lt p m) (h1:1≤m) (hm:m < n) (hl:lt (gd p (m - 1)) (gd p m)=false):WD lt p (m+1):=by
 intro i j hij hj
 by_cases e:j=m
 ·subst e
  by_cases e2:i=j - 1
  ·subst e2;exact hl
  ·exact O.ntrans _ _ _ (P.low _ hm) (P.low _ (by omega)) (P.low _ (by omega)) hl (h i (j - 1) (by omega) (by omega))
 ·exact h i j hij (by omega)
theorem wp_wasc (O:WkOrd n lt) (A:Asks n lt S cmp) {p:Array Nat} (P:PermOk n p) {Q:Nat→Shared→Prop}:∀ (f x:Nat) (s:Shared),1≤x→x+f≤n→WA lt p x→S s →
  (∀ m s',x≤m→m≤x+f→WA lt p m→(m=x+f∨(m < n∧lt (gd p m) (gd p (m - 1))=true))→S s'→Q m s')→W.KasT.kasWp cmp (W.kas_asc p f x) Q s
 | 0,x,s,h1,h2,ha,hs,q=>by
  rw[W.kas_asc.eq_1,W.KasT.kasWp.eq_1]
  exact q x s (Nat.le_refl _) (Nat.le_refl _) ha (.inl rfl) hs
 | f+1,x,s,h1,h2,ha,hs,q=>by
  rw[W.kas_asc.eq_2,W.KasT.kasWp.eq_2]
  have hne:gd p x≠gd p (x - 1):=fun z=>by have:=P.inj _ _ (by omega) (by omega) z;omega
  refine A _ _ _ _ (P.low _ (by omega)) (P.low _ (by omega)) hne hs fun s' hs'=>?_
  cases e:lt (gd p x) (gd p (x - 1)) with
  | true =>
   rw[if_pos rfl,W.KasT.kasWp.eq_1]
   exact q x s' (Nat.le_refl _) (by omega) ha (.inr ⟨by omega,e⟩) hs'
  | false =>
   rw[if_neg Bool.false_ne_true]
   refine wp_wasc O A P f (x+1) s' (by omega) (by omega) (wa_succ O P ha h1 (by omega) e) hs' fun m s2 g1 g2 g3 g4 g5=>q m s2 (by omega) (by omega) g3 ?_ g5
   rcases g4 with g4 | g4
   ·exact .inl (by omega)
   ·exact .inr g4
theorem revG_get {p:Array Nat} {a b k:Nat} (hb:b≤p.size):gd (W.kas_rev p a b) k=if a≤k∧k < b then gd p (a+b - 1 - k) else gd p k:=by
 have h:=PyProof.Rows.getElem?_mirror_all (xs:=p) (i:=a) (j:=b) hb k
 unfold W.kas_rev
 by_cases hk:a≤k∧k < b
 ·rw[if_pos hk] at h
  rw[if_pos hk]
  simp only[gd,Array.getD_eq_getD_getElem?,h]
 ·rw[if_neg hk] at h
  rw[if_neg hk]
  simp only[gd,Array.getD_eq_getD_getElem?,h]
theorem seg_rev {p:Array Nat} {a b m:Nat} (hb:b≤p.size) (hbm:b≤m) (h:WD lt p m) (hE:EqS lt p a b):WD lt (W.kas_rev p a b) m:=by
 intro i j hij hj
 rw[revG_get hb,revG_get hb]
 by_cases ci:a≤i∧i < b
 ·rw[if_pos ci]
  by_cases cj:a≤j∧j < b
  ·rw[if_pos cj]
   exact hE _ _ (by omega) (by omega) (by omega) (by omega)
  ·rw[if_neg cj]
   exact h _ _ (by omega) hj
 ·rw[if_neg ci]
  by_cases cj:a≤j∧j < b
  ·rw[if_pos cj]
   exact h _ _ (by omega) (by omega)
  ·rw[if_neg cj]
   exact h _ _ hij hj
theorem rev_wa {p:Array Nat} {m:Nat} (hm:m≤p.size) (h:WD lt p m):WA lt (W.kas_rev p 0 m) m:=by
 intro i j hij hj
 rw[rev_get hm,rev_get hm,if_pos hj,if_pos (by omega)]
 exact h _ _ (by omega) (by omega)
theorem eq_succ (O:WkOrd n lt) {p:Array Nat} (P:PermOk n p) {a x:Nat} (ha:a < x) (hx:x < n) (hE:EqS lt p a x) (h1:lt (gd p x) (gd p (x - 1))=false) (h2:lt (gd p (x - 1)) (gd p x)=false):EqS lt p a (x+1):=by
 intro i j i1 i2 j1 j2
 by_cases ei:i=x
 ·by_cases ej:j=x
  ·rw[ei,ej];exact irr O (P.low _ hx)
  ·rw[ei]
   by_cases e3:j=x - 1
   ·rw[e3];exact h1
   ·exact O.ntrans _ _ _ (P.low _ (by omega)) (P.low _ (by omega)) (P.low _ hx) (hE (x - 1) j (by omega) (by omega) j1 (by omega)) h1
 ·by_cases ej:j=x
  ·rw[ej]
   by_cases e3:i=x - 1
   ·rw[e3];exact h2
   ·exact O.ntrans _ _ _ (P.low _ hx) (P.low _ (by omega)) (P.low _ (by omega)) h2 (hE i (x - 1) i1 (by omega) (by omega) (by omega))
  ·exact hE i j i1 (by omega) j1 (by omega)
theorem wp_wdesc (O:WkOrd n lt) (A:Asks n lt S cmp) {Q:Array Nat×Nat×Nat→Shared→Prop}:∀ (f:Nat) (p:Array Nat) (x e:Nat) (s:Shared),p.Perm (List.range n).toArray→e+1≤x→x+f≤n→WD lt p x→EqS lt p (x - (e+1)) x→S s →
  (∀ p' m e' s',p'.Perm (List.range n).toArray→x≤m→m≤x+f→e'+1≤m→WD lt p' m→EqS lt p' (m - (e'+1)) m→S s'→Q (p',m,e') s')→W.KasT.kasWp cmp (W.kas_desc f p x e) Q s
 | 0,p,x,e,s,hp,h1,h2,hd,hE,hs,q=>by
  rw[W.kas_desc.eq_1,W.KasT.kasWp.eq_1]
  exact q p x e s hp (Nat.le_refl _) (Nat.le_refl _) h1 hd hE hs
 | f+1,p,x,e,s,hp,h1,h2,hd,hE,hs,q=>by
  have P:=permOk_of hp
  rw[W.kas_desc.eq_2,W.KasT.kasWp.eq_2]
  have hne:gd p x≠gd p (x - 1):=fun z=>by have:=P.inj _ _ (by omega) (by omega) z;omega
  refine A _ _ _ _ (P.low _ (by omega)) (P.low _ (by omega)) hne hs fun s' hs'=>?_
  have one:∀ p':Array Nat,PermOk n p'→EqS lt p' (x+1 - (0+1)) (x+1):=fun p' P' i j i1 i2 j1 j2=>by
   have:i=j:=by omega
   rw[this];exact irr O (P'.low _ (by omega))
  cases ec:lt (gd p x) (gd p (x - 1)) with
  | true =>
   rw[if_pos rfl]
   have hd1:=wd_succ O P hd (by omega) (by omega) (O.asym _ _ (P.low _ (by omega)) (P.low _ (by omega)) ec)
   by_cases he:e > 0
   ·rw[if_pos he]
    have hp2:(W.kas_rev p (x - (e+1)) x).Perm (List.range n).toArray:=(PyProof.Rows.mirror_perm _ _ _ _).trans hp
    refine wp_wdesc O A f _ (x+1) 0 s' hp2 (by omega) (by omega) (seg_rev (by rw[P.size];omega) (by omega) hd1 hE) (one _ (permOk_of hp2)) hs' fun p' m e' s2 g0 g1 g2 g3 g4 g5 g6=>q p' m e' s2 g0 (by omega) (by omega) g3 g4 g5 g6
   ·rw[if_neg he]
    refine wp_wdesc O A f p (x+1) 0 s' hp (by omega) (by omega) hd1 (one _ P) hs' fun p' m e' s2 g0 g1 g2 g3 g4 g5 g6=>q p' m e' s2 g0 (by omega) (by omega) g3 g4 g5 g6
  | false =>
   rw[if_neg Bool.false_ne_true,W.KasT.kasWp.eq_2]
   refine A _ _ _ _ (P.low _ (by omega)) (P.low _ (by omega)) (Ne.symm hne) hs' fun s2 hs2=>?_
   cases ed:lt (gd p (x - 1)) (gd p x) with
   | true =>
    rw[if_pos rfl,W.KasT.kasWp.eq_1]
    exact q p x e s2 hp (Nat.le_refl _) (by omega) h1 hd hE hs2
   | false =>
    rw[if_neg Bool.false_ne_true]
    have hE1:=eq_succ O P (show x - (e+1) < x by omega) (by omega) hE ec ed
    refine wp_wdesc O A f p (x+1) (e+1) s2 hp (by omega) (by omega) (wd_succ O P hd (by omega) (by omega) ed) (by rw[show x+1 - (e+1+1)=x - (e+1) by omega];exact hE1) hs2 fun p' m e' s3 g0 g1 g2 g3 g4 g5 g6=>q p' m e' s3 g0 (by omega) (by omega) g3 g4 g5 g6
theorem wp_wdescPart (O:WkOrd n lt) (A:Asks n lt S cmp) {p:Array Nat} (hp:p.Perm (List.range n).toArray) {x:Nat} (h1:1≤x) (hx:x < n) (hd:WD lt p (x+1)) {Q:Nat×Array Nat→Shared→Prop} (s:Shared) (hs:S s)
  (q:∀ m p' s',1≤m→m≤n→p'.Perm (List.range n).toArray→WA lt p' m→S s'→Q (m,p') s'):W.KasT.kasWp cmp (W.kas_descPart x n p) Q s:=by
 have P:=permOk_of hp
 have tail:∀ (p2:Array Nat) (m:Nat) (s2:Shared),p2.Perm (List.range n).toArray→x+1≤m→m≤n→WD lt p2 m→S s2→W.KasT.kasWp cmp (W.kas_tail3 m n p2) Q s2:=fun p2 m s2 hp2 m1 m2 hd2 hs2=>by
  rw[W.kas_tail3.eq_1,W.KasT.kasWp_bind]
  have hp3:(W.kas_rev p2 0 m).Perm (List.range n).toArray:=(PyProof.Rows.mirror_perm _ _ _ _).trans hp2
  have P3:=permOk_of hp3
  refine wp_wasc O A P3 (n - m) m s2 (by omega) (by omega) (rev_wa (by rw[(permOk_of hp2).size];omega) hd2) hs2 fun m3 s3 j1 j2 j3 j4 j5=>?_
  rw[W.KasT.kasWp.eq_1]
  exact q m3 _ s3 (by omega) (by omega) hp3 j3 j5
 unfold W.kas_descPart
 rw[W.KasT.kasWp_bind]
 refine wp_wdesc O A (n - (x+1)) p (x+1) 0 s hp (by omega) (by omega) hd (fun i j i1 i2 j1 j2=>?_) hs fun p2 m e s2 g0 g1 g2 g3 g4 g5 g6=>?_
 ·have:i=j:=by omega
  rw[this];exact irr O (P.low _ (by omega))
 ·by_cases he:e > 0
  ·rw[if_pos (show ((p2,m,e):Array Nat×Nat×Nat).2.2 > 0 from he)]
   exact tail _ m s2 ((PyProof.Rows.mirror_perm _ _ _ _).trans g0) g1 (by omega) (seg_rev (show m≤p2.size by rw[(permOk_of g0).size];omega) (Nat.le_refl m) g4 g5) g6
  ·rw[if_neg (show ¬ ((p2,m,e):Array Nat×Nat×Nat).2.2 > 0 from he)]
   exact tail p2 m s2 g0 g1 (by omega) g4 g6
theorem wp_wcount (O:WkOrd n lt) (A:Asks n lt S cmp) {p:Array Nat} (hp:p.Perm (List.range n).toArray) (h2:2≤n) {Q:Nat×Array Nat→Shared→Prop} (s:Shared) (hs:S s)
    (q:∀ m p' s',1≤m→m≤n→p'.Perm (List.range n).toArray→WA lt p' m→S s'→Q (m,p') s'):W.KasT.kasWp cmp (W.kas_count n p) Q s:=by
  have P:=permOk_of hp
  unfold W.kas_count
  rw[W.KasT.kasWp_bind]
  refine wp_wasc O A P (n - 1) 1 s (Nat.le_refl _) (by omega) (fun i j h1 h2=>by omega) hs fun m s' g1 g2 g3 g4 g5=>?_
  by_cases e1:(m == n)=true
  · rw[if_pos e1,W.KasT.kasWp.eq_1]
    exact q m p s' g1 (by omega) hp g3 g5
  · rw[if_neg e1]
    have hmn:m < n:=by
      have:m≠n:=fun z=>e1 (by simp[z])
      omega
    have hlt:lt (gd p m) (gd p (m - 1))=true:=by
      rcases g4 with g4 | g4
      · omega
      · exact g4.2
    by_cases e2:m > 1
    · rw[if_pos e2,W.KasT.kasWp.eq_2]
      have hne:gd p 0≠gd p (m - 1):=fun z=>by have:=P.inj _ _ (by omega) (by omega) z;omega
      refine A _ _ _ _ (P.low _ (by omega)) (P.low _ (by omega)) hne g5 fun s2 hs2=>?_
      cases ec:lt (gd p 0) (gd p (m - 1)) with
      | true =>
        rw[if_pos rfl,W.KasT.kasWp.eq_1]
        exact q m p s2 g1 (by omega) hp g3 hs2
      | false =>
        rw[if_neg Bool.false_ne_true]
        have hE:EqS lt p 0 m:=fun i j i1 i2 j1 j2=>by
          rcases Nat.lt_trichotomy i j with z | z | z
          ·
            have a1:lt (gd p 0) (gd p j)=false:=by
              by_cases ej:j=m - 1
              · rw[ej];exact ec
              · exact O.ntrans _ _ _ (P.low _ (by omega)) (P.low _ (by omega)) (P.low _ (by omega)) (g3 j (m - 1) (by omega) (by omega)) ec
            by_cases ei:i=0
            · rw[ei];exact a1
            · exact O.ntrans _ _ _ (P.low _ (by omega)) (P.low _ (by omega)) (P.low _ (by omega)) a1 (by
                have b1:lt (gd p i) (gd p 0)=false:=g3 0 i (by omega) (by omega)
                exact b1)
          · rw[z];exact irr O (P.low _ (by omega))
          · exact g3 j i z i2
        have hp2:(W.kas_rev p 0 m).Perm (List.range n).toArray:=(PyProof.Rows.mirror_perm _ _ _ _).trans hp
        have P2:=permOk_of hp2
        refine wp_wdescPart O A hp2 (by omega) hmn ?_ s2 hs2 q
        intro i j hij hj
        rw[rev_get (by rw[P.size];omega),rev_get (by rw[P.size];omega),if_pos (by omega)]
        by_cases ej:j < m
        · rw[if_pos ej];exact hE _ _ (by omega) (by omega) (by omega) (by omega)
        · rw[if_neg ej]
          have:j=m:=by omega
          rw[this]
          have c1:lt (gd p (m - 1)) (gd p m)=false:=O.asym _ _ (P.low _ (by omega)) (P.low _ (by omega)) hlt
          by_cases e9:m - 1 - i=m - 1
          · rw[e9];exact c1
          · exact O.ntrans _ _ _ (P.low _ (by omega)) (P.low _ (by omega)) (P.low _ (by omega)) c1 (hE _ _ (by omega) (by omega) (by omega) (by omega))
    · rw[if_neg e2]
      have em:m=1:=by omega
      subst em
      refine wp_wdescPart O A hp (by omega) hmn ?_ s' g5 q
      intro i j hij hj
      have e3:i=0:=by omega
      have e4:j=1:=by omega
      subst e3 e4
      exact O.asym _ _ (P.low _ (by omega)) (P.low _ (by omega)) hlt
theorem wp_wplace (O:WkOrd n lt) (A:Asks n lt S cmp) {p:Array Nat} (P:PermOk n p) {k:Nat} (hk:k < n) (ha:WA lt p k) {Q:Nat→Shared→Prop}:∀ (f l r:Nat) (s:Shared),l≤r→r≤k→r - l≤f→S s →
  (∀ i,i < l→lt (gd p k) (gd p i)=false)→(∀ i,r≤i→i < k→lt (gd p i) (gd p k)=false) →
  (∀ m s',m≤k→(∀ i,i < m→lt (gd p k) (gd p i)=false)→(∀ i,m≤i→i < k→lt (gd p i) (gd p k)=false)→S s'→Q m s')→W.KasT.kasWp cmp (W.kas_place p k f l r) Q s
 | 0,l,r,s,h1,h2,h3,hs,g1,g2,q=>by
  rw[W.kas_place.eq_1,W.KasT.kasWp.eq_1]
  have:l=r:=by omega
  subst this
  exact q l s h2 g1 g2 hs
 | f+1,l,r,s,h1,h2,h3,hs,g1,g2,q=>by
  rw[W.kas_place.eq_2]
  by_cases e:l ≥ r
  ·rw[if_pos e,W.KasT.kasWp.eq_1]
   have:l=r:=by omega
   subst this
   exact q l s h2 g1 g2 hs
  ·rw[if_neg e,W.KasT.kasWp.eq_2]
   have hne:gd p k≠gd p ((l+r) / 2):=fun z=>by have:=P.inj _ _ (by omega) (by omega) z;omega
   refine A _ _ _ _ (P.low _ hk) (P.low _ (by omega)) hne hs fun s' hs'=>?_
   cases ec:lt (gd p k) (gd p ((l+r) / 2)) with
   | true =>
    rw[if_pos rfl]
    refine wp_wplace O A P hk ha f l ((l+r) / 2) s' (by omega) (by omega) (by omega) hs' g1 (fun i i1 i2=>?_) q
    have c1:=O.asym _ _ (P.low _ hk) (P.low _ (by omega)) ec
    by_cases ei:i=(l+r) / 2
    ·rw[ei];exact c1
    ·exact O.ntrans _ _ _ (P.low _ hk) (P.low _ (by omega)) (P.low _ (by omega)) c1 (ha _ _ (by omega) i2)
   | false =>
    rw[if_neg Bool.false_ne_true]
    refine wp_wplace O A P hk ha f ((l+r) / 2+1) r s' (by omega) h2 (by omega) hs' (fun i i1=>?_) g2 q
    by_cases ei:i=(l+r) / 2
    ·rw[ei];exact ec
    ·exact O.ntrans _ _ _ (P.low _ (by omega)) (P.low _ (by omega)) (P.low _ hk) (ha i _ (by omega) (by omega)) ec
theorem bub_wa {p:Array Nat} {k m:Nat} (hk:k < p.size) (hm:m≤k) (ha:WA lt p k) (g1:∀ i,i < m→lt (gd p k) (gd p i)=false) (g2:∀ i,m≤i→i < k→lt (gd p i) (gd p k)=false):WA lt (PyProof.Rows.bubble p k (k - m)) (k+1):=by
 intro i j hij hj
 rw[bub_get hk hm,bub_get hk hm]
 by_cases ei:i=m
 ·subst ei
  rw[if_pos rfl,if_neg (by omega),if_pos ⟨hij,by omega⟩]
  exact g2 _ (by omega) (by omega)
 ·rw[if_neg ei]
  by_cases ej:j=m
  ·subst ej
   rw[if_pos rfl,if_neg (by omega)]
   exact g1 _ hij
  ·rw[if_neg ej]
   by_cases c1:m < i∧i≤k
   ·rw[if_pos c1,if_pos ⟨by omega,by omega⟩]
    exact ha _ _ (by omega) (by omega)
   ·rw[if_neg c1]
    by_cases c2:m < j∧j≤k
    ·rw[if_pos c2]
     exact ha _ _ (by omega) (by omega)
    ·rw[if_neg c2]
     exact ha _ _ hij (by omega)
theorem wp_wbin (O:WkOrd n lt) (A:Asks n lt S cmp) {Q:Array Nat→Shared→Prop}:∀ (f k:Nat) (p:Array Nat) (s:Shared),k+f=n→1≤k→p.Perm (List.range n).toArray→WA lt p k→S s →
  (∀ p' s',p'.Perm (List.range n).toArray→WA lt p' n→S s'→Q p' s')→W.KasT.kasWp cmp (W.kas_bin f p k) Q s
 | 0,k,p,s,h1,h2,hp,ha,hs,q=>by
  rw[W.kas_bin.eq_1,W.KasT.kasWp.eq_1]
  have:k=n:=by omega
  subst this
  exact q p s hp ha hs
 | f+1,k,p,s,h1,h2,hp,ha,hs,q=>by
  rw[W.kas_bin.eq_2,W.KasT.kasWp_bind]
  have P:=permOk_of hp
  refine wp_wplace O A P (by omega) ha k 0 k s (Nat.zero_le _) (Nat.le_refl _) (by omega) hs (fun i hi=>by omega) (fun i i1 i2=>by omega) fun m s' hm g1 g2 hs'=>?_
  exact wp_wbin O A f (k+1) _ s' (by omega) (by omega) ((PyProof.Rows.bubble_perm _ _ _).trans hp) (bub_wa (by rw[P.size];omega) hm ha g1 g2) hs' q
theorem wp_wsort (O:WkOrd n lt) (A:Asks n lt S cmp) (h2:2≤n) {Q:Array Nat→Shared→Prop} (s:Shared) (hs:S s)
  (q:∀ p s',p.Perm (List.range n).toArray→WA lt p n→S s'→Q p s'):W.KasT.kasWp cmp (W.kas_sort n) Q s:=by
 unfold W.kas_sort
 rw[W.KasT.kasWp_bind]
 refine wp_wcount O A (Array.Perm.refl _) h2 s hs fun m p s' g1 g2 g3 g4 g5=>?_
 by_cases e:m < n
 ·rw[if_pos (show ((m,p):Nat×Array Nat).1 < n from e)]
  show W.KasT.kasWp cmp (W.kas_bin (n - max m 1) p (max m 1)) Q s'
  have em:max m 1=m:=by omega
  rw[em]
  exact wp_wbin O A (n - m) m p s' (by omega) g1 g3 g4 g5 q
 ·rw[if_neg (show ¬ ((m,p):Nat×Array Nat).1 < n from e),W.KasT.kasWp.eq_1]
  have:m=n:=by omega
  subst this
  exact q p s' g3 g4 g5
end
end Ken
namespace Ken
open PySem L2
section
variable {X:Cx} {pins:List (Addr×Obj)} {σ:St} {H:Hp} {s:Shared}
theorem isT_inj (I:Inv X pins σ H s):∀ {a b:Tm} {v:V},IsT X.K H v a→IsT X.K H v b→a=b
 | .low,b,v,h,g=>by
  obtain⟨p,rfl,hs⟩:=isT_low.mp h
  cases b with
  | low=>rfl
  | ltr w =>
   obtain⟨q,e,gs⟩:=isT_ltr.mp g
   cases e
   exact absurd (I.tuple_inj hs gs) (by simp)
  | nd k x y =>
   obtain⟨q,_,_,e,gs,_⟩:=isT_nd.mp g
   cases e
   exact absurd (I.tuple_inj hs gs) (by simp)
 | .ltr w,b,v,h,g=>by
  obtain⟨p,rfl,hs⟩:=isT_ltr.mp h
  cases b with
  | low =>
   obtain⟨q,e,gs⟩:=isT_low.mp g
   cases e
   exact absurd (I.tuple_inj hs gs) (by simp)
  | ltr w' =>
   obtain⟨q,e,gs⟩:=isT_ltr.mp g
   cases e
   have:=I.tuple_inj hs gs
   simp only[List.cons.injEq,V.str.injEq,and_true,true_and] at this
   rw[this]
  | nd k x y =>
   obtain⟨q,_,_,e,gs,_⟩:=isT_nd.mp g
   cases e
   exact absurd (I.tuple_inj hs gs) (by simp)
 | .nd k x y,b,v,h,g=>by
  obtain⟨p,vx,vy,rfl,hs,hx,hy⟩:=isT_nd.mp h
  cases b with
  | low =>
   obtain⟨q,e,gs⟩:=isT_low.mp g
   cases e
   exact absurd (I.tuple_inj hs gs) (by simp)
  | ltr w' =>
   obtain⟨q,e,gs⟩:=isT_ltr.mp g
   cases e
   exact absurd (I.tuple_inj hs gs) (by simp)
  | nd k' x' y' =>
   obtain⟨q,_,_,e,gs,gx,gy⟩:=isT_nd.mp g
   cases e
   have:=I.tuple_inj hs gs
   simp only[List.cons.injEq,V.str.injEq,and_true] at this
   obtain⟨e1,rfl,rfl⟩:=this
   rw[Kd.str_inj e1,isT_inj I hx gx,isT_inj I hy gy]
end
theorem tms_dn {K:PySem.W.Frag} {H:Hp}:∀ {us:List V} {ts:List Tm},Paired (IsT K H) us ts→DnAll K H us (ts.map Tm.data)
 | _,_,.nil=>by rw[List.map_nil,DnAll]
 | _,_,.cons h t=>by
  rw[List.map_cons,DnAll]
  exact⟨_,_,rfl,h,tms_dn t⟩
theorem tms_lay:∀ {ts:List Tm},(∀ t∈ts,t.ok)→(PyData.list (ts.map Tm.data)).canLay0=true
 | [],_=>rfl
 | t :: ts,h=>by
  have:=tms_lay (ts:=ts) fun s hs=>h s (List.mem_cons_of_mem _ hs)
  show (t.data.canLay0&&(PyData.list (ts.map Tm.data)).canLay0)=true
  rw[t.lay (h t List.mem_cons_self),this];rfl
end Ken
namespace L2
open PySem PySem.Spec PyProof.Rows
section
variable {X:Cx}
noncomputable def rInT (K:PySem.W.Frag) (neg:Bool):R2:=fun x y H Q=>∃ (t:Ken.Tm) (p:Addr) (xs:List V) (ts:List Ken.Tm),Ken.IsT K H x t∧y=.ref p∧SqL K H p xs∧Paired (Ken.IsT K H) xs ts∧t.ok∧(∀ s∈ts,s.ok)∧t.deep≤140∧Q (.bl (if neg then !decide (t∈ts) else decide (t∈ts))) H
theorem mem_at {pins:List (Addr×Obj)} {σ:St} {H:Hp} {s:Shared} {x:V} {v:Value} {t:Ken.Tm} {xs:List V} {ts:List Ken.Tm} {its:List Value} (hu:X.A.units+150 < cLine) (I:Inv X pins σ H s) (rx:RelV x v) (hT:Ken.IsT X.K H x t) (hP:Paired (Ken.IsT X.K H) xs ts) (r:Vals xs its) (ho:t.ok) (hs:∀ s∈ts,s.ok) (hd:t.deep≤140) :
  ∃ e:Value→Bool,(∀ w∈its,SeqAt.EqAt X.A.in1 s w v (e w))∧its.any e=decide (t∈ts)∧∀ (j:Nat) (w:Value),its[j]?=some w→e w=true→ts[j]?=some t:=by
 classical
 have l1:=Paired.length hP
 have l2:=r.length
 have same:∀ (i j:Nat) (w:Value) (a b:Ken.Tm),its[i]?=some w→its[j]?=some w→ts[i]?=some a→ts[j]?=some b→a=b:=by
  intro i j w a b h1 h2 h3 h4
  have hi:i < xs.length:=by have:=(List.getElem?_eq_some_iff.mp h3).1;omega
  have hj:j < xs.length:=by have:=(List.getElem?_eq_some_iff.mp h4).1;omega
  obtain⟨a',ea,ha⟩:=Ken.paired_get hP (List.getElem?_eq_getElem hi)
  obtain⟨b',eb,hb⟩:=Ken.paired_get hP (List.getElem?_eq_getElem hj)
  obtain⟨u1,g1,r1⟩:=r.get (List.getElem?_eq_getElem hi)
  obtain⟨u2,g2,r2⟩:=r.get (List.getElem?_eq_getElem hj)
  rw[h3] at ea;cases ea
  rw[h4] at eb;cases eb
  rw[h1] at g1;cases g1
  rw[h2] at g2;cases g2
  obtain⟨p1,_,z1,_⟩:=Ken.isT_tup ha
  obtain⟨p2,_,z2,_⟩:=Ken.isT_tup hb
  rw[z1] at r1 ha
  rw[z2] at r2 hb
  have y1:w=.ref p1:=r1
  have y2:w=.ref p2:=r2
  rw[y1] at y2;cases y2
  exact Ken.isT_inj I ha hb
 refine⟨fun w=>decide (∃ j:Nat,its[j]?=some w∧ts[j]?=some t),fun w hw=>?_,?_,fun j w hj he=>?_⟩
 ·obtain⟨j,hj,ej⟩:=List.mem_iff_getElem.mp hw
  have hjx:j < xs.length:=by omega
  have hjt:j < ts.length:=by omega
  obtain⟨a,ea,ha⟩:=Ken.paired_get hP (List.getElem?_eq_getElem hjx)
  obtain⟨u1,g1,r1⟩:=r.get (List.getElem?_eq_getElem hjx)
  have gj:its[j]?=some w:=by rw[List.getElem?_eq_getElem hj,ej]
  rw[gj] at g1;cases g1
  have key:decide (∃ j:Nat,its[j]?=some w∧ts[j]?=some t)=decide (a=t):=by
   by_cases h:a=t
   ·rw[decide_eq_true h,decide_eq_true ⟨j,gj,by rw[ea,h]⟩]
   ·rw[decide_eq_false h,decide_eq_false]
    rintro⟨i,h1,h2⟩
    exact h (same j i w a t gj h1 ea h2)
  show SeqAt.EqAt X.A.in1 s w v (decide (∃ j:Nat,its[j]?=some w∧ts[j]?=some t))
  rw[key]
  obtain⟨p1,_,z1,_⟩:=Ken.isT_tup ha
  obtain⟨p2,_,z2,_⟩:=Ken.isT_tup hT
  rw[z1] at r1 ha
  rw[z2] at rx hT
  have y1:w=.ref p1:=r1
  have y2:v=.ref p2:=rx
  subst y1
  subst y2
  by_cases h:p1=p2
  ·subst h
   rw[decide_eq_true (Ken.isT_inj I ha hT)]
   exact SeqAt.EqAt.same _
  ·obtain⟨as,q1⟩:=Dn.reads I ha (show RelV (.ref p1) (.ref p1) from rfl)
   obtain⟨bs,q2⟩:=Dn.reads I hT (show RelV (.ref p2) (.ref p2) from rfl)
   rw[← Ken.Tm.eqv]
   have hu1:X.A.in1.units=X.A.units+1:=rfl
   have dm:min a.data.depth t.data.depth≤140:=by rw[Ken.Tm.depth,Ken.Tm.depth];omega
   exact SeqAt.EqAt.of_refs h (SeqAt.rcAt_reads q1 q2 (a.lay (hs a (List.mem_of_getElem? ea))) (t.lay ho) (by omega))
 ·rw[Bool.eq_iff_iff,List.any_eq_true,decide_eq_true_iff]
  constructor
  ·rintro⟨w,hw,h⟩
   obtain⟨j,_,h2⟩:=of_decide_eq_true h
   exact List.mem_of_getElem? h2
  ·intro h
   obtain⟨j,hj,ej⟩:=List.mem_iff_getElem.mp h
   have hji:j < its.length:=by omega
   exact⟨its[j],List.getElem_mem hji,decide_eq_true ⟨j,List.getElem?_eq_getElem hji,by rw[List.getElem?_eq_getElem hj,ej]⟩⟩
 ·obtain⟨i,h1,h2⟩:=of_decide_eq_true he
  have hji:j < its.length:=(List.getElem?_eq_some_iff.mp hj).1
  have hjt:j < ts.length:=by omega
  rw[List.getElem?_eq_getElem hjt,same j i w ts[j] t hj h1 (List.getElem?_eq_getElem hjt) h2]
theorem op_inT (hu:X.A.units+150 < cLine):OpR X (compareOp .In) (rInT X.K false):=by
 intro pins s σ H x y v u Q I rx ry h
 obtain⟨t,p,xs,ts,hT,rfl,hq,hP,ho,hs,hd,q⟩:=h
 cases ry
 obtain⟨its,r,pl,hz⟩:=I.list hq
 obtain⟨e,he,ea,_⟩:=mem_at hu I rx hT hP r ho hs hd
 refine SeqAt.in_listAt e pl.isList (fun w hw=>he w (by simpa using hw)) ⟨.bl _,H,I,rfl,?_⟩
 rw[show its.toArray.any e=its.any e by simp,ea]
 exact q
theorem op_notInT (hu:X.A.units+150 < cLine):OpR X (compareOp .NotIn) (rInT X.K true):=by
 intro pins s σ H x y v u Q I rx ry h
 obtain⟨t,p,xs,ts,hT,rfl,hq,hP,ho,hs,hd,q⟩:=h
 cases ry
 obtain⟨its,r,pl,hz⟩:=I.list hq
 obtain⟨e,he,ea,_⟩:=mem_at hu I rx hT hP r ho hs hd
 refine SeqAt.notIn_listAt e pl.isList (fun w hw=>he w (by simpa using hw)) ⟨.bl _,H,I,rfl,?_⟩
 rw[show its.toArray.any e=its.any e by simp,ea]
 exact q
end
end L2
namespace PySem.SeqAt
open PySem PySem.MeetsSeq L2 PyProof.Rows
theorem strs_len:∀ {us:List Value} {xs:List Str},StrsAre us xs→us.length=xs.length
 | _,_,.nil=>rfl
 | _,_,.cons _ _ h=>by rw[List.length_cons,List.length_cons,strs_len h]
theorem tuple_ltAt (l b:Addr) (items items2:Array Value) (n n2:Nat) (dd dd2:Option Addr) (sl sl2:Array (Option Value)) (xs ys:List Str) :
  Meets (Builtin.«tuple.__lt__» ⟨[.ref l,.ref b],[]⟩)
   (fun A R s=>s.heap.get? l=some { cls:=.type "tuple",dict:=dd,data:=.seq items n,slots:=sl }∧s.heap.get? b=some { cls:=.type "tuple",dict:=dd2,data:=.seq items2 n2,slots:=sl2 } ∧
    StrsAre items.toList xs∧StrsAre items2.toList ys∧R (.ok (.ret (.bool (lexF (decide (items.size < items2.size)) xs ys)))) s) :=
 .of_wp fun prog w A R s h=>by
  obtain⟨hp,g,d,tk,os⟩:=s;obtain⟨hl,hb,he1,he2,h⟩:=h
  have f2:=AutoSeq1.sub_tuple_tuple
  wp_walk using wpAny_loadPart' hl,wpAny_loadPart' hb,wpAny_forIn_list _ (fun rest b s'=>b.1=none∧s'=⟨hp,g,d,tk,os⟩∧∃ us vs xs ys,rest=List.zip us vs∧StrsAre us xs∧StrsAre vs ys ∧
   R (.ok (.ret (.bool (lexF (decide (items.size < items2.size)) xs ys)))) ⟨hp,g,d,tk,os⟩) _
  case turn =>
   rintro⟨y,x⟩ rest b s' ⟨hb',rfl,us,vs,xs,ys,hz,h1,h2,hR⟩
   cases h1 with
   | nil=>cases hz
   | cons x1 t1 h1 =>
    cases h2 with
    | nil=>cases hz
    | cons y1 u1 h2 =>
     rw[List.zip_cons_cons] at hz
     injection hz with hyx hrest
     injection hyx with e1 e2
     subst e1 e2
     refine wpAny_bind (wpAny_eqBool_str ?_)
     unfold lexF at hR
     by_cases c:x1=y1
     ·rw[if_pos c] at hR
      rw[decide_eq_true c]
      wp_walk
      exact⟨rfl,rfl,_,_,_,_,hrest,h1,h2,hR⟩
     ·rw[if_neg c] at hR
      rw[decide_eq_false c]
      simp only[Bool.not_false,if_true]
      refine wpAny_bind (wpAny_rule (wpAny_bind (PySem.W.cmp_ofLt (P.lt_str ?_))))
      refine wpAny_bind (wpAny_pure (wpAny_pure (wpAny_pure ⟨_,rfl,?_⟩)))
      exact hR
  case fin =>
   rintro⟨b1,b2⟩ s' ⟨hb',rfl,us,vs,xs,ys,hz,h1,h2,hR⟩
   simp only at hb'
   subst hb'
   have hf:lexF (decide (items.size < items2.size)) xs ys=decide (items.size < items2.size):=by
    cases h1 with
    | nil=>cases h2<;>rfl
    | cons x1 t1 h1 =>
     cases h2 with
     | nil=>rfl
     | cons y1 u1 h2=>cases hz
   rw[hf] at hR
   wp_walk
   exact⟨_,rfl,by simpa [Builtin.Tuple.tupleCompareSizes] using hR⟩
  case h =>
   exact⟨rfl,rfl,_,_,_,_,rfl,he1,he2,h⟩
theorem lt_tupleS {prog:Program} {w:World} {A:Around} {E:Value→Shared→Prop} {s:Shared} {l b:Addr} {items items2:Array Value} {xs ys:List Str} {Q:Value→Shared→Prop} (hl:s.heap.IsTuple l items) (hb:s.heap.IsTuple b items2) (hu:A.units < cLine)
  (h1:StrsAre items.toList xs) (h2:StrsAre items2.toList ys) (h:Q (.bool (lexT xs ys)) s):wpAny (model prog w) A (compareOp .Lt (.ref l) (.ref b)) Q E s:=by
 obtain⟨⟨cls,dd,data,sl⟩,ho,hc,n,hd⟩:=id hl
 obtain⟨⟨cls2,dd2,data2,sl2⟩,ho2,hc2,n2,hd2⟩:=id hb
 simp only at hc hd hc2 hd2
 subst hc hd hc2 hd2
 have e:lexF (decide (items.size < items2.size)) xs ys=lexT xs ys:=by
  rw[← lexF_lexT]
  have l1:items.size=xs.length:=by rw[← Array.length_toList];exact strs_len h1
  have l2:items2.size=ys.length:=by rw[← Array.length_toList];exact strs_len h2
  rw[l1,l2]
 exact richCompare_meets_room (op:=.Lt) ⟨_,ho,rfl⟩ ⟨_,ho2,rfl⟩ F.slot_tuple_lt F.entry_tuple_lt (F.args_tuple_lt_2 _ _) (tuple_ltAt l b items items2 n n2 dd dd2 sl sl2 xs ys)
  ⟨ho,ho2,h1,h2,show Value.bool (lexF (decide (items.size < items2.size)) xs ys)≠Value.notImplemented∧Q (.bool (lexF (decide (items.size < items2.size)) xs ys)) s from ⟨(fun x=>nomatch x),by rw[e];exact h⟩⟩ hu
end PySem.SeqAt
namespace L2
open PySem PySem.Spec PyProof.Rows
section
variable {X:Cx}
noncomputable def rLtS (K:PySem.W.Frag):R2:=fun x y H Q=>∃ (p q:Addr) (xs ys:List Str),x=.ref p∧y=.ref q∧SqT K H p (xs.map V.str)∧SqT K H q (ys.map V.str)∧Q (.bl (lexT xs ys)) H
theorem op_ltS (hu:X.A.units < cLine):OpR X (compareOp .Lt) (rLtS X.K):=by
 intro pins s σ H x y v u Q I rx ry h
 obtain⟨p,q,xs,ys,rfl,rfl,h1,h2,k⟩:=h
 cases rx
 cases ry
 obtain⟨its,r,pl,_⟩:=I.tuple h1
 obtain⟨its',r',pl',_⟩:=I.tuple h2
 exact SeqAt.lt_tupleS pl pl' hu (strsAre_of r) (strsAre_of r') ⟨.bl _,H,I,rfl,k⟩
end
end L2
namespace Ken
open PySem L2
noncomputable def cmpT (a b:Tm):Int:=if a=b then 0 else if lexT a.spell b.spell=true then -1 else 1
noncomputable def lefts (ps:List (Tm×Tm)):List Str:=ps.flatMap fun p=>p.1.spell
noncomputable def rights (ps:List (Tm×Tm)):List Str:=ps.flatMap fun p=>p.2.spell
theorem lefts_cons (p:Tm×Tm) (ps:List (Tm×Tm)):lefts (p :: ps)=p.1.spell++lefts ps:=List.flatMap_cons
theorem rights_cons (p:Tm×Tm) (ps:List (Tm×Tm)):rights (p :: ps)=p.2.spell++rights ps:=List.flatMap_cons
theorem lexT_same (x:Str) (A B:List Str):lexT (x :: A) (x :: B)=lexT A B:=by
 show (if x=x then lexT A B else sLt x x)=_
 rw[if_pos rfl]
theorem lexT_diff {x y:Str} (h:¬ x=y) (A B:List Str):lexT (x :: A) (y :: B)=sLt x y:=by
 show (if x=y then lexT A B else sLt x y)=_
 rw[if_neg h]
noncomputable def CmpI (a b:Tm) (ps:List (Tm×Tm)):Prop:=lexT a.spell b.spell=lexT (lefts ps) (rights ps)∧(a=b↔lefts ps=rights ps)
theorem CmpI.start (a b:Tm):CmpI a b [(a,b)]:=by
 unfold CmpI
 rw[lefts_cons,rights_cons]
 show lexT a.spell b.spell=lexT (a.spell++[]) (b.spell++[])∧(a=b↔a.spell++[]=b.spell++[])
 rw[List.append_nil,List.append_nil]
 exact⟨rfl,⟨fun e=>by rw[e],spell_inj⟩⟩
theorem CmpI.pair {a b:Tm} {k:Kd} {x y x' y':Tm} {ps:List (Tm×Tm)} (h:CmpI a b ((.nd k x y,.nd k x' y') :: ps)):CmpI a b ((x,x') :: (y,y') :: ps):=by
 unfold CmpI at h ⊢
 rw[lefts_cons,rights_cons,spell_nd,spell_nd,List.cons_append,List.cons_append,lexT_same] at h
 rw[lefts_cons,rights_cons,lefts_cons,rights_cons,← List.append_assoc,← List.append_assoc]
 refine⟨h.1,h.2.trans ⟨fun e=>(List.cons.inj e).2,fun e=>by rw[e]⟩⟩
theorem CmpI.leaf {a b t:Tm} {ps:List (Tm×Tm)} (h:CmpI a b ((t,t) :: ps)):CmpI a b ps:=by
 unfold CmpI at h ⊢
 rw[lefts_cons,rights_cons] at h
 have gen:∀ l:List Str,lexT (l++lefts ps) (l++rights ps)=lexT (lefts ps) (rights ps):=by
  intro l
  induction l with
  | nil=>rfl
  | cons z l ih=>rw[List.cons_append,List.cons_append,lexT_same,ih]
 rw[gen] at h
 exact⟨h.1,h.2.trans ⟨fun e=>List.append_cancel_left e,fun e=>by rw[e]⟩⟩
theorem CmpI.done {a b:Tm} (h:CmpI a b []):cmpT a b=0:=by
 unfold cmpT
 rw[if_pos (h.2.mpr rfl)]
theorem CmpI.diff {a b t u:Tm} {x y:Str} {A B:List Str} {ps:List (Tm×Tm)} (h:CmpI a b ((t,u) :: ps)) (ht:t.spell=x :: A) (hu:u.spell=y :: B) (hxy:¬ x=y):cmpT a b=if sLt x y=true then -1 else 1:=by
 unfold CmpI at h
 rw[lefts_cons,rights_cons,ht,hu,List.cons_append,List.cons_append,lexT_diff hxy] at h
 unfold cmpT
 rw[if_neg (fun e=>hxy (List.cons.inj (h.2.mp e)).1),h.1]
theorem CmpI.diffW {a b:Tm} {x y:Str} {ps:List (Tm×Tm)} (h:CmpI a b ((.ltr x,.ltr y) :: ps)) (hxy:¬ x=y):cmpT a b=if lexT ["letter",x] ["letter",y]=true then -1 else 1:=by
 unfold CmpI at h
 rw[lefts_cons,rights_cons] at h
 have e1:(Tm.ltr x).spell++lefts ps=("letter":Str) :: x :: lefts ps:=rfl
 have e2:(Tm.ltr y).spell++rights ps=("letter":Str) :: y :: rights ps:=rfl
 rw[e1,e2,lexT_same,lexT_diff hxy] at h
 unfold cmpT
 rw[if_neg (fun e=>hxy (List.cons.inj (List.cons.inj (h.2.mp e)).2).1),h.1,lexT_same,lexT_diff hxy]
noncomputable def IsP (K:PySem.W.Frag) (H:Hp) (v:V) (p:Tm×Tm):Prop:=∃ q x y,v=.ref q∧SqT K H q [x,y]∧IsT K H x p.1∧IsT K H y p.2
theorem IsP.keep {K:PySem.W.Frag} {H H':Hp} {v:V} {p:Tm×Tm} (h:IsP K H v p) (k:KeepT K H H'):IsP K H' v p:=by
 obtain⟨q,x,y,e,hs,hx,hy⟩:=h
 exact⟨q,x,y,e,k _ _ hs,hx.keep k,hy.keep k⟩
noncomputable def sp_compared (K:PySem.W.Frag):Sp:=fun vs H Q _=>∃ (v u:V) (a b:Tm),vs=[v,u]∧IsT K H v a∧IsT K H u b∧a.ok∧b.ok∧a.parts≤400∧∀ H',Same H H'→Q (.int (cmpT a b)) H'
end Ken
namespace PySem.SeqAt
open PySem PySem.MeetsSeq L2 PyProof.Rows
noncomputable def LtAt (A:Around) (s:Shared) (y x:Value) (k:Bool):Prop :=
 ∀ (P:Program) (w:World) (E:Value→Shared→Prop) (Q:Value→Shared→Prop),Q (.bool k) s→wpAny (model P w) A (compareOp .Lt y x) Q E s
inductive LexAt (A:Around) (s:Shared) (d:Bool):List Value→List Value→Bool→Prop
 | one (us:List Value):LexAt A s d us [] d
 | two (us:List Value):LexAt A s d [] us d
 | same {u v:Value} {us vs:List Value} {r:Bool} (h:EqAt A.in1 s u v true) (t:LexAt A s d us vs r):LexAt A s d (u :: us) (v :: vs) r
 | diff {u v:Value} {us vs:List Value} {r:Bool} (h:EqAt A.in1 s u v false) (t:LtAt A.in1 s u v r):LexAt A s d (u :: us) (v :: vs) r
theorem tuple_ltG (l b:Addr) (items items2:Array Value) (n n2:Nat) (dd dd2:Option Addr) (sl sl2:Array (Option Value)) (k:Bool) :
  Meets (Builtin.«tuple.__lt__» ⟨[.ref l,.ref b],[]⟩)
   (fun A R s=>s.heap.get? l=some { cls:=.type "tuple",dict:=dd,data:=.seq items n,slots:=sl }∧s.heap.get? b=some { cls:=.type "tuple",dict:=dd2,data:=.seq items2 n2,slots:=sl2 } ∧
    LexAt A s (decide (items.size < items2.size)) items.toList items2.toList k∧R (.ok (.ret (.bool k))) s) :=
 .of_wp fun prog w A R s h=>by
  obtain⟨hp,g,d,tk,os⟩:=s;obtain⟨hl,hb,he,h⟩:=h
  have f2:=AutoSeq1.sub_tuple_tuple
  wp_walk using wpAny_loadPart' hl,wpAny_loadPart' hb,wpAny_forIn_list _ (fun rest b s'=>b.1=none∧s'=⟨hp,g,d,tk,os⟩∧∃ us vs,rest=List.zip us vs∧LexAt A ⟨hp,g,d,tk,os⟩ (decide (items.size < items2.size)) us vs k) _
  case turn =>
   rintro⟨y,x⟩ rest b s' ⟨hb',rfl,us,vs,hz,hx⟩
   cases hx with
   | one us=>rw[List.zip_nil_right] at hz;cases hz
   | two us=>rw[List.zip_nil_left] at hz;cases hz
   | same h1 t =>
    rw[List.zip_cons_cons] at hz
    injection hz with hyx hrest
    injection hyx with e1 e2
    subst e1 e2
    refine wpAny_bind (h1 _ _ _ _ ?_)
    wp_walk
    exact⟨rfl,rfl,_,_,hrest,t⟩
   | diff h1 t =>
    rw[List.zip_cons_cons] at hz
    injection hz with hyx hrest
    injection hyx with e1 e2
    subst e1 e2
    refine wpAny_bind (h1 _ _ _ _ ?_)
    simp only[Bool.not_false,if_true]
    refine wpAny_bind (wpAny_rule (wpAny_bind (t _ _ _ _ ?_)))
    refine wpAny_bind (wpAny_pure (wpAny_pure (wpAny_pure ⟨_,rfl,?_⟩)))
    exact h
  case fin =>
   rintro⟨b1,b2⟩ s' ⟨hb',rfl,us,vs,hz,hx⟩
   simp only at hb'
   subst hb'
   have hf:k=decide (items.size < items2.size):=by
    cases hx with
    | one us=>rfl
    | two us=>rfl
    | same h1 t=>cases hz
    | diff h1 t=>cases hz
   rw[hf] at h
   wp_walk
   exact⟨_,rfl,by simpa [Builtin.Tuple.tupleCompareSizes] using h⟩
  case h=>exact⟨rfl,rfl,_,_,rfl,he⟩
theorem lt_tupleG {A:Around} {s:Shared} {l b:Addr} {items items2:Array Value} {k:Bool} (hl:s.heap.IsTuple l items) (hb:s.heap.IsTuple b items2) (hu:A.units < cLine)
  (he:LexAt A s (decide (items.size < items2.size)) items.toList items2.toList k):LtAt A s (.ref l) (.ref b) k:=fun P w E Q h=>by
 obtain⟨⟨cls,dd,data,sl⟩,ho,hc,n,hd⟩:=id hl
 obtain⟨⟨cls2,dd2,data2,sl2⟩,ho2,hc2,n2,hd2⟩:=id hb
 simp only at hc hd hc2 hd2
 subst hc hd hc2 hd2
 exact richCompare_meets_room (op:=.Lt) ⟨_,ho,rfl⟩ ⟨_,ho2,rfl⟩ F.slot_tuple_lt F.entry_tuple_lt (F.args_tuple_lt_2 _ _) (tuple_ltG l b items items2 n n2 dd dd2 sl sl2 k)
  ⟨ho,ho2,he,show Value.bool k≠Value.notImplemented∧Q (.bool k) s from ⟨(fun x=>nomatch x),h⟩⟩ hu
theorem lt_texts {A:Around} {s:Shared} {x y:Str} {t u:Tok}:LtAt A s (.str x t) (.str y u) (sLt x y):=fun _ _ _ _ h=>PySem.W.cmp_ofLt (P.lt_str h)
theorem eq_texts {A:Around} {s:Shared} {x y:Str} {t u:Tok}:EqAt A s (.str x t) (.str y u) (decide (x=y)):=fun P w E Q h=>wpAny_eqBool_str h
end PySem.SeqAt
namespace Ken
open PySem L2 PySem.SeqAt
theorem lexT_app (l:List Str) (A B:List Str):lexT (l++A) (l++B)=lexT A B:=by
 induction l with
 | nil=>rfl
 | cons z l ih=>rw[List.cons_append,List.cons_append,lexT_same,ih]
theorem kd_low (k:Kd):¬ k.str=("low":Str):=by cases k<;>decide
theorem kd_ltr (k:Kd):¬ k.str=("letter":Str):=by cases k<;>decide
theorem lexT_pre:∀ {a b:Tm} (A B:List Str),a≠b→lexT (a.spell++A) (b.spell++B)=lexT a.spell b.spell
 | .low,.low,A,B,h=>absurd rfl h
 | .low,.ltr y,A,B,h=>by show lexT ("low" :: _) ("letter" :: _)=lexT ("low" :: _) ("letter" :: _);rw[lexT_diff (by decide),lexT_diff (by decide)]
 | .low,.nd k c d,A,B,h=>by
  rw[spell_nd]
  show lexT ("low" :: _) (k.str :: _)=lexT ("low" :: _) (k.str :: _)
  rw[lexT_diff (Ne.symm (kd_low k)),lexT_diff (Ne.symm (kd_low k))]
 | .ltr x,.low,A,B,h=>by show lexT ("letter" :: _) ("low" :: _)=lexT ("letter" :: _) ("low" :: _);rw[lexT_diff (by decide),lexT_diff (by decide)]
 | .ltr x,.ltr y,A,B,h=>by
  have hxy:¬ x=y:=fun z=>h (by rw[z])
  show lexT ("letter" :: x :: _) ("letter" :: y :: _)=lexT ("letter" :: x :: _) ("letter" :: y :: _)
  rw[lexT_same,lexT_same,lexT_diff hxy,lexT_diff hxy]
 | .ltr x,.nd k c d,A,B,h=>by
  rw[spell_nd]
  show lexT ("letter" :: _) (k.str :: _)=lexT ("letter" :: _) (k.str :: _)
  rw[lexT_diff (Ne.symm (kd_ltr k)),lexT_diff (Ne.symm (kd_ltr k))]
 | .nd k a b,.low,A,B,h=>by
  rw[spell_nd]
  show lexT (k.str :: _) ("low" :: _)=lexT (k.str :: _) ("low" :: _)
  rw[lexT_diff (kd_low k),lexT_diff (kd_low k)]
 | .nd k a b,.ltr y,A,B,h=>by
  rw[spell_nd]
  show lexT (k.str :: _) ("letter" :: _)=lexT (k.str :: _) ("letter" :: _)
  rw[lexT_diff (kd_ltr k),lexT_diff (kd_ltr k)]
 | .nd k a b,.nd k' c d,A,B,h=>by
  rw[spell_nd,spell_nd,List.cons_append,List.cons_append]
  by_cases hk:k.str=k'.str
  ·rw[hk,lexT_same,lexT_same,List.append_assoc,List.append_assoc]
   by_cases hac:a=c
   ·subst hac
    have hbd:b≠d:=fun z=>h (by rw[z,Kd.str_inj hk])
    rw[lexT_app,lexT_app,lexT_pre A B hbd]
   ·rw[lexT_pre _ _ hac,lexT_pre _ _ hac]
  ·rw[lexT_diff hk,lexT_diff hk]
section
variable {X:Cx} {pins:List (Addr×Obj)} {σ:St} {H:Hp} {s:Shared}
theorem eq_tm (I:Inv X pins σ H s) {a b:Tm} {va vb:V} {ua ub:Value} {A:Around} (ha:IsT X.K H va a) (hb:IsT X.K H vb b) (ra:RelV va ua) (rb:RelV vb ub) (oa:a.ok) (ob:b.ok) (hu:A.units+a.deep < cLine):EqAt A s ua ub (decide (a=b)):=by
 obtain⟨p1,_,z1,_⟩:=isT_tup ha
 obtain⟨p2,_,z2,_⟩:=isT_tup hb
 rw[z1] at ra ha
 rw[z2] at rb hb
 have y1:ua=.ref p1:=ra
 have y2:ub=.ref p2:=rb
 subst y1 y2
 by_cases h:p1=p2
 ·subst h
  rw[decide_eq_true (isT_inj I ha hb)]
  exact EqAt.same _
 ·obtain⟨as,q1⟩:=Dn.reads I ha (show RelV (.ref p1) (.ref p1) from rfl)
  obtain⟨bs,q2⟩:=Dn.reads I hb (show RelV (.ref p2) (.ref p2) from rfl)
  rw[← Tm.eqv]
  have dm:min a.data.depth b.data.depth≤a.deep:=by rw[Tm.depth,Tm.depth];omega
  exact EqAt.of_refs h (rcAt_reads q1 q2 (a.lay oa) (b.lay ob) (by omega))
theorem lt_tm (I:Inv X pins σ H s):∀ {a b:Tm} {va vb:V} {ua ub:Value} {A:Around},IsT X.K H va a→IsT X.K H vb b→RelV va ua→RelV vb ub→a.ok→b.ok→a≠b→A.units+a.deep+2 < cLine→LtAt A s ua ub (lexT a.spell b.spell)
 | a,b,va,vb,ua,ub,A,ha,hb,ra,rb,oa,ob,hne,hu=>by
  have fst:∀ {p q:Addr} {x y:Str} {xs ys:List V},SqT X.K H p (.str x :: xs)→SqT X.K H q (.str y :: ys)→¬ x=y→LtAt A s (.ref p) (.ref q) (sLt x y):=fun {p q x y xs ys} h1 h2 hxy=>by
   obtain⟨its,r,pl,_⟩:=I.tuple h1
   obtain⟨its',r',pl',_⟩:=I.tuple h2
   refine lt_tupleG pl pl' (by omega) ?_
   cases r with
   | cons r0 rr =>
    cases r' with
    | cons r0' rr' =>
     obtain⟨t,rfl⟩:=r0
     obtain⟨t',rfl⟩:=r0'
     have e:=eq_texts (A:=A.in1) (s:=s) (x:=x) (y:=y) (t:=t) (u:=t')
     rw[decide_eq_false hxy] at e
     exact .diff e lt_texts
  match a,b,ha,hb,oa,ob,hne,hu with
  | .low,.low,_,_,_,_,hne,_=>exact absurd rfl hne
  | .low,.ltr y,ha,hb,oa,ob,hne,hu =>
   obtain⟨p,rfl,hs⟩:=isT_low.mp ha
   obtain⟨q,rfl,hs'⟩:=isT_ltr.mp hb
   cases ra;cases rb
   have:=fst hs hs' (by decide)
   rw[show lexT (Tm.low).spell (Tm.ltr y).spell=sLt "low" "letter" from lexT_diff (by decide) _ _]
   exact this
  | .low,.nd k c d,ha,hb,oa,ob,hne,hu =>
   obtain⟨p,rfl,hs⟩:=isT_low.mp ha
   obtain⟨q,_,_,rfl,hs',_,_⟩:=isT_nd.mp hb
   cases ra;cases rb
   have:=fst hs hs' (Ne.symm (kd_low k))
   rw[spell_nd,show lexT (Tm.low).spell (k.str :: (c.spell++d.spell))=sLt "low" k.str from lexT_diff (Ne.symm (kd_low k)) _ _]
   exact this
  | .ltr x,.low,ha,hb,oa,ob,hne,hu =>
   obtain⟨p,rfl,hs⟩:=isT_ltr.mp ha
   obtain⟨q,rfl,hs'⟩:=isT_low.mp hb
   cases ra;cases rb
   have:=fst hs hs' (by decide)
   rw[show lexT (Tm.ltr x).spell (Tm.low).spell=sLt "letter" "low" from lexT_diff (by decide) _ _]
   exact this
  | .ltr x,.nd k c d,ha,hb,oa,ob,hne,hu =>
   obtain⟨p,rfl,hs⟩:=isT_ltr.mp ha
   obtain⟨q,_,_,rfl,hs',_,_⟩:=isT_nd.mp hb
   cases ra;cases rb
   have:=fst hs hs' (Ne.symm (kd_ltr k))
   rw[spell_nd,show lexT (Tm.ltr x).spell (k.str :: (c.spell++d.spell))=sLt "letter" k.str from lexT_diff (Ne.symm (kd_ltr k)) _ _]
   exact this
  | .nd k c d,.low,ha,hb,oa,ob,hne,hu =>
   obtain⟨p,_,_,rfl,hs,_,_⟩:=isT_nd.mp ha
   obtain⟨q,rfl,hs'⟩:=isT_low.mp hb
   cases ra;cases rb
   have:=fst hs hs' (kd_low k)
   rw[spell_nd,show lexT (k.str :: (c.spell++d.spell)) (Tm.low).spell=sLt k.str "low" from lexT_diff (kd_low k) _ _]
   exact this
  | .nd k c d,.ltr y,ha,hb,oa,ob,hne,hu =>
   obtain⟨p,_,_,rfl,hs,_,_⟩:=isT_nd.mp ha
   obtain⟨q,rfl,hs'⟩:=isT_ltr.mp hb
   cases ra;cases rb
   have:=fst hs hs' (kd_ltr k)
   rw[spell_nd,show lexT (k.str :: (c.spell++d.spell)) (Tm.ltr y).spell=sLt k.str "letter" from lexT_diff (kd_ltr k) _ _]
   exact this
  | .ltr x,.ltr y,ha,hb,oa,ob,hne,hu =>
   obtain⟨p,rfl,hs⟩:=isT_ltr.mp ha
   obtain⟨q,rfl,hs'⟩:=isT_ltr.mp hb
   cases ra;cases rb
   have hxy:¬ x=y:=fun z=>hne (by rw[z])
   obtain⟨its,r,pl,_⟩:=I.tuple hs
   obtain⟨its',r',pl',_⟩:=I.tuple hs'
   refine lt_tupleG pl pl' (by omega) ?_
   rw[show lexT (Tm.ltr x).spell (Tm.ltr y).spell=sLt x y from (lexT_same _ _ _).trans (lexT_diff hxy _ _)]
   cases r with
   | cons r0 rr =>
    cases r' with
    | cons r0' rr' =>
     cases rr with
     | cons r1 rr =>
      cases rr' with
      | cons r1' rr' =>
       obtain⟨t,rfl⟩:=r0
       obtain⟨t',rfl⟩:=r0'
       obtain⟨t1,rfl⟩:=r1
       obtain⟨t1',rfl⟩:=r1'
       have e0:=eq_texts (A:=A.in1) (s:=s) (x:="letter") (y:="letter") (t:=t) (u:=t')
       have e:=eq_texts (A:=A.in1) (s:=s) (x:=x) (y:=y) (t:=t1) (u:=t1')
       rw[decide_eq_true rfl] at e0
       rw[decide_eq_false hxy] at e
       exact .same e0 (.diff e lt_texts)
  | .nd k a1 b1,.nd k' a2 b2,ha,hb,oa,ob,hne,hu =>
   obtain⟨p,vx,vy,rfl,hs,hx,hy⟩:=isT_nd.mp ha
   obtain⟨q,vx',vy',rfl,hs',hx',hy'⟩:=isT_nd.mp hb
   cases ra;cases rb
   have du:(Tm.nd k a1 b1).deep=1+max a1.deep b1.deep:=rfl
   have iu:A.in1.units=A.units+1:=rfl
   by_cases hk:k.str=k'.str
   ·obtain⟨its,r,pl,_⟩:=I.tuple hs
    obtain⟨its',r',pl',_⟩:=I.tuple hs'
    refine lt_tupleG pl pl' (by omega) ?_
    rw[spell_nd,spell_nd,hk,lexT_same]
    cases r with
    | cons r0 rr =>
     cases r' with
     | cons r0' rr' =>
      cases rr with
      | cons r1 rr =>
       cases rr' with
       | cons r1' rr' =>
        cases rr with
        | cons r2 rr =>
         cases rr' with
         | cons r2' rr' =>
          obtain⟨t,rfl⟩:=r0
          obtain⟨t',rfl⟩:=r0'
          have e0:=eq_texts (A:=A.in1) (s:=s) (x:=k.str) (y:=k'.str) (t:=t) (u:=t')
          rw[decide_eq_true hk] at e0
          refine .same e0 ?_
          have e1:=eq_tm (A:=A.in1) I hx hx' r1 r1' oa.1 ob.1 (by omega)
          by_cases hac:a1=a2
          ·rw[decide_eq_true hac] at e1
           refine .same e1 ?_
           have hbd:b1≠b2:=fun z=>hne (by rw[z,hac,Kd.str_inj hk])
           have e2:=eq_tm (A:=A.in1) I hy hy' r2 r2' oa.2 ob.2 (by omega)
           rw[decide_eq_false hbd] at e2
           rw[hac,lexT_app]
           exact .diff e2 (lt_tm I hy hy' r2 r2' oa.2 ob.2 hbd (by omega))
          ·rw[decide_eq_false hac] at e1
           rw[lexT_pre _ _ hac]
           exact .diff e1 (lt_tm I hx hx' r1 r1' oa.1 ob.1 hac (by omega))
   ·have:=fst hs hs' hk
    rw[spell_nd,spell_nd,lexT_diff hk]
    exact this
termination_by a=>a
end
end Ken
namespace L2
open PySem PySem.Spec PyProof.Rows
end L2
namespace Ken
open PySem L2 PyProof.Rows PySem.SeqAt
section
variable {X:Cx}
theorem katLex_tm {pins:List (Addr×Obj)} {σ:L2.St} {H:Hp} {s:Shared} {A:Around} (I:Inv X pins σ H s) {a b:Tm} {p q:Addr} (ha:IsT X.K H (.ref p) a) (hb:IsT X.K H (.ref q) b) (oa:a.ok) (ob:b.ok) (hu:A.units+a.deep+4 < cLine) {Q:Bool→Shared→Prop} (hq:Q (lexT a.spell b.spell) s) :
  ∃ ox oy xs ys n k,s.heap.get? p=some ox∧ox.data=.seq xs n∧s.heap.get? q=some oy∧oy.data=.seq ys k∧W.KatLex X.prog X.w A true (decide (xs.size < ys.size)) Q (xs.toList.zip ys.toList) 0 s:=by
 have irrT:∀ l:List Str,lexT l l=false:=fun l=>by
  cases e:lexT l l with
  | false=>rfl
  | true=>have:=lexT_asym e;rw[e] at this;exact this
 have opn:∀ {p:Addr} {xs:List V},SqT X.K H p xs→∃ its o n,Vals xs its∧s.heap.get? p=some o∧o.data=.seq its.toArray n:=fun {p xs} h=>by
  obtain⟨its,r,⟨o,h1,h2,n,h3⟩,_⟩:=I.tuple h
  exact⟨its,o,n,r,h1,h3⟩
 have heads:∀ {x y:Str} {xs ys:List V} {us vs:List Value} {fin:Bool},Vals (.str x :: xs) us→Vals (.str y :: ys) vs→(¬ x=y→Q (sLt x y) s)→(x=y→∀ (us' vs':List Value),Vals xs us'→Vals ys vs'→W.KatLex X.prog X.w A true fin Q (us'.zip vs') 1 s)→W.KatLex X.prog X.w A true fin Q (us.zip vs) 0 s:=fun {x y xs ys us vs fin} r1 r2 h1 h2=>by
  cases r1 with
  | cons a1 t1 =>
   cases r2 with
   | cons a2 t2 =>
    obtain⟨tx,rfl⟩:=a1
    obtain⟨ty,rfl⟩:=a2
    refine W.kat_cons (wpAny_eqBool_str ?_)
    refine W.kat_go (fun e=>W.kat_yes (h2 (of_decide_eq_true e) _ _ t1 t2)) (fun e=>W.kat_no ?_)
    exact oneLt_str (h1 (of_decide_eq_false e))
 have done:∀ {x y:Str} {xs ys:List V} {us vs:List Value} {fin:Bool} {A1 B1:List Str},a.spell=x :: A1→b.spell=y :: B1→¬ x=y→Vals (.str x :: xs) us→Vals (.str y :: ys) vs→W.KatLex X.prog X.w A true fin Q (us.zip vs) 0 s:=fun {x y xs ys us vs fin A1 B1} e1 e2 hxy r1 r2=>by
  refine heads r1 r2 (fun _=>?_) (fun z=>absurd z hxy)
  rw[e1,e2,lexT_diff hxy] at hq
  exact hq
 cases a with
 | low =>
  obtain⟨p',e1,hs1⟩:=isT_low.mp ha
  cases e1
  obtain⟨its1,o1,n1,r1,g1,g2⟩:=opn hs1
  cases b with
  | low =>
   obtain⟨q',e2,hs2⟩:=isT_low.mp hb
   cases e2
   obtain⟨its2,o2,n2,r2,k1,k2⟩:=opn hs2
   refine⟨o1,o2,_,_,n1,n2,g1,g2,k1,k2,?_⟩
   refine heads r1 r2 (fun z=>absurd rfl z) (fun _ us' vs' t1 t2=>?_)
   cases t1;cases t2
   refine W.kat_nil ?_
   have l1:=r1.length
   have l2:=r2.length
   have:decide (its1.toArray.size < its2.toArray.size)=false:=decide_eq_false (by simp at l1 l2 ⊢;omega)
   rw[this]
   rw[irrT] at hq
   exact hq
  | ltr y =>
   obtain⟨q',e2,hs2⟩:=isT_ltr.mp hb
   cases e2
   obtain⟨its2,o2,n2,r2,k1,k2⟩:=opn hs2
   exact⟨o1,o2,_,_,n1,n2,g1,g2,k1,k2,by simpa using done (fin:=_) (A1:=[]) (B1:=[y]) rfl rfl (by decide) r1 r2⟩
  | nd k c d =>
   obtain⟨q',vx,vy,e2,hs2,_⟩:=isT_nd.mp hb
   cases e2
   obtain⟨its2,o2,n2,r2,k1,k2⟩:=opn hs2
   exact⟨o1,o2,_,_,n1,n2,g1,g2,k1,k2,by simpa using done (fin:=_) (A1:=[]) rfl (spell_nd k c d) (fun z=>kd_low k z.symm) r1 r2⟩
 | ltr x =>
  obtain⟨p',e1,hs1⟩:=isT_ltr.mp ha
  cases e1
  obtain⟨its1,o1,n1,r1,g1,g2⟩:=opn hs1
  cases b with
  | low =>
   obtain⟨q',e2,hs2⟩:=isT_low.mp hb
   cases e2
   obtain⟨its2,o2,n2,r2,k1,k2⟩:=opn hs2
   exact⟨o1,o2,_,_,n1,n2,g1,g2,k1,k2,by simpa using done (fin:=_) (A1:=[x]) (B1:=[]) rfl rfl (by decide) r1 r2⟩
  | ltr y =>
   obtain⟨q',e2,hs2⟩:=isT_ltr.mp hb
   cases e2
   obtain⟨its2,o2,n2,r2,k1,k2⟩:=opn hs2
   refine⟨o1,o2,_,_,n1,n2,g1,g2,k1,k2,?_⟩
   have l1:=r1.length
   have l2:=r2.length
   have hf:decide (its1.toArray.size < its2.toArray.size)=false:=decide_eq_false (by simp at l1 l2 ⊢;omega)
   rw[hf]
   refine heads r1 r2 (fun z=>absurd rfl z) (fun _ us' vs' t1 t2=>?_)
   cases t1 with
   | cons a1 u1 =>
    cases t2 with
    | cons a2 u2 =>
     obtain⟨tx,rfl⟩:=a1
     obtain⟨ty,rfl⟩:=a2
     cases u1;cases u2
     have e0:lexT (Tm.ltr x).spell (Tm.ltr y).spell=lexT [x] [y]:=lexT_same "letter" [x] [y]
     rw[e0] at hq
     refine W.kat_cons (wpAny_eqBool_str ?_)
     refine W.kat_go (fun e=>W.kat_yes (W.kat_nil ?_)) (fun e=>W.kat_no ?_)
     ·have:=of_decide_eq_true e
      rw[this,irrT] at hq;exact hq
     ·rw[lexT_diff (of_decide_eq_false e)] at hq
      exact W.kat_one _ _ (P.lt_str hq)
  | nd k c d =>
   obtain⟨q',vx,vy,e2,hs2,_⟩:=isT_nd.mp hb
   cases e2
   obtain⟨its2,o2,n2,r2,k1,k2⟩:=opn hs2
   exact⟨o1,o2,_,_,n1,n2,g1,g2,k1,k2,by simpa using done (fin:=_) (A1:=[x]) rfl (spell_nd k c d) (fun z=>kd_ltr k z.symm) r1 r2⟩
 | nd k c d =>
  obtain⟨p',vx,vy,e1,hs1,hx1,hy1⟩:=isT_nd.mp ha
  cases e1
  obtain⟨its1,o1,n1,r1,g1,g2⟩:=opn hs1
  cases b with
  | low =>
   obtain⟨q',e2,hs2⟩:=isT_low.mp hb
   cases e2
   obtain⟨its2,o2,n2,r2,k1,k2⟩:=opn hs2
   exact⟨o1,o2,_,_,n1,n2,g1,g2,k1,k2,by simpa using done (fin:=_) (B1:=[]) (spell_nd k c d) rfl (kd_low k) r1 r2⟩
  | ltr y =>
   obtain⟨q',e2,hs2⟩:=isT_ltr.mp hb
   cases e2
   obtain⟨its2,o2,n2,r2,k1,k2⟩:=opn hs2
   exact⟨o1,o2,_,_,n1,n2,g1,g2,k1,k2,by simpa using done (fin:=_) (B1:=[y]) (spell_nd k c d) rfl (kd_ltr k) r1 r2⟩
  | nd k' c' d' =>
   obtain⟨q',wx,wy,e2,hs2,hx2,hy2⟩:=isT_nd.mp hb
   cases e2
   obtain⟨its2,o2,n2,r2,k1,k2⟩:=opn hs2
   refine⟨o1,o2,_,_,n1,n2,g1,g2,k1,k2,?_⟩
   have l1:=r1.length
   have l2:=r2.length
   have hf:decide (its1.toArray.size < its2.toArray.size)=false:=decide_eq_false (by simp at l1 l2 ⊢;omega)
   rw[hf]
   have dp:(Tm.nd k c d).deep=1+max c.deep d.deep:=rfl
   refine heads r1 r2 (fun z=>?_) (fun ek us' vs' t1 t2=>?_)
   ·rw[spell_nd,spell_nd,lexT_diff z] at hq
    exact hq
   ·have ek':k=k':=by cases k<;>cases k'<;>first | rfl | (exact absurd ek (by decide))
    subst ek'
    rw[spell_nd,spell_nd,lexT_same] at hq
    cases t1 with
    | cons a1 u1 =>
     cases t2 with
     | cons a2 u2 =>
      refine W.kat_cons (eq_tm I hx1 hx2 a1 a2 oa.1 ob.1 (by omega) X.prog X.w _ _ ?_)
      refine W.kat_go (fun e=>W.kat_yes ?_) (fun e=>W.kat_no (W.kat_one _ _ ?_))
      ·have ec:c=c':=of_decide_eq_true e
       subst ec
       rw[lexT_app] at hq
       cases u1 with
       | cons a3 u3 =>
        cases u2 with
        | cons a4 u4 =>
         cases u3;cases u4
         refine W.kat_cons (eq_tm I hy1 hy2 a3 a4 oa.2 ob.2 (by omega) X.prog X.w _ _ ?_)
         refine W.kat_go (fun e=>W.kat_yes (W.kat_nil ?_)) (fun e=>W.kat_no (W.kat_one _ _ ?_))
         ·have ed:d=d':=of_decide_eq_true e
          subst ed
          rw[irrT] at hq;exact hq
         ·exact lt_tm I hy1 hy2 a3 a4 oa.2 ob.2 (of_decide_eq_false e) (by omega) X.prog X.w _ _ hq
      ·have hne:c≠c':=of_decide_eq_false e
       rw[lexT_pre _ _ hne] at hq
       exact lt_tm I hx1 hx2 a1 a2 oa.1 ob.1 hne (by omega) X.prog X.w _ _ hq
theorem isT_first {K:PySem.W.Frag} {H:Hp} {v:V} {t:Tm} (h:IsT K H v t):∃ p x xs,v=.ref p∧SqT K H p (.str x :: xs):=by
 cases t with
 | low=>obtain⟨p,e,hs⟩:=isT_low.mp h;exact⟨p,_,_,e,hs⟩
 | ltr y=>obtain⟨p,e,hs⟩:=isT_ltr.mp h;exact⟨p,_,_,e,hs⟩
 | nd k a b=>obtain⟨p,x,y,e,hs,_⟩:=isT_nd.mp h;exact⟨p,_,_,e,hs⟩
theorem katTups_tm {pins:List (Addr×Obj)} {σ:L2.St} {H:Hp} {s:Shared} (I:Inv X pins σ H s):∀ {us:List V} {ts:List Tm} {vs:List Value},Paired (IsT X.K H) us ts→Vals us vs→∃ fs,W.KatTups s.heap vs fs∧fs.length=vs.length∧∀ v∈fs,∃ x t,v=.str x t
 | _,_,_,.nil,.nil=>⟨[],W.KatTups.nil,rfl,by simp⟩
 | _,_,_,.cons hv t,.cons r rr=>by
  obtain⟨p,x,xs,rfl,hs⟩:=isT_first hv
  cases r
  obtain⟨its,rv,⟨o,h1,h2,n,h3⟩,_⟩:=I.tuple hs
  obtain⟨fs,g1,g2,g3⟩:=katTups_tm I t rr
  cases rv with
  | cons a1 t1 =>
   obtain⟨tk,rfl⟩:=a1
   refine⟨.str x tk :: fs,W.KatTups.cons h1 h2 h3 (by simp) g1,by rw[List.length_cons,List.length_cons,g2],fun v hv=>?_⟩
   rcases List.mem_cons.mp hv with rfl | hv
   ·exact⟨_,_,rfl⟩
   ·exact g3 v hv
theorem getD_val {us:List V} {vs:List Value} (h:Vals us vs) {i:Nat} (hi:i < us.length):RelV (us.getD i .non) (vs.getD i .none):=by
 obtain⟨u,hu,r⟩:=h.get (List.getElem?_eq_getElem hi)
 have e1:us.getD i .non=us[i]:=by simp[hi]
 have e2:vs.getD i .none=u:=by simp[hu]
 rw[e1,e2];exact r
theorem call_sortedM (hc:X.calm=true) (hu:X.A.units+150 < cLine):CallR X (.builtin "sorted") (fun xs H Q=>∃ (a:Addr) (us:List V) (ts:List Tm),xs=[.ref a]∧H a=some (.lst us)∧Paired (IsT X.K H) us ts∧(∀ t∈ts,t.ok∧t.deep≤120)∧ts.length < 64 ∧
    ∀ (l:Addr) (ws:List V) (os:List Tm),H l=none→Paired (IsT X.K H) ws os→List.Perm os ts→os.Pairwise (fun a b=>lexT b.spell a.spell=false)→Q (.ref l) (upd H l (.lst ws))):=by
  intro pins s σ H xs us0 Q I r h
  obtain⟨a,us,ts,rfl,ha,hT,hok,h64,q⟩:=h
  obtain⟨u,rfl,ru⟩:=vals1 r
  cases ru
  have lu:=Paired.length hT
  obtain⟨hz,vs,n0,rv,ho⟩:ObjOk X.prog X.w H s.heap a (.lst us):=I.hok a _ ha
  have lv:=rv.length
  obtain⟨m,hm,hloc⟩:=I.loc
  have haL:a≠X.env.locals:=ne_of_none ha I.free
  have hl:s.heap.IsList a vs.toArray:=⟨_,ho,rfl,_,rfl⟩
  have small:∀ (h2:Heap) (D c:Nat) (tk:Nat) (ws:List V) (os:List Tm) (vs2:List Value),(∀ b ob,b≠X.env.locals→s.heap.get? b=some ob→h2.get? b=some ob)→h2.Ns X.env.locals m→s.heap.get? D=none→h2.get? D=some (W.listOf vs2.toArray c)→Vals ws vs2→ws.length=us.length→Paired (IsT X.K H) ws os→List.Perm os ts→os.Pairwise (fun a b=>lexT b.spell a.spell=false)→EP X pins σ Q (.ref D) { s with heap:=h2,toks:=tk }:=by
    intro h2 D c tk ws os vs2 hk2 hn2 hsD hg2 hv hwl hp hpm hpw
    have lw:ws.length≤sizeLine:=Nat.le_trans (show ws.length≤64 by omega) (by decide)
    obtain⟨I2,hHD⟩:=inv_new (o0:=.lst ws) (tk:=tk) I hm hk2 hn2 hsD ⟨lw,_,c,hv,hg2⟩
    exact⟨.ref D,_,I2,rfl,q D ws os hHD hp hpm hpw⟩
  by_cases h2:vs.length < 2
  ·
    refine Calls.call_function_entry kind_sorted plain_sorted entry_sorted (args_sorted1 (.ref a)) ?_
    show wpAny _ _ (pure () >>= _) _ _ _
    have hs64:vs.length≤sizeLine:=by rw[← lv,lu];exact Nat.le_trans (Nat.le_of_lt h64) (by decide)
    refine wpAny_bind (wpAny_pure (wpAny_bind (collect_list hl ?_ hs64)))
    generalize hA:((s.heap.push (seqObj "list" #[] 0)).update s.heap.objs.size (Obj.mapSeq fun x=>x++vs.toArray))=hB
    have kB:∀ b ob,s.heap.get? b=some ob→hB.get? b=some ob:=fun b ob e=>by
      rw[← hA,Heap.get?_update_other _ _ (Ne.symm (Nat.ne_of_lt (Heap.lt_size e)))]
      exact Heap.get?_push_of_some _ e
    have sB:s.heap.objs.size < hB.objs.size:=by
      rw[← hA,Heap.size_update,Heap.size_push]
      exact Nat.lt_succ_self _
    refine wpAny_bind (wpAny_newList ?_ hs64)
    have hoL:(hB.push (seqObj "list" vs.toArray 0)).get? hB.objs.size=some (seqObj "list" vs.toArray 0):=Heap.get?_push_size _ rfl
    refine wpAny_bind (wpAny_holding (sort_small h2 hoL ?_))
    obtain⟨e1,he1⟩:=sortedHeap_at (out:=vs.toArray) hoL
    have old:∀ b ob,s.heap.get? b=some ob→(sortedHeap (hB.push (seqObj "list" vs.toArray 0)) hB.objs.size vs vs.toArray).get? b=some ob:=fun b ob e=>by
      have hb:=kB b ob e
      rw[sortedHeap_old (Nat.ne_of_lt (Heap.lt_size hb)) (by rw[Heap.size_push];exact Nat.lt_succ_of_lt (Heap.lt_size hb))]
      exact Heap.get?_push_of_some _ hb
    refine wpAny_pure ⟨_,rfl,?_⟩
    have hsD:s.heap.get? hB.objs.size=none:=by
      cases e:s.heap.get? hB.objs.size with
      | none=>rfl
      | some ob=>exact absurd (Heap.lt_size e) (Nat.not_lt.mpr (Nat.le_of_lt sB))
    refine small _ hB.objs.size e1 s.toks us ts vs (fun b ob _ e=>old b ob e) ?_ hsD he1 rv rfl hT (List.Perm.refl _) ?_
    · obtain⟨o',es',ep',q1,q2⟩:=hm
      exact⟨o',es',ep',old _ _ q1,q2⟩
    · have l2:ts.length < 2:=by omega
      cases ts with
      | nil=>exact .nil
      | cons x l =>
        cases l with
        | nil=>exact List.pairwise_singleton _ _
        | cons y l=>exact absurd l2 (by rw[List.length_cons,List.length_cons];omega)
  · have N0:=Att.news_ledger (L:=X.env.locals) haL ho
    have inN:∀ b ob,b≠X.env.locals→s.heap.get? b=some ob→(b,ob)∈([]++(a,({ cls:=.type "list",data:=.seq vs.toArray n0 }:Obj)) :: Att.ledger s.heap X.env.locals a):=fun b ob hb e=>by
      by_cases hba:b=a
      · subst hba;rw[ho] at e;cases e;exact List.mem_cons_self
      · exact List.mem_cons_of_mem _ (Att.mem_ledger.mpr ⟨hb,hba,e⟩)
    refine W.kat_sorted (Att.fr_all hm) N0 hl (by omega) (by omega) fun D e1 h' F' N' hlow=>?_
    have hDL:D≠X.env.locals:=(N' _ List.mem_cons_self).2.1
    have hgD:h'.get? D=some (seqObj "list" #[] e1):=(N' _ List.mem_cons_self).1
    have hsD:s.heap.get? D=none:=by
      cases e:s.heap.get? D with
      | none=>rfl
      | some ob=>exact absurd (hlow _ (inN D ob hDL e)) (Nat.lt_irrefl _)
    have kpN:∀ {h2:Heap} {ob:Obj},News (Att.noObjs s.heap) X.env.locals h2 ((D,ob) :: ([]++(a,({ cls:=.type "list",data:=.seq vs.toArray n0 }:Obj)) :: Att.ledger s.heap X.env.locals a))→∀ b ob',b≠X.env.locals→s.heap.get? b=some ob'→h2.get? b=some ob':=fun N2 b ob' hb e=>(N2 (b,ob') (List.mem_cons_of_mem _ (inN b ob' hb e))).1
    obtain⟨I2,hHD⟩:=inv_new (o0:=.lst []) (tk:=s.toks) I hm (kpN N') F'.ns hsD ⟨Nat.zero_le _,[],e1,.nil,hgD⟩
    have hT2:Paired (IsT X.K (upd H D (.lst []))) us ts:=Paired.mapP hT fun _ _ z=>z.keep (keepT_new hHD)
    obtain⟨fs,g1,g2,g3⟩:=katTups_tm I2 hT2 rv
    refine W.kat_kind (T:=.type "str") g1 (by omega) (fun v hv=>?_) (by decide) ?_
    · obtain⟨x,t,rfl⟩:=g3 v hv
      exact fun A Q E s _ q=>wpAny_pure q
    have getT:∀ i,i < vs.length→IsT X.K (upd H D (.lst [])) (us.getD i .non) (ts.getD i .low)∧RelV (us.getD i .non) (vs.getD i .none)∧ts.getD i .low∈ts:=fun i hi=>by
      obtain⟨t,e,z⟩:=paired_get hT2 (List.getElem?_eq_getElem (show i < us.length by omega))
      have e1:us.getD i .non=us[i]:=by simp[show i < us.length by omega]
      have e2:ts.getD i .low=t:=by simp[e]
      refine⟨by rw[e1,e2];exact z,getD_val rv (by omega),by rw[e2];exact List.mem_of_getElem? e⟩
    have O:WkOrd vs.length (fun i j=>lexT (ts.getD i .low).spell (ts.getD j .low).spell):=by
      refine⟨fun x y z _ _ _ h1 h2=>?_,fun x y _ _ h=>lexT_asym h⟩
      show lexT (ts.getD z .low).spell (ts.getD x .low).spell=false
      replace h1:lexT (ts.getD y .low).spell (ts.getD x .low).spell=false:=h1
      replace h2:lexT (ts.getD z .low).spell (ts.getD y .low).spell=false:=h2
      cases e:lexT (ts.getD z .low).spell (ts.getD x .low).spell with
      | false=>rfl
      | true =>
        exfalso
        by_cases exy:(ts.getD x .low).spell=(ts.getD y .low).spell
        · rw[exy] at e;rw[e] at h2;cases h2
        · rcases lexT_tot exy with w | w
          · have:=lexT_trans e w
            rw[this] at h2;cases h2
          · rw[w] at h1;cases h1
    refine wp_wsort O (S:=fun s'=>s'={ s with heap:=h' }) (fun i j C s' hi hj hij hs hC=>?_) (by omega) _ rfl fun p s' hp hwa hs=>?_
    · subst hs
      obtain⟨i1,i2,i3⟩:=getT i hi
      obtain⟨j1,j2,j3⟩:=getT j hj
      unfold W.kas_ask
      obtain⟨pi,_,_,ei,_⟩:=isT_first i1
      obtain⟨pj,_,_,ej,_⟩:=isT_first j1
      rw[ei] at i1 i2
      rw[ej] at j1 j2
      have ri:vs.getD i .none=.ref pi:=i2
      have rj:vs.getD j .none=.ref pj:=j2
      rw[ri,rj]
      obtain⟨ox,oy,xs,ys,n,k,z1,z2,z3,z4,z5⟩:=katLex_tm (A:=X.A.in1.in1) I2 i1 j1 (hok _ i3).1 (hok _ j3).1 (by
        have:=(hok _ i3).2
        show X.A.units+1+1+_+4 < cLine
        omega) (Q:=C) (hC _ rfl)
      exact W.kat_lt z1 z2 z3 z4 z5
    · subst hs
      have P:=permOk_of hp
      have pl:∀ i∈p.toList,i < vs.length:=fun i hi=>by
        have h1:p.toList.Perm (List.range vs.length):=by simpa using (Array.perm_iff_toList_perm.mp hp)
        simpa using h1.mem_iff.mp hi
      refine W.KasFin.intro F' N' (W.UpdF.head (fun x hx=>Nat.ne_of_lt (hlow x hx))) fun h'' c F'' N''=>?_
      have hvp:Vals (p.toList.map fun i=>us.getD i .non) (p.toList.map fun i=>vs.getD i .none):=by
        have gen:∀ is:List Nat,(∀ i∈is,i < us.length)→Vals (is.map fun i=>us.getD i .non) (is.map fun i=>vs.getD i .none):=by
          intro is
          induction is with
          | nil=>intro _;exact .nil
          | cons i is ih=>intro h;exact .cons (getD_val rv (h i List.mem_cons_self)) (ih fun j hj=>h j (List.mem_cons_of_mem _ hj))
        exact gen _ fun i hi=>by have:=pl i hi;omega
      refine small h'' D c s.toks _ (p.toList.map fun i=>ts.getD i .low) _ (kpN N'') F''.ns hsD (N'' _ List.mem_cons_self).1 hvp ?_ (paired_pick hT fun i hi=>by have:=pl i hi;omega) ?_ ?_
      · rw[List.length_map,Array.length_toList,P.size];omega
      · refine perm_map ?_
        rw[show ts.length=vs.length by omega];exact hp
      · rw[List.pairwise_iff_getElem]
        intro i j hi hj hij
        rw[List.length_map,Array.length_toList,P.size] at hi hj
        have:=hwa i j hij (by omega)
        have hi':i < p.size:=by rw[P.size];exact hi
        have hj':j < p.size:=by rw[P.size];exact hj
        have gi:gd p i=p.toList[i]'(by rw[Array.length_toList];exact hi'):=gd_eq (by simp[hi'])
        have gj:gd p j=p.toList[j]'(by rw[Array.length_toList];exact hj'):=gd_eq (by simp[hj'])
        rw[gi,gj] at this
        simpa using this
end
end Ken
namespace Ken
open PySem L2
noncomputable def sp_whole:Sp:=fun vs H Q _=>∃ i:Int,vs=[.int i]∧Q (.bl true) H
end Ken
namespace Ken
open PySem L2
theorem eqvAll_self:∀ {ds:List PyData},(∀ d∈ds,PyData.eqv d d=true)→PyData.eqvAll ds ds=true
 | [],_=>rfl
 | d :: ds,h=>by
  show (PyData.eqv d d&&PyData.eqvAll ds ds)=true
  rw[h d List.mem_cons_self,eqvAll_self fun e he=>h e (List.mem_cons_of_mem _ he)];rfl
theorem depth_list {ds:List PyData} {n:Nat} (h:∀ d∈ds,d.depth≤n):(PyData.list ds).depth≤n+1:=by
 show PyData.depthAll ds+1≤n+1
 have:PyData.depthAll ds≤n:=by
  induction ds with
  | nil=>exact Nat.zero_le _
  | cons d ds ih =>
   show max d.depth (PyData.depthAll ds)≤n
   exact Nat.max_le.mpr ⟨h d List.mem_cons_self,ih fun e he=>h e (List.mem_cons_of_mem _ he)⟩
 omega
end Ken
namespace L2
open PySem PySem.Spec PyProof.Rows
end L2
namespace L2
open PySem PySem.Spec PyProof.Rows
end L2
namespace Ken
open PySem L2
end Ken
namespace L2
open PySem PySem.Spec PyProof.Rows
end L2
namespace Ken
open PySem L2
theorem take_snoc {α:Type} {l:List α} {i:Nat} {x:α} (h:l[i]?=some x):l.take (i+1)=l.take i++[x]:=by
 rw[List.take_add_one,h];rfl
end Ken
namespace Ken
open PySem L2
end Ken
namespace Ken
open PySem L2
end Ken
namespace L2
open PySem
end L2
namespace Ken
open PySem L2
theorem paired_take {α β:Type} {F:α→β→Prop}:∀ {l:List α} {m:List β},Paired F l m→∀ n,Paired F (l.take n) (m.take n)
 | _,_,.nil,n=>by rw[List.take_nil,List.take_nil];exact .nil
 | _,_,.cons h t,0=>by rw[List.take_zero,List.take_zero];exact .nil
 | _,_,.cons h t,n+1=>by rw[List.take_succ_cons,List.take_succ_cons];exact .cons h (paired_take t n)
theorem tms_depth {ts:List Tm} {n:Nat} (h:∀ t∈ts,t.deep≤n):(PyData.list (ts.map Tm.data)).depth≤n+1:=depth_list fun d hd=>by
 obtain⟨x,hx,rfl⟩:=List.mem_map.mp hd
 rw[Tm.depth];exact h x hx
end Ken
namespace L2
open PySem PySem.Spec PyProof.Rows
section
variable {X:Cx}
noncomputable def rInsert:V→List V→Hp→VK→Prop:=fun x vs H Q=>∃ (l:Addr) (xs:List V) (k:Nat) (y:V),x=.ref l∧vs=[.int (k:Nat),y]∧H l=some (.lst xs)∧k≤xs.length∧xs.length < 1000000∧Q .non (upd H l (.lst (xs.take k++y :: xs.drop k)))
theorem mt_insert:MtM X "list.insert" rInsert:=by
 intro pins s σ H x vs v us Q I rx rv h
 obtain⟨l,xs,k,y,rfl,rfl,hH,hk,hz,q⟩:=h
 cases rx
 cases rv with
 | cons r1 rr =>
  cases rr with
  | cons r2 rr =>
   cases rr
   obtain⟨t,rfl⟩:=r1
   rename_i u2
   obtain⟨z,its,n,r,hl,e⟩:=I.lstM hH
   obtain⟨kk,hkk⟩:∃ kk:Int,((k:Nat):Int)=kk:=⟨_,rfl⟩
   rw[hkk]
   have hfit:¬ (!Builtin.List.listFitsIndex kk)=true:=by
    have h1:(-(2 ^ 63:Int)≤kk):=by omega
    have h2:kk < 2 ^ 63:=by omega
    have h3:Builtin.List.listFitsIndex kk=true:=by
     show (decide _&&decide _)=true
     rw[decide_eq_true h1,decide_eq_true h2];rfl
    rw[h3];decide
   have mt:=AutoSeq1.list_insert_list_int_val_1 l its.toArray n kk t u2 hfit (Nat.le_trans (Nat.le_of_eq (by rw[List.size_toArray,hl])) z)
   refine call_meets F.slot_list_insert ⟨_,e,rfl⟩ F.entry_list_insert (F.args_list_insert_3 _ _ _) mt ⟨e,?_⟩
   refine⟨.non,_,I.lset (its':=its.take k++u2 :: its.drop k) hH e ?_ ((r.take k).append (.cons r2 (r.drop k))) ?_,rfl,q⟩
   ·show ((its.toArray.extract 0 (if kk < 0 then (kk+(its.toArray.size:Int)).toNat else min kk.toNat its.toArray.size)).push u2++its.toArray.extract (if kk < 0 then (kk+(its.toArray.size:Int)).toNat else min kk.toNat its.toArray.size))=_
    rw[if_neg (by omega),show min kk.toNat its.toArray.size=k by rw[List.size_toArray];omega]
    apply Array.ext'
    rw[Array.toList_append,Array.toList_push,Array.toList_extract,Array.toList_extract,List.append_assoc]
    simp[List.extract]
    try rw[List.take_of_length_le (by rw[List.length_drop];exact Nat.le_refl _)]
   ·rw[List.length_append,List.length_cons,List.length_take,List.length_drop]
    exact Nat.le_of_lt (Ken.small1M (by omega))
end
end L2
namespace Ken
open PySem L2
end Ken
namespace Ken
open PySem L2
end Ken
namespace Ken
open PySem L2
end Ken
namespace Ken
open PySem L2 PyProof.Rows
theorem paired_snocK {α β:Type} {F:α→β→Prop}:∀ {l:List α} {m:List β} {y:β},Paired F l (m++[y])→∃ l' x,l=l'++[x]∧Paired F l' m∧F x y
 | _,[],_,h=>by
  cases h with
  | cons hx t=>cases t;exact⟨[],_,rfl,.nil,hx⟩
 | _,z :: m,_,h=>by
  cases h with
  | cons hx t =>
   obtain⟨l',x,rfl,h1,h2⟩:=paired_snocK t
   exact⟨_ :: l',x,rfl,.cons hx h1,h2⟩
end Ken
namespace Ken
open PySem L2
theorem uniqR {α:Type} [DecidableEq α] {lt:α→α→Bool} (asym:∀ a b,lt a b=true→lt b a=false):∀ {l m:List α},l.Pairwise (fun a b=>lt a b=true)→m.Pairwise (fun a b=>lt a b=true)→(∀ x,x∈l↔x∈m)→l=m
 | [],m,_,_,h=>by
  cases m with
  | nil=>rfl
  | cons y m=>exact absurd ((h y).mpr List.mem_cons_self) (by simp)
 | x :: l,[],_,_,h=>absurd ((h x).mp List.mem_cons_self) (by simp)
 | x :: l,y :: m,hl,hm,h=>by
  rw[List.pairwise_cons] at hl hm
  have e:x=y:=by
   by_cases e:x=y
   ·exact e
   have h1:x∈m:=((List.mem_cons.mp ((h x).mp List.mem_cons_self)).resolve_left e)
   have h2:y∈l:=((List.mem_cons.mp ((h y).mpr List.mem_cons_self)).resolve_left fun z=>e z.symm)
   have a1:=hm.1 x h1
   have a2:=asym _ _ (hl.1 y h2)
   rw[a1] at a2;cases a2
  subst e
  have nx:∀ {k:List α},(∀ a∈k,lt x a=true)→x ∉ k:=fun hk z=>by
   have a1:=hk x z
   have a2:=asym _ _ a1
   rw[a1] at a2;cases a2
  rw[uniqR asym hl.2 hm.2 fun z=>⟨fun hz=>((List.mem_cons.mp ((h z).mp (List.mem_cons_of_mem _ hz))).resolve_left fun e=>nx hl.1 (e▸hz)),fun hz=>((List.mem_cons.mp ((h z).mpr (List.mem_cons_of_mem _ hz))).resolve_left fun e=>nx hm.1 (e▸hz))⟩]
theorem uniqT {l m:List Tm} (hl:sortedT l) (hm:sortedT m) (h:∀ x,x∈l↔x∈m):l=m:=by
 unfold sortedT at hl hm
 exact uniqR (lt:=fun a b=>lexT a.spell b.spell) (fun a b z=>lexT_asym z) hl hm h
end Ken
namespace L2
open PySem PySem.Spec PyProof.Rows Ken
end L2
namespace Ken
open PySem L2
end Ken
namespace Ken
open PySem L2
end Ken
namespace Ken
open PySem L2
end Ken
namespace Ken
open PySem L2
noncomputable abbrev ltT (a b:Tm):Bool:=lexT a.spell b.spell
theorem ltT_irr (a:Tm):ltT a a=false:=by
 cases e:ltT a a with
 | false=>rfl
 | true=>have:=lexT_asym e;unfold ltT at e;rw[e] at this;exact this
theorem ltT_tot {a b:Tm} (h:a≠b):ltT a b=true∨ltT b a=true:=lexT_tot fun z=>h (spell_inj z)
theorem cmp_lt (a b:Tm):cmpT a b < 0↔ltT a b=true:=by
 unfold cmpT
 by_cases e:a=b
 ·rw[if_pos e,e]
  constructor
  ·intro h;omega
  ·intro h;rw[ltT_irr] at h;cases h
 ·rw[if_neg e]
  cases h:lexT a.spell b.spell with
  | true=>rw[if_pos rfl];exact⟨fun _=>h,fun _=>by decide⟩
  | false=>rw[if_neg (by decide)];exact⟨fun z=>absurd z (by decide),fun z=>by unfold ltT at z;rw[h] at z;cases z⟩
theorem cmp_eq (a b:Tm):cmpT a b=0↔a=b:=by
 unfold cmpT
 by_cases e:a=b
 ·rw[if_pos e];exact⟨fun _=>e,fun _=>rfl⟩
 ·rw[if_neg e]
  refine⟨fun z=>?_,fun z=>absurd z e⟩
  split at z<;>omega
noncomputable def insT (t:Tm):List Tm→List Tm
 | []=>[t]
 | x :: l=>if t=x then x :: l else if ltT t x=true then t :: x :: l else x :: insT t l
theorem mem_insT {t x:Tm}:∀ {l:List Tm},x∈insT t l↔x=t∨x∈l
 | []=>by simp[insT]
 | y :: l=>by
  unfold insT
  by_cases e:t=y
  ·rw[if_pos e,e]
   simp
  ·rw[if_neg e]
   by_cases h:ltT t y=true
   ·rw[if_pos h];simp
   ·rw[if_neg h,List.mem_cons,mem_insT,List.mem_cons]
    constructor
    ·rintro (z | z | z)
     ·exact .inr (.inl z)
     ·exact .inl z
     ·exact .inr (.inr z)
    ·rintro (z | z | z)
     ·exact .inr (.inl z)
     ·exact .inl z
     ·exact .inr (.inr z)
theorem sorted_insT {t:Tm}:∀ {l:List Tm},sortedT l→sortedT (insT t l)
 | [],_=>List.pairwise_singleton _ _
 | y :: l,h=>by
  have h':=List.pairwise_cons.mp h
  unfold insT
  by_cases e:t=y
  ·rw[if_pos e];exact h
  ·rw[if_neg e]
   by_cases hl:ltT t y=true
   ·rw[if_pos hl]
    refine List.pairwise_cons.mpr ⟨fun x hx=>?_,h⟩
    rcases List.mem_cons.mp hx with z | z
    ·rw[z];exact hl
    ·exact lexT_trans hl (h'.1 x z)
   ·rw[if_neg hl]
    refine List.pairwise_cons.mpr ⟨fun x hx=>?_,sorted_insT h'.2⟩
    rcases mem_insT.mp hx with z | z
    ·rw[z];exact (ltT_tot e).resolve_left hl
    ·exact h'.1 x z
noncomputable def norm (l:List Tm):List Tm:=l.foldr insT []
theorem mem_norm {l:List Tm} {x:Tm}:x∈norm l↔x∈l:=by
 unfold norm
 induction l with
 | nil=>simp
 | cons y l ih=>rw[List.foldr_cons,mem_insT,ih,List.mem_cons]
theorem sorted_norm (l:List Tm):sortedT (norm l):=by
 unfold norm
 induction l with
 | nil=>exact .nil
 | cons y l ih=>rw[List.foldr_cons];exact sorted_insT ih
theorem norm_uniq {os l:List Tm} (h:sortedT os) (hm:∀ x,x∈os↔x∈l):os=norm l:=uniqT h (sorted_norm l) fun x=>by rw[hm x,mem_norm]
theorem norm_congr {l m:List Tm} (h:∀ x,x∈l↔x∈m):norm l=norm m:=norm_uniq (sorted_norm l) fun x=>by rw[mem_norm];exact h x
theorem sortedT_nd {l:List Tm} (h:sortedT l):l.Nodup:=by
 have h':l.Pairwise (fun a b=>lexT a.spell b.spell=true):=h
 refine h'.imp fun {a b} h z=>?_
 have:=ltT_irr b
 unfold ltT at this
 rw[z,this] at h;cases h
noncomputable def rem (ws:List Tm) (o:Tm):List Tm:=ws.filter fun x=>decide (x≠o)
theorem mem_rem {ws:List Tm} {o x:Tm}:x∈rem ws o↔x∈ws∧x≠o:=by unfold rem;rw[List.mem_filter,decide_eq_true_iff]
noncomputable def plc (ws:List Tm) (t:Tm):Nat:=(ws.filter fun x=>ltT x t).length
theorem plc_spec {t:Tm}:∀ {ws:List Tm},sortedT ws→(∀ i x,i < plc ws t→ws[i]?=some x→ltT x t=true)∧(∀ i x,plc ws t≤i→ws[i]?=some x→ltT x t=false)∧plc ws t≤ws.length
 | [],_=>⟨fun i x h=>absurd h (Nat.not_lt_zero _),fun i x _ h=>by simp at h,Nat.le_refl _⟩
 | y :: l,h=>by
  have h':=List.pairwise_cons.mp h
  obtain⟨g1,g2,g3⟩:=plc_spec (t:=t) h'.2
  cases e:ltT y t with
  | true =>
   have ep:plc (y :: l) t=plc l t+1:=by unfold plc;rw[List.filter_cons,if_pos e];rfl
   rw[ep]
   refine⟨fun i x hi hx=>?_,fun i x hi hx=>?_,by rw[List.length_cons];omega⟩
   ·cases i with
    | zero=>cases hx;exact e
    | succ i=>exact g1 i x (by omega) hx
   ·cases i with
    | zero=>omega
    | succ i=>exact g2 i x (by omega) hx
  | false =>
   have all:∀ x∈y :: l,ltT x t=false:=fun x hx=>by
    rcases List.mem_cons.mp hx with z | z
    ·rw[z];exact e
    ·cases e2:ltT x t with
     | false=>rfl
     | true=>have:=lexT_trans (h'.1 x z) e2;unfold ltT at e;rw[this] at e;cases e
   have ep:plc (y :: l) t=0:=by
    unfold plc
    rw[List.length_eq_zero_iff,List.filter_eq_nil_iff]
    exact fun x hx=>by rw[all x hx];decide
   rw[ep]
   exact⟨fun i x hi=>absurd hi (Nat.not_lt_zero _),fun i x _ hx=>all x (List.mem_of_getElem? hx),Nat.zero_le _⟩
theorem plc_eq {ws:List Tm} {t:Tm} {m:Nat} (h:sortedT ws) (hm:m≤ws.length) (h1:∀ i x,i < m→ws[i]?=some x→ltT x t=true) (h2:∀ i x,m≤i→ws[i]?=some x→ltT x t=false):plc ws t=m:=by
 obtain⟨g1,g2,g3⟩:=plc_spec (t:=t) h
 rcases Nat.lt_trichotomy (plc ws t) m with z | z | z
 ·have hx:plc ws t < ws.length:=by omega
  have a1:=h1 _ _ z (List.getElem?_eq_getElem hx)
  rw[g2 _ _ (Nat.le_refl _) (List.getElem?_eq_getElem hx)] at a1;cases a1
 ·exact z
 ·have hx:m < ws.length:=by omega
  have a1:=g1 _ _ z (List.getElem?_eq_getElem hx)
  rw[h2 _ _ (Nat.le_refl _) (List.getElem?_eq_getElem hx)] at a1;cases a1
theorem plc_mem {ws:List Tm} {t:Tm} (h:sortedT ws):t∈ws↔ws[plc ws t]?=some t:=by
 refine⟨fun hm=>?_,fun z=>List.mem_of_getElem? z⟩
 obtain⟨i,hi,e⟩:=List.getElem_of_mem hm
 have:plc ws t=i:=plc_eq h (by omega) (fun j x hj hx=>?_) (fun j x hj hx=>?_)
 ·rw[this,List.getElem?_eq_getElem hi,e]
 ·obtain⟨a1,b1⟩:=List.getElem?_eq_some_iff.mp hx
  have:=List.pairwise_iff_getElem.mp h j i a1 hi hj
  rw[b1,e] at this;exact this
 ·obtain⟨a1,b1⟩:=List.getElem?_eq_some_iff.mp hx
  rcases Nat.lt_or_ge i j with z | z
  ·have:=List.pairwise_iff_getElem.mp h i j hi a1 z
   rw[b1,e] at this
   exact lexT_asym this
  ·have:j=i:=by omega
   subst this
   rw[e] at b1;rw[← b1];exact ltT_irr _
theorem ins_at {ws:List Tm} {t:Tm} (h:sortedT ws) (hm:¬ t∈ws):sortedT (ws.take (plc ws t)++t :: ws.drop (plc ws t)):=by
 obtain⟨g1,g2,g3⟩:=plc_spec (t:=t) h
 have hh:(ws.take (plc ws t)++ws.drop (plc ws t)).Pairwise (fun a b=>lexT a.spell b.spell=true):=by rw[List.take_append_drop];exact h
 have hp:=List.pairwise_append.mp hh
 have left:∀ x∈ws.take (plc ws t),ltT x t=true:=fun x hx=>by
  obtain⟨i,hi,e⟩:=List.getElem_of_mem hx
  rw[List.length_take] at hi
  exact g1 i x (by omega) (by rw[List.getElem_take] at e;rw[List.getElem?_eq_getElem (by omega),e])
 have right:∀ x∈ws.drop (plc ws t),ltT t x=true:=fun x hx=>by
  obtain⟨i,hi,e⟩:=List.getElem_of_mem hx
  rw[List.length_drop] at hi
  rw[List.getElem_drop] at e
  have:=g2 (plc ws t+i) x (by omega) (by rw[List.getElem?_eq_getElem (by omega),e])
  have hne:t≠x:=fun z=>hm (by rw[z,← e];exact List.getElem_mem _)
  rcases ltT_tot hne with y | y
  ·exact y
  ·rw[this] at y;cases y
 refine List.pairwise_append.mpr ⟨hp.1,List.pairwise_cons.mpr ⟨fun x hx=>right x hx,hp.2.1⟩,fun x hx y hy=>?_⟩
 rcases List.mem_cons.mp hy with z | z
 ·rw[z];exact left x hx
 ·exact hp.2.2 x hx y z
inductive Rl where
 | wish | low | both | first | second | thn | parts | cases | known | curried | either | idle | chain | use
 deriving DecidableEq
noncomputable def Rl.str:Rl→Str
 | .wish=>"wish" | .low=>"low" | .both=>"both" | .first=>"first" | .second=>"second" | .thn=>"then" | .parts=>"parts" | .cases=>"cases" | .known=>"known" | .curried=>"curried" | .either=>"either" | .idle=>"idle" | .chain=>"chain" | .use=>"use"
noncomputable abbrev Nd:=List Tm×Tm
noncomputable def needG (ws:List Tm) (g:Tm):Rl→Option (List Nd)
 | .wish=>if g∈ws then some [] else none
 | .low=>if Tm.low∈ws then some [] else none
 | .both=>match g with
  | .nd .both a b=>some [(ws,a),(ws,b)]
  | _=>none
 | .first=>match g with
  | .nd .one a _=>some [(ws,a)]
  | _=>none
 | .second=>match g with
  | .nd .one _ b=>some [(ws,b)]
  | _=>none
 | .thn=>match g with
  | .nd .thn a b=>some [(norm (ws++[a]),b)]
  | _=>none
 | _=>none
noncomputable def needO (ws:List Tm) (g o:Tm):Rl→Option (List Nd)
 | .parts=>match o with
  | .nd .both a b=>some [(norm (rem ws o++[a,b]),g)]
  | _=>none
 | .cases=>match o with
  | .nd .one a b=>some [(norm (rem ws o++[a]),g),(norm (rem ws o++[b]),g)]
  | _=>none
 | .known=>match o with
  | .nd .thn a b=>if a∈ws then some [(norm (rem ws o++[b]),g)] else none
  | _=>none
 | .curried=>match o with
  | .nd .thn (.nd .both a b) c=>some [(norm (rem ws o++[.nd .thn a (.nd .thn b c)]),g)]
  | _=>none
 | .either=>match o with
  | .nd .thn (.nd .one a b) c=>some [(norm (rem ws o++[.nd .thn a c,.nd .thn b c]),g)]
  | _=>none
 | .idle=>match o with
  | .nd .thn .low _=>some [(norm (rem ws o),g)]
  | _=>none
 | .chain=>match o with
  | .nd .thn (.nd .thn a b) c=>some [(norm (rem ws o++[.nd .thn b c]),.nd .thn a b),(norm (rem ws o++[c]),g)]
  | _=>none
 | .use=>match o with
  | .nd .thn a b=>some [(ws,a),(norm (ws++[b]),g)]
  | _=>none
 | _=>none
structure IsW (K:PySem.W.Frag) (H:Hp) (a:Addr) (ws:List Tm):Prop where
 at_:∃ us,H a=some (.lst us)∧Paired (IsT K H) us ws
 rise:sortedT ws
theorem IsW.keep {K:PySem.W.Frag} {H H':Hp} (e:Same H H') {a:Addr} {ws:List Tm} (h:IsW K H a ws):IsW K H' a ws:=by
 obtain⟨⟨us,h1,h2⟩,h3⟩:=h
 exact⟨⟨us,e _ _ h1,Paired.mapP h2 fun _ _ z=>z.keep e.keepT⟩,h3⟩
noncomputable def Okw (ws:List Tm):Prop:=∀ t∈ws,t.ok∧t.parts≤110
noncomputable def sp_place (K:PySem.W.Frag):Sp:=fun vs H Q _=>∃ (a:Addr) (v:V) (ws:List Tm) (t:Tm),vs=[.ref a,v]∧IsW K H a ws∧IsT K H v t∧Okw ws∧t.ok∧ws.length≤1000 ∧
 ∀ H',Same H H'→Q (.int (plc ws t:Nat)) H'
noncomputable def sp_more (K:PySem.W.Frag):Sp:=fun vs H Q _=>∃ (a b:Addr) (ws:List Tm) (us:List V) (ts:List Tm),vs=[.ref a,.ref b]∧IsW K H a ws∧H b=some (.lst us)∧Paired (IsT K H) us ts∧Okw ws∧Okw ts∧ws.length+ts.length≤1000 ∧
 ∀ (r:Addr) (H':Hp),Same H H'→H r=none→IsW K H' r (norm (ws++ts))→Q (.ref r) H'
end Ken
namespace Ken
open PySem L2
theorem isT_head {K:PySem.W.Frag} {H:Hp} {v:V} {t:Tm} (h:IsT K H v t):∃ p x xs A,v=.ref p∧SqT K H p (.str x :: xs)∧t.spell=x :: A:=by
 cases t with
 | low=>obtain⟨p,e,hs⟩:=isT_low.mp h;exact⟨p,_,_,[],e,hs,rfl⟩
 | ltr y=>obtain⟨p,e,hs⟩:=isT_ltr.mp h;exact⟨p,_,_,[y],e,hs,rfl⟩
 | nd k a b=>obtain⟨p,x,y,e,hs,_⟩:=isT_nd.mp h;exact⟨p,_,_,_,e,hs,spell_nd k a b⟩
noncomputable def sumF (ps:List (Tm×Tm)):Nat:=(ps.map fun p=>p.1.parts).sum
theorem sumF_cons (p:Tm×Tm) (ps:List (Tm×Tm)):sumF (p :: ps)=p.1.parts+sumF ps:=by unfold sumF;rw[List.map_cons,List.sum_cons]
theorem len_sumF:∀ ps:List (Tm×Tm),ps.length≤sumF ps
 | []=>Nat.le_refl _
 | p :: ps=>by rw[sumF_cons,List.length_cons];have:=len_sumF ps;have:=p.1.parts_pos;omega
end Ken
namespace Ken
open PySem L2
theorem at0 (x:V) (xs:List V):atI (x :: xs) 0=some x:=show atI (x :: xs) ((0:Nat):Int)=some x from atI_nat rfl
end Ken
namespace Ken
open PySem L2
noncomputable abbrev ONd:=Addr×Nd
noncomputable def IsNdO (K:PySem.W.Frag) (H:Hp) (v:V) (o:ONd):Prop:=∃ p gv,v=.ref p∧SqT K H p [.ref o.1,gv]∧IsW K H o.1 o.2.1∧IsT K H gv o.2.2
theorem IsNdO.keep {K:PySem.W.Frag} {H H':Hp} (e:Same H H') {v:V} {o:ONd} (h:IsNdO K H v o):IsNdO K H' v o:=by
 obtain⟨p,gv,e1,h1,h2,h3⟩:=h
 exact⟨p,gv,e1,e.sqt h1,h2.keep e,h3.keep e.keepT⟩
noncomputable def IsNds (K:PySem.W.Frag) (H:Hp) (na:Addr) (os:List ONd):Prop:=∃ vs,H na=some (.lst vs)∧Paired (IsNdO K H) vs os
noncomputable def needR (r:Rl) (ws:List Tm) (g:Tm) (on:Option Tm):Option (List Nd):=match on with
 | none=>needG ws g r
 | some o=>needO ws g o r
end Ken
namespace L2
open PySem PySem.Spec PyProof.Rows
end L2
namespace L2
open PySem PySem.Spec PyProof.Rows
section
variable {X:Cx} {tg:Expr}
noncomputable def tCallT {ι:Type} (i:Nat) (f:ι→Addr) (sp:ι→Sp) (t:TA):TE:=fun σ H Q=>∃ r,σ[i]?=some (some (.ref (f r)))∧t σ H fun vs H1=>sp r vs H1 Q (fun _ _ _=>False)
theorem pe_callT {ι:Type} {k:Nat} {f:ι→Addr} {fd:ι→FuncData} {ps:List Str} {sp:ι→Sp} {x:Str} {p pos:Pos} {e:Expr} {es:List Expr} {t:TA} {i:Nat} (F:∀ r,FnOk X.prog X.w X.K X.mg X.base (fun _ _ _ _ _ _=>False) k (f r) (fd r) ps (sp r)) (hr:Room k X.A) (hN:X.N[i]?=some x) (hk:∀ r,PySem.W.keepIn X.K (.ref (f r))=true) (hb:∀ r,Binds X.K (fd r) ps [])
  (ha:PA X (e :: es) t) (hv:Vis X.env.scope x:=by first | exact .inl rfl | exact .inr (.inl rfl) | exact .inr (.inr rfl)) (hdb:(x == ("__debug__":Str))=false:=by decide) (hcd:(x == ("__classdict__":Str))=false:=by decide) (he:starEach (e :: es) X.env=(false,eval e X.env) :: starEach es X.env:=by rfl) (hpl:(backTo pos (starEach es X.env)).any (·.1)=false:=by rfl) :
  PE X (.Call (.Name x p) (e :: es) [] pos) (tCallT i f sp t):=by
 intro pins s σ H Q I h
 obtain⟨r,h1,h2⟩:=h
 refine pe_callL (F r) hr hN hv (hk r) (hb r) .nil (E:=fun _ _ _=>False) (fun pins σ H s e s' _ z=>z.elim) ha hdb hcd he hpl pins s σ H Q I ⟨h1,?_⟩
 show t σ H fun vs H1=>sp r (vs++[]) H1 Q _
 simp only[List.append_nil]
 exact h2
end
end L2
namespace Ken
open PySem L2
theorem same_here {H H':Hp} (e:Same H H') {a:Addr} (h:H a≠none):H' a≠none:=by
 cases z:H a with
 | none=>exact absurd z h
 | some o=>rw[e a o z];exact fun y=>nomatch y
end Ken
namespace Ken
open PySem L2
end Ken
namespace Ken
open PySem L2
end Ken
namespace Ken
open PySem L2
theorem norm_len {l:List Tm}:(norm l).length≤l.length:=len_le_of_subT (sortedT_nd (sorted_norm _)) fun _ h=>mem_norm.mp h
theorem rem_len {ws:List Tm} {o:Tm} (hn:ws.Nodup) (h:o∈ws):(rem ws o).length+1≤ws.length:=by
 have:(o :: rem ws o).length≤ws.length:=len_le_of_subT (List.nodup_cons.mpr ⟨fun z=>(mem_rem.mp z).2 rfl,hn.filter _⟩) fun x hx=>(List.mem_cons.mp hx).elim (fun z=>z▸h) fun z=>(mem_rem.mp z).1
 rw[List.length_cons] at this;exact this
structure NdOk (ws:List Tm) (n:Nd):Prop where
 ok:Okw n.1
 gok:n.2.ok∧n.2.parts≤110
 rise:sortedT n.1
 len:n.1.length≤ws.length+1
theorem need_ok {r:Rl} {ws:List Tm} {g:Tm} {on:Option Tm} {nds:List Nd} (hs:sortedT ws) (hok:Okw ws) (gk:g.ok∧g.parts≤110) (hon:∀ o,on=some o→o∈ws) (h:needR r ws g on=some nds):∀ n∈nds,NdOk ws n:=by
 have hnd:=sortedT_nd hs
 have pl:∀ {t:Tm},t.ok∧t.parts≤110→NdOk ws (ws,t):=fun ht=>⟨hok,ht,hs,Nat.le_succ _⟩
 have kid:∀ {k:Kd} {a b:Tm},(Tm.nd k a b).ok∧(Tm.nd k a b).parts≤110→(a.ok∧a.parts≤110)∧(b.ok∧b.parts≤110):=fun {k a b} ht=>by
  have h1:1+a.parts+b.parts≤110:=ht.2
  exact⟨⟨ht.1.1,by omega⟩,⟨ht.1.2,by omega⟩⟩
 have nm:∀ {l:List Tm} {t:Tm},(∀ x∈l,x.ok∧x.parts≤110)→l.length≤ws.length+1→t.ok∧t.parts≤110→NdOk ws (norm l,t):=fun hl hlen ht=>⟨fun x hx=>hl x (mem_norm.mp hx),ht,sorted_norm _,Nat.le_trans norm_len hlen⟩
 cases on with
 | none =>
  have h':needG ws g r=some nds:=h
  cases r with
  | wish=>simp only[needG] at h';split at h'<;>cases h';intro n hn;simp at hn
  | low=>simp only[needG] at h';split at h'<;>cases h';intro n hn;simp at hn
  | both =>
   simp only[needG] at h'
   split at h'
   ·cases h'
    intro n hn
    rcases List.mem_cons.mp hn with z | z
    ·rw[z];exact pl (kid gk).1
    ·rw[List.mem_singleton.mp z];exact pl (kid gk).2
   ·cases h'
  | first =>
   simp only[needG] at h'
   split at h'
   ·cases h';intro n hn;rw[List.mem_singleton.mp hn];exact pl (kid gk).1
   ·cases h'
  | second =>
   simp only[needG] at h'
   split at h'
   ·cases h';intro n hn;rw[List.mem_singleton.mp hn];exact pl (kid gk).2
   ·cases h'
  | thn =>
   simp only[needG] at h'
   split at h'
   ·cases h';intro n hn;rw[List.mem_singleton.mp hn]
    refine nm (fun x hx=>?_) (by rw[List.length_append];exact Nat.le_refl _) (kid gk).2
    rcases List.mem_append.mp hx with z | z
    ·exact hok x z
    ·rw[List.mem_singleton.mp z];exact (kid gk).1
   ·cases h'
  | _=>cases h'
 | some o =>
  have ho:=hon o rfl
  have oo:=hok o ho
  have hl:=rem_len hnd ho
  have h':needO ws g o r=some nds:=h
  have one:∀ {x t:Tm},x.ok∧x.parts≤110→t.ok∧t.parts≤110→NdOk ws (norm (rem ws o++[x]),t):=fun {x t} hx ht=>nm (fun y hy=>by
   rcases List.mem_append.mp hy with z | z
   ·exact hok y (mem_rem.mp z).1
   ·rw[List.mem_singleton.mp z];exact hx) (by rw[List.length_append];show _+1≤_;omega) ht
  have two:∀ {x y t:Tm},x.ok∧x.parts≤110→y.ok∧y.parts≤110→t.ok∧t.parts≤110→NdOk ws (norm (rem ws o++[x,y]),t):=fun {x y t} hx hy ht=>nm (fun w hw=>by
   rcases List.mem_append.mp hw with z | z
   ·exact hok w (mem_rem.mp z).1
   ·rcases List.mem_cons.mp z with z | z
    ·rw[z];exact hx
    ·rw[List.mem_singleton.mp z];exact hy) (by rw[List.length_append];show _+2≤_;omega) ht
  cases r with
  | parts =>
   simp only[needO] at h'
   split at h'
   ·cases h';intro n hn;rw[List.mem_singleton.mp hn];exact two (kid oo).1 (kid oo).2 gk
   ·cases h'
  | cases =>
   simp only[needO] at h'
   split at h'
   ·cases h'
    intro n hn
    rcases List.mem_cons.mp hn with z | z
    ·rw[z];exact one (kid oo).1 gk
    ·rw[List.mem_singleton.mp z];exact one (kid oo).2 gk
   ·cases h'
  | known =>
   simp only[needO] at h'
   split at h'
   ·split at h'
    ·cases h';intro n hn;rw[List.mem_singleton.mp hn];exact one (kid oo).2 gk
    ·cases h'
   ·cases h'
  | curried =>
   simp only[needO] at h'
   split at h'
   ·rename_i x y c
    cases h';intro n hn;rw[List.mem_singleton.mp hn]
    have h1:1+(1+x.parts+y.parts)+c.parts≤110:=oo.2
    exact one ⟨⟨oo.1.1.1,oo.1.1.2,oo.1.2⟩,by show 1+x.parts+(1+y.parts+c.parts)≤110;omega⟩ gk
   ·cases h'
  | either =>
   simp only[needO] at h'
   split at h'
   ·rename_i x y c
    cases h';intro n hn;rw[List.mem_singleton.mp hn]
    have h1:1+(1+x.parts+y.parts)+c.parts≤110:=oo.2
    exact two ⟨⟨oo.1.1.1,oo.1.2⟩,by show 1+x.parts+c.parts≤110;omega⟩ ⟨⟨oo.1.1.2,oo.1.2⟩,by show 1+y.parts+c.parts≤110;omega⟩ gk
   ·cases h'
  | idle =>
   simp only[needO] at h'
   split at h'
   ·cases h';intro n hn;rw[List.mem_singleton.mp hn]
    exact nm (fun x hx=>hok x (mem_rem.mp hx).1) (by omega) gk
   ·cases h'
  | chain =>
   simp only[needO] at h'
   split at h'
   ·rename_i x y c
    cases h'
    have h1:1+(1+x.parts+y.parts)+c.parts≤110:=oo.2
    intro n hn
    rcases List.mem_cons.mp hn with z | z
    ·rw[z];exact one ⟨⟨oo.1.1.2,oo.1.2⟩,by show 1+y.parts+c.parts≤110;omega⟩ ⟨oo.1.1,by show 1+x.parts+y.parts≤110;omega⟩
    ·rw[List.mem_singleton.mp z];exact one (kid oo).2 gk
   ·cases h'
  | use =>
   simp only[needO] at h'
   split at h'
   ·rename_i a b
    cases h'
    intro n hn
    rcases List.mem_cons.mp hn with z | z
    ·rw[z];exact pl (kid oo).1
    ·rw[List.mem_singleton.mp z]
     refine nm (fun x hx=>?_) (by rw[List.length_append];exact Nat.le_refl _) gk
     rcases List.mem_append.mp hx with z | z
     ·exact hok x z
     ·rw[List.mem_singleton.mp z];exact (kid oo).2
   ·cases h'
  | _=>cases h'
noncomputable def onD:Option Tm→PyData
 | none=>.none
 | some o=>o.data
theorem paired_mapR {α β γ:Type} {F:α→β→Prop} {G:α→γ→Prop} {f:β→γ} (h:∀ x y,F x y→G x (f y)):∀ {l:List α} {m:List β},Paired F l m→Paired G l (m.map f)
 | _,_,.nil=>.nil
 | _,_,.cons a t=>.cons (h _ _ a) (paired_mapR h t)
end Ken
namespace L2
open PySem PySem.Spec PyProof.Rows
end L2
namespace L2
open PySem PySem.Spec PyProof.Rows
end L2
namespace L2
open PySem PySem.Spec PyProof.Rows
end L2
namespace Ken
open PySem L2
theorem deep_parts:∀ t:Tm,t.deep≤t.parts
 | .low=>Nat.le_refl _
 | .ltr _=>Nat.le_refl _
 | .nd _ a b=>by
  have:=deep_parts a
  have:=deep_parts b
  show 1+max a.deep b.deep≤1+a.parts+b.parts
  omega
noncomputable def sp_onceL (K:PySem.W.Frag):Sp:=fun vs H Q _=>∃ (a:Addr) (us:List V) (ts:List Tm),vs=[.ref a]∧H a=some (.lst us)∧Paired (IsT K H) us ts∧Okw ts∧ts.length < 64 ∧
 ∀ (r:Addr) (H':Hp),Same H H'→H r=none→IsW K H' r (norm ts)→Q (.ref r) H'
noncomputable def sp_changedL (K:PySem.W.Frag):Sp:=fun vs H Q _=>∃ (a b:Addr) (ov:V) (o:Tm) (ws:List Tm) (us:List V) (ts:List Tm),vs=[.ref a,ov,.ref b]∧IsW K H a ws∧IsT K H ov o∧o.ok∧o.parts≤110∧H b=some (.lst us)∧Paired (IsT K H) us ts∧Okw ws∧Okw ts∧ws.length+ts.length < 64 ∧
 ∀ (r:Addr) (H':Hp),Same H H'→H r=none→IsW K H' r (norm (rem ws o++ts))→Q (.ref r) H'
theorem cut_last (xs:List V):cutV xs (some (-1)) none=xs.drop (xs.length - 1):=by
 show List.take (xs.length - (if (-1:Int) < 0 then ((-1:Int)+(xs.length:Int)).toNat else min (-1:Int).toNat xs.length)) (List.drop (if (-1:Int) < 0 then ((-1:Int)+(xs.length:Int)).toNat else min (-1:Int).toNat xs.length) xs)=_
 rw[if_pos (by decide),show ((-1:Int)+(xs.length:Int)).toNat=xs.length - 1 by omega]
 exact List.take_of_length_le (by rw[List.length_drop];exact Nat.le_refl _)
theorem mem_last {fs:List Tm} {t:Tm}:t∈fs.drop (fs.length - 1)↔fs.getLast?=some t:=by
 rcases List.eq_nil_or_concat fs with h | ⟨l,x,rfl⟩
 ·subst h;simp
 ·rw[List.concat_eq_append,List.length_append,List.length_singleton,Nat.add_sub_cancel,List.drop_left,List.getLast?_append]
  simp
  exact eq_comm
theorem last_or {fs:List Tm} (h:sortedT fs) {y l:Tm} (hy:y∈fs) (hl:fs.getLast?=some l):y=l∨ltT y l=true:=by
 rcases List.eq_nil_or_concat fs with e | ⟨m,x,rfl⟩
 ·subst e;simp at hy
 ·rw[List.concat_eq_append] at *
  rw[List.getLast?_append] at hl
  have:x=l:=by simpa using hl
  subst this
  rcases List.mem_append.mp hy with z | z
  ·exact .inr ((List.pairwise_append.mp h).2.2 y z x (List.mem_singleton.mpr rfl))
  ·exact .inl (List.mem_singleton.mp z)
noncomputable def IsNdA (K:PySem.W.Frag) (d:Addr) (H:Hp) (v:V) (n:Nd):Prop:=∃ p wl gv,v=.ref p∧SqT K H p [.ref wl,gv]∧IsW K H wl n.1∧IsT K H gv n.2∧wl≠d
noncomputable def IsNdsA (K:PySem.W.Frag) (d:Addr) (H:Hp) (v:V) (ns:List Nd):Prop:=∃ na vs,v=.ref na∧H na=some (.lst vs)∧Paired (IsNdA K d H) vs ns∧na≠d
theorem ne_here {H H1:Hp} (e:Same H H1) {a d:Addr} (hd:H d≠none) (ha:H1 a=none):a≠d:=fun z=>same_here e hd (z▸ha)
theorem ndsA_nil {K:PySem.W.Frag} {H H1:Hp} {wa na:Addr} (e:Same H H1) (hna:H1 na=none):∀ d,d≠wa→H d≠none→IsNdsA K d (upd H1 na (.lst [])) (.ref na) []:=fun d _ hd=>⟨na,[],rfl,upd_same,.nil,ne_here e hd hna⟩
theorem ndsA_one {K:PySem.W.Frag} {H H1:Hp} {ws:List Tm} {g:Tm} {wa wl p na:Addr} {gv:V} (e:Same H H1) (hw:IsW K H1 wl ws) (hg:IsT K H1 gv g) (hp:H1 p=none) (hna:upd H1 p (.tup [.ref wl,gv]) na=none) (fw:wl=wa∨H wl=none):∀ d,d≠wa→H d≠none→IsNdsA K d (upd (upd H1 p (.tup [.ref wl,gv])) na (.lst [.ref p])) (.ref na) [(ws,g)]:=fun d hdw hd=>by
 have s1:=same_new hp (HO.tup [.ref wl,gv])
 have s2:=same_new hna (HO.lst [.ref p])
 have S:=s1.trans s2
 exact⟨na,_,rfl,upd_same,.cons ⟨p,wl,gv,rfl,s2.sqt (.inl (.inl upd_same)),hw.keep S,hg.keep S.keepT,fun z=>fw.elim (fun y=>hdw (z.symm.trans y)) fun y=>hd (z▸y)⟩ .nil,ne_here (e.trans s1) hd hna⟩
theorem ndsA_two {K:PySem.W.Frag} {H H1 H2:Hp} {ws ws':List Tm} {g g':Tm} {wa wl wl' p p' na:Addr} {gv gv':V} (e:Same H H1) (hw:IsW K H1 wl ws) (hg:IsT K H1 gv g) (hp:H1 p=none) (e2:Same (upd H1 p (.tup [.ref wl,gv])) H2) (hw':IsW K H2 wl' ws') (hg':IsT K H2 gv' g') (hp':H2 p'=none) (hna:upd H2 p' (.tup [.ref wl',gv']) na=none) (fw:wl=wa∨H wl=none) (fw':wl'=wa∨H wl'=none) :
  ∀ d,d≠wa→H d≠none→IsNdsA K d (upd (upd H2 p' (.tup [.ref wl',gv'])) na (.lst [.ref p,.ref p'])) (.ref na) [(ws,g),(ws',g')]:=fun d hdw hd=>by
 have s1:=same_new hp (HO.tup [.ref wl,gv])
 have s3:=same_new hp' (HO.tup [.ref wl',gv'])
 have s4:=same_new hna (HO.lst [.ref p,.ref p'])
 have S34:=s3.trans s4
 have S24:=e2.trans S34
 have S:=s1.trans S24
 exact⟨na,_,rfl,upd_same,.cons ⟨p,wl,gv,rfl,S24.sqt (.inl (.inl upd_same)),hw.keep S,hg.keep S.keepT,fun z=>fw.elim (fun y=>hdw (z.symm.trans y)) fun y=>hd (z▸y)⟩ (.cons ⟨p',wl',gv',rfl,s4.sqt (.inl (.inl upd_same)),hw'.keep S34,hg'.keep S34.keepT,fun z=>fw'.elim (fun y=>hdw (z.symm.trans y)) fun y=>hd (z▸y)⟩ .nil),ne_here (((e.trans s1).trans e2).trans s3) hd hna⟩
end Ken
namespace L2
open PySem PySem.Spec PyProof.Rows
section
variable {X:Cx}
theorem op_neDK {K:PySem.W.Frag} (e:X.K=K) (hu:X.A.units+150 < cLine):OpR X (compareOp .NotEq) (rEqD K true):=e▸op_neD hu
end
end L2
namespace Ken
open PySem L2
theorem rl_wish (r:Rl):(r.str=Str.ofString "wish")=(r=.wish):=by cases r<;>first | exact propext ⟨fun _=>rfl,fun _=>rfl⟩ | exact propext ⟨fun h=>absurd h (by decide),fun h=>nomatch h⟩
theorem rl_low (r:Rl):(r.str=Str.ofString "low")=(r=.low):=by cases r<;>first | exact propext ⟨fun _=>rfl,fun _=>rfl⟩ | exact propext ⟨fun h=>absurd h (by decide),fun h=>nomatch h⟩
theorem rl_both (r:Rl):(r.str=Str.ofString "both")=(r=.both):=by cases r<;>first | exact propext ⟨fun _=>rfl,fun _=>rfl⟩ | exact propext ⟨fun h=>absurd h (by decide),fun h=>nomatch h⟩
theorem rl_first (r:Rl):(r.str=Str.ofString "first")=(r=.first):=by cases r<;>first | exact propext ⟨fun _=>rfl,fun _=>rfl⟩ | exact propext ⟨fun h=>absurd h (by decide),fun h=>nomatch h⟩
theorem rl_second (r:Rl):(r.str=Str.ofString "second")=(r=.second):=by cases r<;>first | exact propext ⟨fun _=>rfl,fun _=>rfl⟩ | exact propext ⟨fun h=>absurd h (by decide),fun h=>nomatch h⟩
theorem rl_thn (r:Rl):(r.str=Str.ofString "then")=(r=.thn):=by cases r<;>first | exact propext ⟨fun _=>rfl,fun _=>rfl⟩ | exact propext ⟨fun h=>absurd h (by decide),fun h=>nomatch h⟩
theorem rl_parts (r:Rl):(r.str=Str.ofString "parts")=(r=.parts):=by cases r<;>first | exact propext ⟨fun _=>rfl,fun _=>rfl⟩ | exact propext ⟨fun h=>absurd h (by decide),fun h=>nomatch h⟩
theorem rl_cases (r:Rl):(r.str=Str.ofString "cases")=(r=.cases):=by cases r<;>first | exact propext ⟨fun _=>rfl,fun _=>rfl⟩ | exact propext ⟨fun h=>absurd h (by decide),fun h=>nomatch h⟩
theorem rl_known (r:Rl):(r.str=Str.ofString "known")=(r=.known):=by cases r<;>first | exact propext ⟨fun _=>rfl,fun _=>rfl⟩ | exact propext ⟨fun h=>absurd h (by decide),fun h=>nomatch h⟩
theorem rl_curried (r:Rl):(r.str=Str.ofString "curried")=(r=.curried):=by cases r<;>first | exact propext ⟨fun _=>rfl,fun _=>rfl⟩ | exact propext ⟨fun h=>absurd h (by decide),fun h=>nomatch h⟩
theorem rl_either (r:Rl):(r.str=Str.ofString "either")=(r=.either):=by cases r<;>first | exact propext ⟨fun _=>rfl,fun _=>rfl⟩ | exact propext ⟨fun h=>absurd h (by decide),fun h=>nomatch h⟩
theorem rl_idle (r:Rl):(r.str=Str.ofString "idle")=(r=.idle):=by cases r<;>first | exact propext ⟨fun _=>rfl,fun _=>rfl⟩ | exact propext ⟨fun h=>absurd h (by decide),fun h=>nomatch h⟩
theorem rl_chain (r:Rl):(r.str=Str.ofString "chain")=(r=.chain):=by cases r<;>first | exact propext ⟨fun _=>rfl,fun _=>rfl⟩ | exact propext ⟨fun h=>absurd h (by decide),fun h=>nomatch h⟩
theorem rl_use (r:Rl):(r.str=Str.ofString "use")=(r=.use):=by cases r<;>first | exact propext ⟨fun _=>rfl,fun _=>rfl⟩ | exact propext ⟨fun h=>absurd h (by decide),fun h=>nomatch h⟩
end Ken
namespace Ken
open PySem L2
theorem isT_or (kk:Kd) {K:PySem.W.Frag} {H:Hp} {v:V} {g:Tm} (h:IsT K H v g):(∃ a b p x y,g=.nd kk a b∧v=.ref p∧SqT K H p [.str kk.str,x,y]∧IsT K H x a∧IsT K H y b)∨(∃ p x xs,v=.ref p∧SqT K H p (.str x :: xs)∧x≠kk.str∧∀ a b,g≠.nd kk a b):=by
 cases g with
 | low =>
  obtain⟨p,rfl,hs⟩:=isT_low.mp h
  exact .inr ⟨p,_,_,rfl,hs,by cases kk<;>decide,fun _ _ z=>nomatch z⟩
 | ltr y =>
  obtain⟨p,rfl,hs⟩:=isT_ltr.mp h
  exact .inr ⟨p,_,_,rfl,hs,by cases kk<;>decide,fun _ _ z=>nomatch z⟩
 | nd k a b =>
  obtain⟨p,x,y,rfl,hs,hx,hy⟩:=isT_nd.mp h
  by_cases e:k=kk
  ·subst e;exact .inl ⟨a,b,p,x,y,rfl,rfl,hs,hx,hy⟩
  ·exact .inr ⟨p,_,_,rfl,hs,by revert e;cases k<;>cases kk<;>decide,fun _ _ z=>by cases z;exact e rfl⟩
theorem needG_both {ws:List Tm} {g:Tm} (h:∀ a b,g≠.nd .both a b):needG ws g .both=none:=by
 cases g with
 | nd k a b=>cases k<;>first | rfl | exact absurd rfl (h _ _)
 | _=>rfl
theorem needG_first {ws:List Tm} {g:Tm} (h:∀ a b,g≠.nd .one a b):needG ws g .first=none:=by
 cases g with
 | nd k a b=>cases k<;>first | rfl | exact absurd rfl (h _ _)
 | _=>rfl
theorem needG_second {ws:List Tm} {g:Tm} (h:∀ a b,g≠.nd .one a b):needG ws g .second=none:=by
 cases g with
 | nd k a b=>cases k<;>first | rfl | exact absurd rfl (h _ _)
 | _=>rfl
theorem needG_thn {ws:List Tm} {g:Tm} (h:∀ a b,g≠.nd .thn a b):needG ws g .thn=none:=by
 cases g with
 | nd k a b=>cases k<;>first | rfl | exact absurd rfl (h _ _)
 | _=>rfl
end Ken
namespace Ken
open PySem L2
theorem needO_idle {ws:List Tm} {g a b:Tm} (h:a≠.low):needO ws g (.nd .thn a b) .idle=none:=by
 cases a with
 | low=>exact absurd rfl h
 | _=>rfl
theorem needO_curried {ws:List Tm} {g a b:Tm} (h:∀ c d,a≠.nd .both c d):needO ws g (.nd .thn a b) .curried=none:=by
 cases a with
 | nd k c d=>cases k<;>first | rfl | exact absurd rfl (h _ _)
 | _=>rfl
theorem needO_either {ws:List Tm} {g a b:Tm} (h:∀ c d,a≠.nd .one c d):needO ws g (.nd .thn a b) .either=none:=by
 cases a with
 | nd k c d=>cases k<;>first | rfl | exact absurd rfl (h _ _)
 | _=>rfl
theorem needO_chain {ws:List Tm} {g a b:Tm} (h:∀ c d,a≠.nd .thn c d):needO ws g (.nd .thn a b) .chain=none:=by
 cases a with
 | nd k c d=>cases k<;>first | rfl | exact absurd rfl (h _ _)
 | _=>rfl
end Ken
namespace L2
open PySem PySem.Spec PyProof.Rows
end L2
namespace Ken
open PySem L2
end Ken
namespace Ken
open PySem L2
end Ken
namespace Ken
open PySem L2
end Ken
namespace Ken
open PySem L2
noncomputable def badN:List Str:=["cut","","Wish","wishes"]
noncomputable def RIs (x:Str):Option Rl→Prop
 | some r=>x=r.str
 | none=>x∈badN
theorem bad_ne {x:Str} (h:x∈badN) (r:Rl):(x=r.str)=False:=by
 refine eq_false fun e=>?_
 subst e
 revert h
 cases r<;>decide
theorem bad_in2 {x:Str} (h:x∈badN):inV (.str x) [.str "first",.str "second"]=false:=by
 revert x
 decide +kernel
noncomputable def needGX (ws:List Tm) (g:Tm):Option Rl→Option (List Nd)
 | some r=>needG ws g r
 | none=>none
noncomputable def needOX (ws:List Tm) (g o:Tm):Option Rl→Option (List Nd)
 | some r=>needO ws g o r
 | none=>none
noncomputable def needX (R:Option Rl) (ws:List Tm) (g:Tm):Option Tm→Option (List Nd)
 | none=>needGX ws g R
 | some o=>if o∈ws then needOX ws g o R else none
noncomputable def NdsL (K:PySem.W.Frag) (H:Hp) (Q:VK) (wa:Addr) (x:Option (List Nd)):Prop:=(x=none→∀ H',Same H H'→Q .non H')∧(∀ nds,x=some nds→∀ (v:V) (H':Hp),Same H H'→(∀ d,d≠wa→H d≠none→IsNdsA K d H' v nds)→Q v H')
noncomputable def sp_gneedsX (K:PySem.W.Frag):Sp:=fun vs H Q _=>∃ (x:Str) (R:Option Rl) (wa:Addr) (gv:V) (ws:List Tm) (g:Tm),vs=[.str x,.ref wa,gv]∧RIs x R∧IsW K H wa ws∧IsT K H gv g∧Okw ws∧g.ok∧g.parts≤110∧ws.length≤60∧NdsL K H Q wa (needGX ws g R)
noncomputable def sp_ifneedsX (K:PySem.W.Frag):Sp:=fun vs H Q _=>∃ (x:Str) (R:Option Rl) (wa:Addr) (gv av bv ov:V) (ws:List Tm) (g a b:Tm),vs=[.str x,.ref wa,gv,av,bv,ov]∧RIs x R∧IsW K H wa ws∧IsT K H gv g∧IsT K H av a∧IsT K H bv b∧IsT K H ov (.nd .thn a b)∧Tm.nd .thn a b∈ws∧Okw ws∧g.ok∧g.parts≤110∧ws.length≤60∧NdsL K H Q wa (needOX ws g (.nd .thn a b) R)
noncomputable def OnX (K:PySem.W.Frag) (H:Hp) (v:V):Option Tm→Prop
 | none=>v=.non
 | some o=>IsT K H v o∧o.ok∧o.parts≤110
theorem OnX.keep {K:PySem.W.Frag} {H H':Hp} (e:KeepT K H H') {v:V} {on:Option Tm} (h:OnX K H v on):OnX K H' v on:=by
 cases on with
 | none=>exact h
 | some o=>exact⟨h.1.keep e,h.2⟩
noncomputable def sp_needsX (K:PySem.W.Frag):Sp:=fun vs H Q _=>∃ (x:Str) (R:Option Rl) (wa:Addr) (gv ov:V) (ws:List Tm) (g:Tm) (on:Option Tm),vs=[.str x,.ref wa,gv,ov]∧RIs x R∧IsW K H wa ws∧IsT K H gv g∧OnX K H ov on∧Okw ws∧g.ok∧g.parts≤110∧ws.length≤60∧NdsL K H Q wa (needX R ws g on)
end Ken
namespace Ken
open PySem L2
end Ken
namespace Ken
open PySem L2
theorem rx {x:Str} {R:Option Rl} (h:RIs x R) (r:Rl):(x=r.str)=(R=some r):=by
 cases R with
 | none=>rw[bad_ne h r];exact (eq_false (fun z=>nomatch z)).symm
 | some r' =>
  obtain rfl:x=r'.str:=h
  cases r<;>cases r'<;>first | exact propext ⟨fun _=>rfl,fun _=>rfl⟩ | exact propext ⟨fun h=>absurd h (by decide),fun h=>nomatch h⟩
end Ken
namespace Ken
open PySem L2
structure Ln where
 x:Str
 R:Option Rl
 ws:List Tm
 g:Tm
 on:Option Tm
 ls:List Int
noncomputable def IsLn (K:PySem.W.Frag) (H:Hp) (v:V) (l:Ln):Prop:=∃ (p wa la:Addr) (gv ov:V) (us:List V),v=.ref p∧SqT K H p [.str l.x,.ref wa,gv,ov,.ref la]∧H wa=some (.lst us)∧Paired (IsT K H) us l.ws∧IsT K H gv l.g∧OnX K H ov l.on∧H la=some (.lst (l.ls.map V.int))
theorem IsLn.keep {K:PySem.W.Frag} {H H':Hp} (e:Same H H') {v:V} {l:Ln} (h:IsLn K H v l):IsLn K H' v l:=by
 obtain⟨p,wa,la,gv,ov,us,rfl,h1,h2,h3,h4,h5,h6⟩:=h
 exact⟨p,wa,la,gv,ov,us,rfl,e.sqt h1,e _ _ h2,paired_keepT e.keepT h3,h4.keep e.keepT,h5.keep e.keepT,e _ _ h6⟩
noncomputable abbrev IsLns (K:PySem.W.Frag) (H:Hp):List V→List Ln→Prop:=Paired (IsLn K H)
theorem IsLns.keep {K:PySem.W.Frag} {H H':Hp} (e:Same H H') {vs:List V} {L:List Ln} (h:IsLns K H vs L):IsLns K H' vs L:=Paired.mapP h fun _ _ q=>q.keep e
structure OkLn (l:Ln):Prop where
 r:RIs l.x l.R
 w:Okw l.ws
 wl:l.ws.length≤60
 g:l.g.ok
 gp:l.g.parts≤110
 ll:l.ls.length≤100
noncomputable def adjB:List Tm→Bool
 | a :: b :: r=>decide (cmpT a b < 0)&&adjB (b :: r)
 | _=>true
theorem adjB_iff:∀ {ws:List Tm},adjB ws=true↔sortedT ws
 | []=>⟨fun _=>.nil,fun _=>rfl⟩
 | [a]=>⟨fun _=>List.pairwise_singleton _ _,fun _=>rfl⟩
 | a :: b :: r=>by
  show (decide (cmpT a b < 0)&&adjB (b :: r))=true↔_
  rw[Bool.and_eq_true,decide_eq_true_iff,adjB_iff,cmp_lt]
  constructor
  ·rintro⟨h1,h2⟩
   refine List.pairwise_cons.mpr ⟨fun x hx=>?_,h2⟩
   rcases List.mem_cons.mp hx with z | z
   ·rw[z];exact h1
   ·exact lexT_trans h1 ((List.pairwise_cons.mp h2).1 x z)
  ·intro h
   have h':=List.pairwise_cons.mp h
   exact⟨h'.1 b List.mem_cons_self,h'.2⟩
noncomputable def servB (m:Ln) (ws:List Tm) (nd:Nd):Bool:=decide (m.g=nd.2)&&m.ws.all fun t=>decide (t∈nd.1)||decide (t∈ws)
noncomputable def leanB (L:List Ln) (ws:List Tm) (j:Int) (nd:Nd):Bool:=match L[j.toNat]? with
 | none=>false
 | some m=>servB m ws nd
noncomputable def goodL (L:List Ln) (i:Nat) (l:Ln):Bool:=adjB l.ws&&match needX l.R l.ws l.g l.on with
 | none=>false
 | some nds=>decide (nds.length=l.ls.length)&&((l.ls.all fun j=>decide (0≤j)&&decide (j < (i:Int)))&&(List.zipWith (leanB L l.ws) l.ls nds).all id)
noncomputable def lineB (L:List Ln) (i:Nat):Bool:=match L[i]? with
 | none=>false
 | some l=>goodL L i l
theorem needX_ok {R:Option Rl} {ws:List Tm} {g:Tm} {on:Option Tm} {nds:List Nd} (hs:sortedT ws) (hok:Okw ws) (gk:g.ok∧g.parts≤110) (h:needX R ws g on=some nds):∀ n∈nds,NdOk ws n:=by
 cases R with
 | none =>
  cases on with
  | none=>cases h
  | some o =>
   have h':(if o∈ws then needOX ws g o none else none)=some nds:=h
   split at h'<;>cases h'
 | some r =>
  cases on with
  | none=>exact need_ok (r:=r) (on:=none) hs hok gk (fun o z=>nomatch z) h
  | some o =>
   have h':(if o∈ws then needOX ws g o (some r) else none)=some nds:=h
   by_cases hin:o∈ws
   ·rw[if_pos hin] at h'
    exact need_ok (r:=r) (on:=some o) hs hok gk (fun o' z=>by cases z;exact hin) h'
   ·rw[if_neg hin] at h';cases h'
noncomputable def sp_serves (K:PySem.W.Frag):Sp:=fun vs H Q _=>∃ (v nv:V) (wa:Addr) (m:Ln) (ws:List Tm) (o:ONd),vs=[v,.ref wa,nv]∧IsLn K H v m∧OkLn m∧IsW K H wa ws∧Okw ws∧ws.length≤900∧IsNdO K H nv o∧Okw o.2.1∧o.2.1.length≤900∧o.2.2.ok∧∀ H',Same H H'→Q (.bl (servB m ws o.2)) H'
noncomputable def sp_isgood (K:PySem.W.Frag):Sp:=fun vs H Q _=>∃ (a:Addr) (us:List V) (L:List Ln) (i:Nat),vs=[.ref a,.int (i:Nat)]∧H a=some (.lst us)∧IsLns K H us L∧(∀ l∈L,OkLn l)∧i < L.length∧L.length≤200∧∀ H',Same H H'→Q (.bl (lineB L i)) H'
noncomputable def sp_partsL (K:PySem.W.Frag) (n:Nat):Sp:=fun vs H Q _=>∃ (v:V) (t:Tm),vs=[v]∧IsT K H v t∧t.deep < n∧∀ H',Same H H'→Q (.int (t.parts:Nat)) H'
noncomputable def headS:Tm→Str
 | .low=>"low"
 | .ltr _=>"letter"
 | .nd k _ _=>k.str
theorem isT_headS {K:PySem.W.Frag} {H:Hp} {v:V} {t:Tm} (h:IsT K H v t):∃ p xs,v=.ref p∧SqT K H p (.str (headS t) :: xs):=by
 cases t with
 | low=>obtain⟨p,rfl,hs⟩:=isT_low.mp h;exact⟨p,_,rfl,hs⟩
 | ltr y=>obtain⟨p,rfl,hs⟩:=isT_ltr.mp h;exact⟨p,_,rfl,hs⟩
 | nd k a b=>obtain⟨p,x,y,rfl,hs,_⟩:=isT_nd.mp h;exact⟨p,_,rfl,hs⟩
theorem take_snocL {α:Type} {l:List α} {i:Nat} {t:α} (h:l[i]?=some t):l.take (i+1)=l.take i++[t]:=by rw[List.take_succ,h];rfl
theorem leanB_app {L M:List Ln} {ws:List Tm} {j:Int} {nd:Nd} (h:j.toNat < L.length):leanB (L++M) ws j nd=leanB L ws j nd:=by unfold leanB;rw[List.getElem?_append_left h]
theorem goodL_app {L M:List Ln} {i:Nat} {l:Ln} (hi:i≤L.length):goodL (L++M) i l=goodL L i l:=by
 unfold goodL
 congr 1
 cases needX l.R l.ws l.g l.on with
 | none=>rfl
 | some nds =>
  dsimp only
  congr 1
  by_cases h:(l.ls.all fun j=>decide (0≤j)&&decide (j < (i:Int)))=true
  ·rw[h,Bool.true_and,Bool.true_and]
   have key:∀ (ls:List Int) (nds:List Nd),(ls.all fun j=>decide (0≤j)&&decide (j < (i:Int)))=true→List.zipWith (leanB (L++M) l.ws) ls nds=List.zipWith (leanB L l.ws) ls nds:=by
    intro ls
    induction ls with
    | nil=>intro nds _;rfl
    | cons j ls ih =>
     intro nds hall
     rw[List.all_cons,Bool.and_eq_true,Bool.and_eq_true,decide_eq_true_iff,decide_eq_true_iff] at hall
     cases nds with
     | nil=>rfl
     | cons nd nds =>
      rw[List.zipWith_cons_cons,List.zipWith_cons_cons,ih nds hall.2,leanB_app (by omega)]
   rw[key _ _ h]
  ·rw[show (l.ls.all fun j=>decide (0≤j)&&decide (j < (i:Int)))=false by simpa using h];rfl
theorem lineB_app {L M:List Ln} {i:Nat} (h:i < L.length):lineB (L++M) i=lineB L i:=by
 unfold lineB
 rw[List.getElem?_append_left h,List.getElem?_eq_getElem h]
 exact goodL_app (Nat.le_of_lt h)
end Ken
namespace L2
open PySem
end L2
namespace Ken
open PySem L2
theorem comp_filt {K:PySem.W.Frag} {a acc:Addr} {us:List V} {ws:List Tm} {σ0:St} {tk:TK} {Q:Hp→Prop} {H:Hp} (f:Tm→Bool) (ha:H a=some (.lst us)) (hU:Paired (IsT K H) us ws) (hl:ws.length≤100) (hacc:H acc=none)
  (hw:∀ v,Wk σ0 (σ0.set 0 (some v)))
  (ht:∀ (v:V) (t:Tm) (H':Hp) (ys:List V) (N:Hp→Prop),t∈ws→Same H H'→IsT K H' v t→H' acc=some (.lst ys)→ys.length < 100 →
   (f t=true→∀ H'',Same H' H''→H'' acc=some (.lst ys)→N (upd H'' acc (.lst (ys++[v]))))→(f t=false→∀ H'',Same H' H''→N H'')→tk (σ0.set 0 (some v)) H' N)
  (hd:∀ (H':Hp) (ys:List V),Same H H'→H' acc=some (.lst ys)→Paired (IsT K H') ys (ws.filter f)→Q H') :
  ∃ W:Nat→Nat→Hp→Prop,(∃ m,W 0 m (upd H acc (.lst [])))∧compW σ0 (Itl K a) (gName 0) tk Q W:=by
 have lu:us.length=ws.length:=Paired.length hU
 refine comp_list (xs:=us) (fun i H'=>Same H H'∧∃ ys,H' acc=some (.lst ys)∧Paired (IsT K H') ys ((ws.take i).filter f)) ⟨same_new hacc _,[],upd_same,.nil⟩ (fun i H' _ ⟨e,_⟩=>SqL.of (e _ _ ha)) (fun i v H' N hv ⟨e,ys,h,hP⟩ hN=>?_) (fun H' ⟨e,ys,h,hP⟩=>?_)
 ·obtain⟨t,ht',hT⟩:=paired_get hU hv
  have hi:i < ws.length:=(List.getElem?_eq_some_iff.mp ht').1
  have et:(ws.take (i+1)).filter f=(ws.take i).filter f++[t].filter f:=by rw[take_snoc ht',List.filter_append]
  have ly:=Paired.length hP
  have lf:((ws.take i).filter f).length≤i:=by
   have h1:=List.length_filter_le f (ws.take i)
   rw[List.length_take] at h1;omega
  show Wk σ0 (σ0.set 0 (some v))∧tk (σ0.set 0 (some v)) H' N
  refine⟨hw v,ht v t H' ys N (List.mem_of_getElem? ht') e (hT.keep e.keepT) h (by omega) (fun hf H'' e2 h2=>hN _ ⟨(e.trans e2).write hacc,_,upd_same,?_⟩) (fun hf H'' e2=>hN _ ⟨e.trans e2,ys,e2 _ _ h,?_⟩)⟩
  ·have kk:KeepT K H'' (upd H'' acc (.lst (ys++[v]))):=keepT_lst h2
   rw[et,show [t].filter f=[t] by simp[hf]]
   exact paired_app (paired_keepT (e2.keepT.trans kk) hP) (.cons ((hT.keep (e.trans e2).keepT).keep kk) .nil)
  ·rw[et,show [t].filter f=[] by simp[hf],List.append_nil]
   exact paired_keepT e2.keepT hP
 ·rw[lu,List.take_length] at hP
  exact hd H' ys e h hP
theorem goodL_mk {L:List Ln} {i:Nat} {l:Ln} {nds:List Nd} (hs:sortedT l.ws) (hx:needX l.R l.ws l.g l.on=some nds) (hl:nds.length=l.ls.length) (hb:∀ (k:Nat) (j:Int) (nd:Nd),l.ls[k]?=some j→nds[k]?=some nd→∃ (n:Nat) (m:Ln),j=(n:Int)∧n < i∧L[n]?=some m∧m.g=nd.2∧∀ t∈m.ws,t∈nd.1∨t∈l.ws):goodL L i l=true:=by
 unfold goodL
 rw[adjB_iff.mpr hs,hx]
 show (decide (nds.length=l.ls.length)&&((l.ls.all fun j=>decide (0≤j)&&decide (j < (i:Int)))&&(List.zipWith (leanB L l.ws) l.ls nds).all id))=true
 have pick:∀ (k:Nat) (j:Int),l.ls[k]?=some j→∃ nd,nds[k]?=some nd:=fun k j h=>by
  have:k < l.ls.length:=(List.getElem?_eq_some_iff.mp h).1
  exact⟨_,List.getElem?_eq_getElem (show k < nds.length by omega)⟩
 rw[decide_eq_true hl,Bool.true_and,Bool.and_eq_true,List.all_eq_true,List.all_eq_true]
 refine⟨fun j hj=>?_,fun b hb'=>?_⟩
 ·obtain⟨k,hk,e⟩:=List.getElem_of_mem hj
  have h1:l.ls[k]?=some j:=by rw[List.getElem?_eq_getElem hk,e]
  obtain⟨nd,h2⟩:=pick k j h1
  obtain⟨n,m,rfl,hn,_⟩:=hb k j nd h1 h2
  rw[Bool.and_eq_true,decide_eq_true_iff,decide_eq_true_iff]
  omega
 ·obtain⟨k,hk,e⟩:=List.getElem_of_mem hb'
  rw[List.getElem_zipWith] at e
  rw[List.length_zipWith] at hk
  have hk1:k < l.ls.length:=by omega
  have hk2:k < nds.length:=by omega
  obtain⟨n,m,ej,hn,hm,hg,hw⟩:=hb k _ _ (List.getElem?_eq_getElem hk1) (List.getElem?_eq_getElem hk2)
  rw[← e,ej]
  show leanB L l.ws (n:Int) nds[k]=true
  unfold leanB
  rw[Int.toNat_natCast,hm]
  show servB m l.ws nds[k]=true
  unfold servB
  rw[decide_eq_true hg,Bool.true_and,List.all_eq_true]
  intro t ht
  rcases hw t ht with z | z
  ·rw[decide_eq_true z];rfl
  ·rw[decide_eq_true z,Bool.or_true]
theorem good0 {L:List Ln} {i:Nat} {l:Ln} (hs:sortedT l.ws) (hx:needX l.R l.ws l.g l.on=some []) (hl:l.ls=[]):goodL L i l=true:=goodL_mk hs hx (by rw[hl];rfl) fun k j nd _ h=>by simp at h
theorem good1 {L:List Ln} {i n:Nat} {l m:Ln} {nd:Nd} (hs:sortedT l.ws) (hx:needX l.R l.ws l.g l.on=some [nd]) (hl:l.ls=[(n:Int)]) (hn:n < i) (hm:L[n]?=some m) (hg:m.g=nd.2) (hw:∀ t∈m.ws,t∈nd.1∨t∈l.ws):goodL L i l=true:=goodL_mk hs hx (by rw[hl];rfl) fun k j nd' h1 h2=>by
 rw[hl] at h1
 match k,h1,h2 with
 | 0,h1,h2=>cases h1;cases h2;exact⟨n,m,rfl,hn,hm,hg,hw⟩
 | k+1,h1,_=>simp at h1
theorem good2 {L:List Ln} {i n n':Nat} {l m m':Ln} {nd nd':Nd} (hs:sortedT l.ws) (hx:needX l.R l.ws l.g l.on=some [nd,nd']) (hl:l.ls=[(n:Int),(n':Int)]) (hn:n < i) (hm:L[n]?=some m) (hg:m.g=nd.2) (hw:∀ t∈m.ws,t∈nd.1∨t∈l.ws)
  (hn':n' < i) (hm':L[n']?=some m') (hg':m'.g=nd'.2) (hw':∀ t∈m'.ws,t∈nd'.1∨t∈l.ws):goodL L i l=true:=goodL_mk hs hx (by rw[hl];rfl) fun k j nd'' h1 h2=>by
 rw[hl] at h1
 match k,h1,h2 with
 | 0,h1,h2=>cases h1;cases h2;exact⟨n,m,rfl,hn,hm,hg,hw⟩
 | 1,h1,h2=>cases h1;cases h2;exact⟨n',m',rfl,hn',hm',hg',hw'⟩
 | k+2,h1,_=>simp at h1
end Ken
namespace L2
open PySem
theorem op_notInTK {X:Cx} {K:PySem.W.Frag} (e:X.K=K) (hu:X.A.units+150 < cLine):OpR X (compareOp .NotIn) (rInT K true):=e▸op_notInT hu
noncomputable def SB (d:Addr) (H H':Hp):Prop:=∀ a o,a≠d→H a=some o→H' a=some o
noncomputable def SBw (d:Addr) (H H':Hp):Prop:=∀ a o,a≠d→(∀ ps,o≠HO.tbl ps)→H a=some o→H' a=some o
theorem SB.w {d:Addr} {H H':Hp} (x:SB d H H'):SBw d H H':=fun a o n _ h=>x a o n h
theorem SB.refl (d:Addr) (H:Hp):SB d H H:=fun _ _ _ h=>h
theorem SB.trans {d:Addr} {H H1 H2:Hp} (x:SB d H H1) (y:SB d H1 H2):SB d H H2:=fun a o n h=>y a o n (x a o n h)
theorem Same.sb {H H':Hp} (d:Addr) (x:Same H H'):SB d H H':=fun a o _ h=>x a o h
theorem SameT.sb {H H':Hp} (d:Addr) (x:SameT H H'):SBw d H H':=fun a o _ t h=>x a o t h
theorem SB.write {d:Addr} {H H1:Hp} (x:SB d H H1) (o:HO):SB d H (upd H1 d o):=fun a u n h=>by rw[upd_ne n];exact x a u n h
theorem SBw.keepT {d:Addr} {H H':Hp} {K:PySem.W.Frag} {xs:List V} (x:SBw d H H') (h:H d=some (.lst xs)):KeepT K H H':=fun a ys q=>by
 have nd:∀ o,H a=some o→(∀ zs,o≠.lst zs)→a≠d:=fun o e z hz=>by
  rw[hz,h] at e
  cases e
  exact z _ rfl
 rcases q with (q | ⟨o,q⟩) | q
 ·exact .inl (.inl (x a _ (nd _ q fun _ z=>nomatch z) (fun _ z=>nomatch z) q))
 ·exact .inl (.inr ⟨o,x a _ (nd _ q fun _ z=>nomatch z) (fun _ z=>nomatch z) q⟩)
 ·exact .inr q
theorem SB.keepT {d:Addr} {H H':Hp} {K:PySem.W.Frag} {xs:List V} (x:SB d H H') (h:H d=some (.lst xs)):KeepT K H H':=x.w.keepT h
theorem TabOk.sb {d:Addr} {H H':Hp} {T:Addr} {ds:List (Pos×Str)} {xs:List V} (t:TabOk H T ds) (x:SB d H H') (h:H d=some (.lst xs)):TabOk H' T ds:=by
 obtain⟨ps,h1,h2,h3⟩:=t
 have nd:∀ {a o},H a=some o→(∀ zs,o≠.lst zs)→a≠d:=fun {a o} e z hz=>by
  rw[hz,h] at e
  cases e
  exact z _ rfl
 refine⟨ps,x _ _ (nd h1 fun _ z=>nomatch z) h1,h2,fun e he cv hc=>?_⟩
 obtain⟨c,o,vs,tk,z1,z2,z3⟩:=h3 e he cv hc
 exact⟨c,o,vs,tk,z1,x _ _ (nd z2 fun _ z=>nomatch z) z2,z3⟩
end L2
namespace Ken
open PySem L2
noncomputable abbrev LnA:=Ln×Addr×Addr
noncomputable def IsLnA (K:PySem.W.Frag) (H:Hp) (v:V) (x:LnA):Prop:=∃ (p:Addr) (gv ov:V) (us:List V),v=.ref p∧SqT K H p [.str x.1.x,.ref x.2.1,gv,ov,.ref x.2.2]∧H x.2.1=some (.lst us)∧Paired (IsT K H) us x.1.ws∧IsT K H gv x.1.g∧OnX K H ov x.1.on∧H x.2.2=some (.lst (x.1.ls.map V.int))
theorem IsLnA.ln {K:PySem.W.Frag} {H:Hp} {v:V} {x:LnA} (h:IsLnA K H v x):IsLn K H v x.1:=by
 obtain⟨p,gv,ov,us,h⟩:=h
 exact⟨p,x.2.1,x.2.2,gv,ov,us,h⟩
theorem IsLnA.keep {K:PySem.W.Frag} {d:Addr} {H H':Hp} (s:SBw d H H') {zs:List V} (hd:H d=some (.lst zs)) {v:V} {x:LnA} (h:IsLnA K H v x) (n1:x.2.1≠d) (n2:x.2.2≠d):IsLnA K H' v x:=by
 obtain⟨p,gv,ov,us,rfl,h1,h2,h3,h4,h5,h6⟩:=h
 have k:KeepT K H H':=s.keepT hd
 exact⟨p,gv,ov,us,rfl,k _ _ h1,s _ _ n1 (fun _ z=>nomatch z) h2,paired_keepT k h3,h4.keep k,h5.keep k,s _ _ n2 (fun _ z=>nomatch z) h6⟩
noncomputable def adrs (xs:List LnA):List Addr:=xs.flatMap fun x=>[x.2.1,x.2.2]
structure LS (K:PySem.W.Frag) (H:Hp) (F:List Addr) (la:Addr) (us:List V) (xs:List LnA):Prop where
 h:H la=some (.lst us)
 p:Paired (IsLnA K H) us xs
 good:∀ i,i < xs.length→lineB (xs.map (·.1)) i=true
 ok:∀ x∈xs,OkLn x.1
 nd:(la :: (F++adrs xs)).Nodup
 fh:∀ a∈F,∃ zs,H a=some (.lst zs)
theorem LS.ne {K:PySem.W.Frag} {H:Hp} {F:List Addr} {la:Addr} {us:List V} {xs:List LnA} (s:LS K H F la us xs) {x:LnA} (hx:x∈xs):x.2.1≠la∧x.2.2≠la:=by
 have:=(List.nodup_cons.mp s.nd).1
 exact⟨fun z=>this (z▸List.mem_append_right _ (List.mem_flatMap.mpr ⟨x,hx,by simp⟩)),fun z=>this (z▸List.mem_append_right _ (List.mem_flatMap.mpr ⟨x,hx,by simp⟩))⟩
theorem LS.len {K:PySem.W.Frag} {H:Hp} {F:List Addr} {la:Addr} {us:List V} {xs:List LnA} (s:LS K H F la us xs):us.length=xs.length:=Paired.length s.p
theorem paired_memL {α β:Type} {F:α→β→Prop}:∀ {l:List α} {m:List β},Paired F l m→∀ y∈m,∃ x,F x y
 | _,_,.nil,y,hy=>absurd hy (by simp)
 | _,_,.cons h t,y,hy=>by
  rcases List.mem_cons.mp hy with z | z
  ·exact⟨_,z▸h⟩
  ·exact paired_memL t y z
theorem paired_mapM {α β:Type} {F G:α→β→Prop}:∀ {l:List α} {m:List β},Paired F l m→(∀ x y,y∈m→F x y→G x y)→Paired G l m
 | _,_,.nil,_=>.nil
 | _,_,.cons h t,k=>.cons (k _ _ List.mem_cons_self h) (paired_mapM t fun x y hy=>k x y (List.mem_cons_of_mem _ hy))
theorem LS.keepw {K:PySem.W.Frag} {H H':Hp} {F:List Addr} {la:Addr} {us:List V} {xs:List LnA} (s:LS K H F la us xs) (e:SBw la H H') (h:H' la=some (.lst us)):LS K H' F la us xs :=
 ⟨h,paired_mapM s.p fun _ _ hy z=>z.keep e s.h (s.ne hy).1 (s.ne hy).2,s.good,s.ok,s.nd,fun a ha=>by
  obtain⟨zs,z⟩:=s.fh a ha
  exact⟨zs,e a _ (fun y=>(List.nodup_cons.mp s.nd).1 (y▸List.mem_append_left _ ha)) (fun _ y=>nomatch y) z⟩⟩
theorem LS.keep {K:PySem.W.Frag} {H H':Hp} {F:List Addr} {la:Addr} {us:List V} {xs:List LnA} (s:LS K H F la us xs) (e:SB la H H') (h:H' la=some (.lst us)):LS K H' F la us xs:=s.keepw e.w h
theorem LS.there {K:PySem.W.Frag} {H:Hp} {F:List Addr} {la:Addr} {us:List V} {xs:List LnA} (s:LS K H F la us xs) {a:Addr} (h:a∈la :: (F++adrs xs)):H a≠none:=by
 rcases List.mem_cons.mp h with z | z
 ·rw[z,s.h];exact fun z=>nomatch z
 rcases List.mem_append.mp z with z | z
 ·obtain⟨zs,y⟩:=s.fh a z
  rw[y];exact fun z=>nomatch z
 ·obtain⟨x,hx,hy⟩:=List.mem_flatMap.mp z
  obtain⟨v,p,gv,ov,ys,_,_,h2,_,_,_,h6⟩:=paired_memL s.p x hx
  simp only[List.mem_cons,List.not_mem_nil,or_false] at hy
  rcases hy with z | z
  ·rw[z,h2];exact fun z=>nomatch z
  ·rw[z,h6];exact fun z=>nomatch z
theorem LS.snoc {K:PySem.W.Frag} {H H1:Hp} {F:List Addr} {la:Addr} {us:List V} {xs:List LnA} (s:LS K H F la us xs) (e:SB la H H1) (h1:H1 la=some (.lst us)) {v:V} {y:LnA} (hv:IsLnA K H1 v y) (f1:H y.2.1=none) (f2:H y.2.2=none) (f3:y.2.1≠y.2.2)
  (hg:goodL (xs.map (·.1)) xs.length y.1=true) (hk:OkLn y.1):LS K (upd H1 la (.lst (us++[v]))) F la (us++[v]) (xs++[y]):=by
 have s1:=s.keep e h1
 have out:∀ {a:Addr},H a=none→a ∉ la :: (F++adrs xs):=fun {a} z hm=>s.there hm z
 have nl1:y.2.1≠la:=fun z=>out f1 (z▸List.mem_cons_self)
 have nl2:y.2.2≠la:=fun z=>out f2 (z▸List.mem_cons_self)
 have w:SBw la H1 (upd H1 la (.lst (us++[v]))):=((SB.refl la H1).write _).w
 refine⟨upd_same,paired_app (paired_mapM s1.p fun _ _ hy z=>z.keep w h1 (s.ne hy).1 (s.ne hy).2) (.cons (hv.keep w h1 nl1 nl2) .nil),fun i hi=>?_,fun z hz=>?_,?_,fun a ha=>?_⟩
 ·rw[List.length_append,List.length_singleton] at hi
  rw[List.map_append]
  rcases Nat.lt_or_ge i xs.length with z | z
  ·rw[lineB_app (by rw[List.length_map];exact z)];exact s.good i z
  ·have:i=xs.length:=by omega
   subst this
   unfold lineB
   have lm:(xs.map (·.1)).length=xs.length:=List.length_map ..
   rw[List.getElem?_append_right (by rw[lm];exact Nat.le_refl _),lm,Nat.sub_self]
   show goodL (xs.map (·.1)++[y.1]) xs.length y.1=true
   rw[goodL_app (by rw[lm];exact Nat.le_refl _)];exact hg
 ·rcases List.mem_append.mp hz with z | z
  ·exact s.ok _ z
  ·rw[List.mem_singleton.mp z];exact hk
 ·have ea:adrs (xs++[y])=adrs xs++[y.2.1,y.2.2]:=by unfold adrs;rw[List.flatMap_append];rfl
  rw[ea,← List.append_assoc,← List.cons_append,List.nodup_append]
  refine⟨s.nd,by simpa using f3,fun a ha b hb=>?_⟩
  simp only[List.mem_cons,List.not_mem_nil,or_false] at hb
  rcases hb with rfl | rfl
  ·exact fun z=>out f1 (z▸ha)
  ·exact fun z=>out f2 (z▸ha)
 ·obtain⟨zs,z⟩:=s1.fh a ha
  have na:a≠la:=fun (y:a=la)=>(List.nodup_cons.mp s.nd).1 (y▸List.mem_append_left _ ha)
  exact⟨zs,by rw[upd_ne na];exact z⟩
theorem LS.other {K:PySem.W.Frag} {H:Hp} {F:List Addr} {la:Addr} {us:List V} {xs:List LnA} (s:LS K H F la us xs) {d:Addr} (hd:d∈F) (zs:List V):LS K (upd H d (.lst zs)) F la us xs:=by
 have nla:la≠d:=fun z=>(List.nodup_cons.mp s.nd).1 (z▸List.mem_append_left _ hd)
 have nx:∀ x∈xs,x.2.1≠d∧x.2.2≠d:=fun x hx=>by
  have h:=(List.nodup_append.mp (List.nodup_cons.mp s.nd).2).2.2 d hd
  exact⟨fun z=>h _ (List.mem_flatMap.mpr ⟨x,hx,by simp⟩) z.symm,fun z=>h _ (List.mem_flatMap.mpr ⟨x,hx,by simp⟩) z.symm⟩
 obtain⟨ys,hy⟩:=s.fh d hd
 have w:SBw d H (upd H d (.lst zs)):=((SB.refl d H).write _).w
 refine⟨by rw[upd_ne nla];exact s.h,paired_mapM s.p fun _ _ hx z=>z.keep w hy (nx _ hx).1 (nx _ hx).2,s.good,s.ok,s.nd,fun a ha=>?_⟩
 by_cases e:a=d
 ·exact⟨zs,by rw[e,upd_same]⟩
 ·obtain⟨vs,z⟩:=s.fh a ha
  exact⟨vs,by rw[upd_ne e];exact z⟩
theorem isLnA_mk {K:PySem.W.Frag} {H:Hp} {p wa la:Addr} {gv ov:V} {x:Str} {R:Option Rl} {ws:List Tm} {g:Tm} {on:Option Tm} {ls:List Int} (hp:H p=none) (hw:IsW K H wa ws) (hg:IsT K H gv g) (ho:OnX K H ov on) (hl:H la=some (.lst (ls.map V.int))) :
  IsLnA K (upd H p (.tup [.str x,.ref wa,gv,ov,.ref la])) (.ref p) (⟨x,R,ws,g,on,ls⟩,wa,la):=by
 have s:=same_new hp (HO.tup [.str x,.ref wa,gv,ov,.ref la])
 obtain⟨⟨us,h1,h2⟩,_⟩:=hw
 exact⟨p,gv,ov,us,rfl,.inl (.inl upd_same),s _ _ h1,paired_keepT s.keepT h2,hg.keep s.keepT,ho.keep s.keepT,s _ _ hl⟩
noncomputable def Tld (K:PySem.W.Frag) (H:Hp) (xs:List LnA) (ifs:List Tm) (u:V) (b a:Tm) (n:Nat):Prop:=∃ (p:Addr) (bv av:V) (y:LnA),u=.ref p∧SqT K H p [bv,av,.int (n:Nat)]∧IsT K H bv b∧IsT K H av a∧xs[n]?=some y∧y.1.ws=norm (ifs++[b])∧y.1.g=a
theorem Tld.keep {K:PySem.W.Frag} {H H':Hp} (k:KeepT K H H') {xs ys:List LnA} {ifs:List Tm} {u:V} {b a:Tm} {n:Nat} (h:Tld K H xs ifs u b a n):Tld K H' (xs++ys) ifs u b a n:=by
 obtain⟨p,bv,av,y,rfl,h1,h2,h3,h4,h5⟩:=h
 exact⟨p,bv,av,y,rfl,k _ _ h1,h2.keep k,h3.keep k,by rw[List.getElem?_append_left (List.getElem?_eq_some_iff.mp h4).1];exact h4,h5⟩
structure IfsOk (ifs:List Tm):Prop where
 s:sortedT ifs
 ok:∀ t∈ifs,t.ok∧t.parts≤20
 l:ifs.length≤2
theorem IfsOk.okw {ifs:List Tm} (h:IfsOk ifs):Okw ifs:=fun t ht=>⟨(h.ok t ht).1,by have:=(h.ok t ht).2;omega⟩
noncomputable def sp_leaf62 (K:PySem.W.Frag):Sp:=fun vs H Q _=>∃ (F:List Addr) (la ia:Addr) (bv av:V) (us:List V) (xs:List LnA) (ifs:List Tm) (b a:Tm),vs=[.ref la,.ref ia,bv,av]∧LS K H F la us xs∧ia≠la∧IsW K H ia ifs∧IfsOk ifs∧IsT K H bv b∧IsT K H av a∧b.ok∧a.ok∧b.parts≤20∧a.parts≤20∧(b≠a→Tm.nd .thn b a∈ifs)∧xs.length≤190 ∧
 ∀ (r:V) (H':Hp) (us':List V) (ys:List LnA) (n:Nat),SB la H H'→(∀ z,H' z=none→H z=none)→LS K H' F la us' (xs++ys)→Tld K H' (xs++ys) ifs r b a n→n+1=(xs++ys).length→ys.length≤2→Q r H'
noncomputable def befK (k:Kd) (b1 a1 b2 a2:Tm):Tm:=match k with
 | .thn=>.nd .thn a1 b2
 | k=>.nd k b1 b2
noncomputable def aftK (k:Kd) (b1 a1 b2 a2:Tm):Tm:=match k with
 | .thn=>.nd .thn b1 a2
 | k=>.nd k a1 a2
noncomputable def sp_deed62 (K:PySem.W.Frag) (k:Kd):Sp:=fun vs H Q _=>∃ (F:List Addr) (la ia:Addr) (fv sv:V) (us:List V) (xs:List LnA) (ifs:List Tm) (b1 a1 b2 a2:Tm) (n1 n2:Nat),vs=[.ref la,.ref ia,fv,sv]∧LS K H F la us xs∧ia≠la∧IsW K H ia ifs∧IfsOk ifs ∧
 Tld K H xs ifs fv b1 a1 n1∧Tld K H xs ifs sv b2 a2 n2∧b1.ok∧a1.ok∧b2.ok∧a2.ok∧1+b1.parts+b2.parts≤110∧1+a1.parts+a2.parts≤110∧1+a1.parts+b2.parts≤110∧1+b1.parts+a2.parts≤110∧xs.length≤190 ∧
 ∀ (r:V) (H':Hp) (us':List V) (ys:List LnA) (n:Nat),SB la H H'→(∀ z,H' z=none→H z=none)→LS K H' F la us' (xs++ys)→Tld K H' (xs++ys) ifs r (befK k b1 a1 b2 a2) (aftK k b1 a1 b2 a2) n→n+1=(xs++ys).length→ys.length≤3→Q r H'
noncomputable def Tm.dirs:Tm→Bool→List (Tm×Bool)
 | .low,d=>[(.low,d)]
 | .ltr w,d=>[(.ltr w,d)]
 | .nd k a b,d=>(.nd k a b,d) :: (a.dirs (if k=.thn then !d else d)++b.dirs d)
noncomputable def dirsP (x:Tm×Bool):List (Tm×Bool):=x.1.dirs x.2
noncomputable def kidsD:Tm×Bool→List (Tm×Bool)
 | (.nd k a b,d)=>[(a,if k=.thn then !d else d),(b,d)]
 | _=>[]
theorem dirs_eq (x:Tm×Bool):dirsP x=x :: (kidsD x).flatMap dirsP:=by
 obtain⟨t,d⟩:=x
 cases t with
 | low=>rfl
 | ltr w=>rfl
 | nd k a b=>show _ :: (a.dirs _++b.dirs d)=_ :: (a.dirs _++(b.dirs d++[]));rw[List.append_nil]
theorem dirs_len:∀ (t:Tm) (d:Bool),(t.dirs d).length=t.parts
 | .low,_=>rfl
 | .ltr _,_=>rfl
 | .nd k a b,d=>by
  show (a.dirs _++b.dirs d).length+1=1+a.parts+b.parts
  rw[List.length_append,dirs_len a,dirs_len b];omega
theorem dirs_drop:∀ (t:Tm) (d:Bool) (j:Nat),j < (t.dirs d).length→∃ s rest,(t.dirs d)[j]?=some s∧(t.dirs d).drop j=dirsP s++rest∧s.1∈t.pre
 | .low,d,j,h=>by
  have:j=0:=by have h':j < 1:=h;omega
  subst this
  exact⟨(.low,d),[],rfl,rfl,List.mem_cons_self⟩
 | .ltr w,d,j,h=>by
  have:j=0:=by have h':j < 1:=h;omega
  subst this
  exact⟨(.ltr w,d),[],rfl,rfl,List.mem_cons_self⟩
 | .nd k a b,d,0,h=>⟨(.nd k a b,d),[],rfl,by rw[List.append_nil];rfl,List.mem_cons_self⟩
 | .nd k a b,d,j+1,h=>by
  have e1:(Tm.nd k a b).dirs d=(.nd k a b,d) :: (a.dirs (if k=.thn then !d else d)++b.dirs d):=rfl
  have e2:(Tm.nd k a b).pre=.nd k a b :: (a.pre++b.pre):=rfl
  rw[e1] at h ⊢
  rw[List.length_cons,List.length_append] at h
  rw[List.getElem?_cons_succ,List.drop_succ_cons,e2]
  generalize (if k=Kd.thn then !d else d)=d' at h ⊢
  by_cases hj:j < (a.dirs d').length
  ·obtain⟨s,rest,h1,h2,h3⟩:=dirs_drop a d' j hj
   refine⟨s,rest++b.dirs d,by rw[List.getElem?_append_left hj];exact h1,?_,List.mem_cons_of_mem _ (List.mem_append_left _ h3)⟩
   rw[List.drop_append_of_le_length (Nat.le_of_lt hj),h2,List.append_assoc]
  ·obtain⟨s,rest,h1,h2,h3⟩:=dirs_drop b d (j - (a.dirs d').length) (by omega)
   refine⟨s,rest,by rw[List.getElem?_append_right (by omega)];exact h1,?_,List.mem_cons_of_mem _ (List.mem_append_right _ h3)⟩
   rw[List.drop_append,List.drop_of_length_le (by omega),List.nil_append];exact h2
theorem dirsF_head {fs:List (Tm×Bool)} {a:Tm×Bool} {rest:List (Tm×Bool)} (h:fs.flatMap dirsP=dirsP a++rest):∃ fs',fs=a :: fs'∧fs'.flatMap dirsP=rest:=by
 cases fs with
 | nil=>rw[dirs_eq a] at h;cases h
 | cons f fs =>
  have h':=h
  rw[List.flatMap_cons,dirs_eq f,dirs_eq a] at h'
  have ef:f=a:=(List.cons.inj h').1
  subst ef
  rw[List.flatMap_cons] at h
  exact⟨fs,rfl,List.append_cancel_left h⟩
noncomputable def IsD (K:PySem.W.Frag) (H:Hp) (v:V) (x:Tm×Bool):Prop:=∃ (p:Addr) (tv:V),v=.ref p∧SqT K H p [tv,.bl x.2]∧IsT K H tv x.1
theorem IsD.keep {K:PySem.W.Frag} {H H':Hp} (k:KeepT K H H') {v:V} {x:Tm×Bool} (h:IsD K H v x):IsD K H' v x:=by
 obtain⟨p,tv,rfl,h1,h2⟩:=h
 exact⟨p,tv,rfl,k _ _ h1,h2.keep k⟩
noncomputable def sp_directed (K:PySem.W.Frag):Sp:=fun vs H Q _=>∃ (v:V) (t:Tm),vs=[v]∧IsT K H v t∧t.parts≤400 ∧
 ∀ (r:Addr) (H':Hp) (us:List V),Same H H'→H r=none→H' r=some (.lst us)→Paired (IsD K H') us (t.dirs false)→Q (.ref r) H'
theorem sub_parts {x:Str} {o:Tm}:∀ t:Tm,(t.sub x o).parts≤t.parts+(t.parts+1) / 2*(o.parts - 1)
 | .low=>by show 1≤1+(1+1) / 2*(o.parts - 1);omega
 | .ltr w=>by
  show (if w=x then o else Tm.ltr w).parts≤1+(1+1) / 2*(o.parts - 1)
  rw[show (1+1) / 2=1 from rfl,Nat.one_mul]
  have:=o.parts_pos
  by_cases e:w=x
  ·rw[if_pos e];omega
  ·rw[if_neg e];show 1≤_;omega
 | .nd k a b=>by
  show 1+(a.sub x o).parts+(b.sub x o).parts≤1+a.parts+b.parts+(1+a.parts+b.parts+1) / 2*(o.parts - 1)
  have h1:=sub_parts (x:=x) (o:=o) a
  have h2:=sub_parts (x:=x) (o:=o) b
  have h3:(a.parts+1) / 2+(b.parts+1) / 2≤(1+a.parts+b.parts+1) / 2:=by omega
  have h4:=Nat.mul_le_mul_right (o.parts - 1) h3
  rw[Nat.add_mul] at h4
  omega
end Ken
namespace L2
open PySem PySem.Spec PyProof.Rows
end L2
namespace Ken
open PySem L2
end Ken
namespace L2
open PySem PySem.Spec PyProof.Rows
end L2
namespace L2
open PySem PySem.Spec PyProof.Rows Ken
end L2
namespace L2
open PySem PySem.Spec PyProof.Rows Ken
end L2
namespace L2
open PySem PySem.Spec PyProof.Rows
end L2
namespace Ken
open PySem L2
noncomputable def NF (H H':Hp):Prop:=∀ z,H' z=none→H z=none
theorem NF.trans {H H1 H2:Hp} (a:NF H H1) (b:NF H1 H2):NF H H2:=fun z h=>a z (b z h)
theorem Same.nf {H H':Hp} (e:Same H H'):NF H H':=fun z h=>e.free h
theorem NF.write {H H1:Hp} (a:NF H H1) {d:Addr} {o:HO}:NF H (upd H1 d o):=fun z h=>by
 by_cases e:z=d
 ·rw[e,upd_same] at h;cases h
 ·rw[upd_ne e] at h;exact a z h
theorem LS.put {K:PySem.W.Frag} {H H2:Hp} {F:List Addr} {la:Addr} {us:List V} {xs:List LnA} (s:LS K H F la us xs) (e:Same H H2) {r a2 p:Addr} {gv ov:V} {x:Str} {R:Option Rl} {ws:List Tm} {g:Tm} {on:Option Tm} {ls:List Int} {vs:List V} (hvs:vs=ls.map V.int) (fr:H r=none) (hw:IsW K H2 r ws) (hg:IsT K H2 gv g) (ho:OnX K H2 ov on) (h2:H2 a2=none) (hp:upd H2 a2 (.lst vs) p=none)
  (hgd:goodL (xs.map (·.1)) xs.length ⟨x,R,ws,g,on,ls⟩=true) (hk:OkLn ⟨x,R,ws,g,on,ls⟩) :
  upd (upd H2 a2 (.lst vs)) p (.tup [.str x,.ref r,gv,ov,.ref a2]) la=some (.lst us) ∧
  LS K (upd (upd (upd H2 a2 (.lst vs)) p (.tup [.str x,.ref r,gv,ov,.ref a2])) la (.lst (us++[.ref p]))) F la (us++[.ref p]) (xs++[(⟨x,R,ws,g,on,ls⟩,r,a2)]) ∧
  SB la H (upd (upd (upd H2 a2 (.lst vs)) p (.tup [.str x,.ref r,gv,ov,.ref a2])) la (.lst (us++[.ref p]))) ∧
  NF H (upd (upd (upd H2 a2 (.lst vs)) p (.tup [.str x,.ref r,gv,ov,.ref a2])) la (.lst (us++[.ref p]))):=by
 subst hvs
 have s1:=same_new h2 (HO.lst (ls.map V.int))
 have s2:=same_new hp (HO.tup [.str x,.ref r,gv,ov,.ref a2])
 have S:=e.trans (s1.trans s2)
 have hla:=S _ _ s.h
 have hl:=isLnA_mk (x:=x) (R:=R) (ls:=ls) hp (hw.keep s1) (hg.keep s1.keepT) (ho.keep s1.keepT) (la:=a2) upd_same
 obtain⟨⟨zs,z1,_⟩,_⟩:=hw
 exact⟨hla,s.snoc (S.sb la) hla hl fr (e.free h2) (fun z=>by rw[show r=a2 from z,h2] at z1;cases z1) hgd hk,(S.sb la).write _,(Same.nf S).write⟩
theorem mem_nb {ifs:List Tm} {b t:Tm}:t∈norm (ifs++[b])↔t∈ifs∨t=b:=by rw[mem_norm,List.mem_append,List.mem_singleton]
theorem mem_nb2 {ifs:List Tm} {b c t:Tm}:t∈norm (ifs++[b,c])↔t∈ifs∨t=b∨t=c:=by rw[mem_norm,List.mem_append];simp
theorem len_insT (t:Tm):∀ l:List Tm,(insT t l).length≤l.length+1
 | []=>by unfold insT;simp
 | a :: l=>by
  unfold insT
  have:=len_insT t l
  repeat' split
  all_goals simp only[List.length_cons]
  all_goals omega
theorem len_norm:∀ l:List Tm,(norm l).length≤l.length
 | []=>Nat.le_refl _
 | a :: l=>by
  show (insT a (norm l)).length≤l.length+1
  have:=len_insT a (norm l)
  have:=len_norm l
  omega
theorem IfsOk.ln {ifs:List Tm} (hi:IfsOk ifs) {x:Str} {R:Option Rl} {ts:List Tm} {g:Tm} {on:Option Tm} {ls:List Int} (hr:RIs x R) (ht:Okw ts) (hl:ts.length≤5) (hg:g.ok) (gp:g.parts≤110) (hll:ls.length≤5):OkLn ⟨x,R,norm (ifs++ts),g,on,ls⟩ :=
 ⟨hr,fun t h=>by
  rcases List.mem_append.mp (mem_norm.mp h) with z | z
  ·exact hi.okw t z
  ·exact ht t z,by have h1:=len_norm (ifs++ts);have:=hi.l;rw[List.length_append] at h1;show (norm (ifs++ts)).length≤60;omega,hg,gp,by show ls.length≤100;omega⟩
theorem okw1 {b:Tm} (h:b.ok) (p:b.parts≤110):Okw [b]:=fun t ht=>by rw[List.mem_singleton.mp ht];exact⟨h,p⟩
theorem okw2 {b c:Tm} (h:b.ok) (p:b.parts≤110) (h':c.ok) (p':c.parts≤110):Okw [b,c]:=fun t ht=>by
 simp only[List.mem_cons,List.not_mem_nil,or_false] at ht
 rcases ht with rfl | rfl
 ·exact⟨h,p⟩
 ·exact⟨h',p'⟩
theorem map_at1 {xs:List LnA} {n:Nat} {y:LnA} (h:xs[n]?=some y):(xs.map (·.1))[n]?=some y.1:=by rw[List.getElem?_map,h];rfl
theorem snoc_at {α:Type} (xs:List α) (y:α):(xs++[y])[xs.length]?=some y:=by rw[List.getElem?_append_right (Nat.le_refl _),Nat.sub_self];rfl
theorem more_of {K:PySem.W.Frag} {H:Hp} {ia p:Addr} {ifs:List Tm} (hI:IsW K H ia ifs) (iok:IfsOk ifs) (hp:H p=none) {vs:List V} {ts:List Tm} (hv:Paired (IsT K H) vs ts) (ht:Okw ts) (hl:ts.length≤5) {Q:VK} (k:∀ (r:Addr) (H2:Hp),Same H H2→H r=none→IsW K H2 r (norm (ifs++ts))→Q (.ref r) H2):sp_more K [.ref ia,.ref p] (upd H p (.lst vs)) Q E0:=by
 have s:=same_new hp (HO.lst vs)
 exact⟨ia,p,ifs,vs,ts,rfl,hI.keep s,upd_same,paired_keepT s.keepT hv,iok.okw,ht,by have:=iok.l;omega,fun r H2 e f hw=>k r H2 (s.trans e) (s.free f) hw⟩
theorem LS.told {K:PySem.W.Frag} {H:Hp} {F:List Addr} {la:Addr} {us:List V} {xs:List LnA} {y:LnA} (s:LS K H F la us (xs++[y])) {ifs:List Tm} {b a:Tm} (hw:y.1.ws=norm (ifs++[b])) (hg:y.1.g=a) {bv av:V} (hb:IsT K H bv b) (ha:IsT K H av a) {p:Addr} (hp:H p=none) {i:Int} (hi:i=(us.length:Int) - 1) :
  LS K (upd H p (.tup [bv,av,.int i])) F la us (xs++[y])∧Tld K (upd H p (.tup [bv,av,.int i])) (xs++[y]) ifs (.ref p) b a xs.length:=by
 have e:=same_new hp (HO.tup [bv,av,.int i])
 have l:=s.len
 rw[List.length_append,List.length_singleton] at l
 have ei:i=((xs.length:Nat):Int):=by omega
 subst ei
 exact⟨s.keep (e.sb la) (e _ _ s.h),p,bv,av,y,rfl,.inl (.inl upd_same),hb.keep e.keepT,ha.keep e.keepT,snoc_at xs y,hw,hg⟩
theorem g_wish {L:List Ln} {i:Nat} {ws:List Tm} {g:Tm} (hs:sortedT ws) (h:g∈ws):goodL L i ⟨"wish",some .wish,ws,g,none,[]⟩=true:=good0 hs (show needG ws g .wish=some [] by unfold needG;rw[if_pos h]) rfl
theorem g_known {L:List Ln} {i n:Nat} {m:Ln} {ws:List Tm} {b a:Tm} (hs:sortedT ws) (ho:Tm.nd .thn b a∈ws) (hb:b∈ws) (hn:n < i) (hm:L[n]?=some m) (hg:m.g=a) (hw:m.ws=[a]):goodL L i ⟨"known",some .known,ws,a,some (.nd .thn b a),[(n:Int)]⟩=true :=
 good1 (nd:=(norm (rem ws (.nd .thn b a)++[a]),a)) hs (show (if Tm.nd .thn b a∈ws then needO ws a (.nd .thn b a) .known else none)=_ by rw[if_pos ho];show (if b∈ws then _ else _)=_;rw[if_pos hb]) rfl hn hm hg fun t ht=>.inl (by rw[hw,List.mem_singleton] at ht;rw[ht,mem_norm];simp)
end Ken
namespace Ken
open PySem L2
section
variable {L:List Ln} {i n n1 n2:Nat} {m m1 m2:Ln} {ifs:List Tm} {b1 a1 b2 a2:Tm}
theorem g_both (h1:n1 < i) (e1:L[n1]?=some m1) (g1:m1.g=a1) (w1:m1.ws=norm (ifs++[b1])) (h2:n2 < i) (e2:L[n2]?=some m2) (g2:m2.g=a2) (w2:m2.ws=norm (ifs++[b2])):goodL L i ⟨"both",some .both,norm (ifs++[b1,b2]),.nd .both a1 a2,none,[(n1:Int),(n2:Int)]⟩=true :=
 good2 (nd:=(norm (ifs++[b1,b2]),a1)) (nd':=(norm (ifs++[b1,b2]),a2)) (sorted_norm _) rfl rfl h1 e1 g1 (fun t ht=>.inl (by rw[w1,mem_nb] at ht;rw[mem_nb2];rcases ht with z | z<;>simp[z])) h2 e2 g2 (fun t ht=>.inl (by rw[w2,mem_nb] at ht;rw[mem_nb2];rcases ht with z | z<;>simp[z]))
theorem g_parts {g:Tm} (h:n < i) (e:L[n]?=some m) (hg:m.g=g) (hw:m.ws=norm (ifs++[b1,b2])):goodL L i ⟨"parts",some .parts,norm (ifs++[.nd .both b1 b2]),g,some (.nd .both b1 b2),[(n:Int)]⟩=true :=
 good1 (nd:=(norm (rem (norm (ifs++[.nd .both b1 b2])) (.nd .both b1 b2)++[b1,b2]),g)) (sorted_norm _) (show (if Tm.nd .both b1 b2∈norm (ifs++[.nd .both b1 b2]) then needO _ g (.nd .both b1 b2) .parts else none)=_ by rw[if_pos (mem_nb.mpr (.inr rfl))];rfl) rfl h e hg fun t ht=>by
  rw[hw,mem_nb2] at ht
  rcases ht with z | z | z
  ·exact .inr (mem_nb.mpr (.inl z))
  ·exact .inl (by rw[mem_norm];simp[z])
  ·exact .inl (by rw[mem_norm];simp[z])
theorem g_first (h1:n1 < i) (e1:L[n1]?=some m1) (g1:m1.g=a1) (w1:m1.ws=norm (ifs++[b1])):goodL L i ⟨"first",some .first,norm (ifs++[b1]),.nd .one a1 a2,none,[(n1:Int)]⟩=true :=
 good1 (nd:=(norm (ifs++[b1]),a1)) (sorted_norm _) rfl rfl h1 e1 g1 fun t ht=>.inl (by rw[w1] at ht;exact ht)
theorem g_second (h1:n2 < i) (e1:L[n2]?=some m2) (g1:m2.g=a2) (w1:m2.ws=norm (ifs++[b2])):goodL L i ⟨"second",some .second,norm (ifs++[b2]),.nd .one a1 a2,none,[(n2:Int)]⟩=true :=
 good1 (nd:=(norm (ifs++[b2]),a2)) (sorted_norm _) rfl rfl h1 e1 g1 fun t ht=>.inl (by rw[w1] at ht;exact ht)
theorem g_cases {g:Tm} (h1:n1 < i) (e1:L[n1]?=some m1) (g1:m1.g=g) (w1:m1.ws=norm (ifs++[b1])) (h2:n2 < i) (e2:L[n2]?=some m2) (g2:m2.g=g) (w2:m2.ws=norm (ifs++[b2])):goodL L i ⟨"cases",some .cases,norm (ifs++[.nd .one b1 b2]),g,some (.nd .one b1 b2),[(n1:Int),(n2:Int)]⟩=true :=
 good2 (nd:=(norm (rem (norm (ifs++[.nd .one b1 b2])) (.nd .one b1 b2)++[b1]),g)) (nd':=(norm (rem (norm (ifs++[.nd .one b1 b2])) (.nd .one b1 b2)++[b2]),g)) (sorted_norm _) (show (if Tm.nd .one b1 b2∈norm (ifs++[.nd .one b1 b2]) then needO _ g (.nd .one b1 b2) .cases else none)=_ by rw[if_pos (mem_nb.mpr (.inr rfl))];rfl) rfl
  h1 e1 g1 (fun t ht=>by
   rw[w1,mem_nb] at ht
   rcases ht with z | z
   ·exact .inr (mem_nb.mpr (.inl z))
   ·exact .inl (by rw[mem_norm];simp[z]))
  h2 e2 g2 (fun t ht=>by
   rw[w2,mem_nb] at ht
   rcases ht with z | z
   ·exact .inr (mem_nb.mpr (.inl z))
   ·exact .inl (by rw[mem_norm];simp[z]))
theorem g_use (h1:n1 < i) (e1:L[n1]?=some m1) (g1:m1.g=a1) (w1:m1.ws=norm (ifs++[b1])) (h2:n2 < i) (e2:L[n2]?=some m2) (g2:m2.g=a2) (w2:m2.ws=norm (ifs++[b2])):goodL L i ⟨"use",some .use,norm (ifs++[.nd .thn a1 b2,b1]),a2,some (.nd .thn a1 b2),[(n1:Int),(n2:Int)]⟩=true :=
 good2 (nd:=(norm (ifs++[.nd .thn a1 b2,b1]),a1)) (nd':=(norm (norm (ifs++[.nd .thn a1 b2,b1])++[b2]),a2)) (sorted_norm _) (show (if Tm.nd .thn a1 b2∈norm (ifs++[.nd .thn a1 b2,b1]) then needO _ a2 (.nd .thn a1 b2) .use else none)=_ by rw[if_pos (mem_nb2.mpr (.inr (.inl rfl)))];rfl) rfl
  h1 e1 g1 (fun t ht=>.inl (by rw[w1,mem_nb] at ht;rw[mem_nb2];rcases ht with z | z<;>simp[z])) h2 e2 g2 (fun t ht=>.inl (by
   rw[w2,mem_nb] at ht
   rw[mem_norm,List.mem_append,mem_nb2]
   rcases ht with z | z<;>simp[z]))
theorem g_thn {a b2':Tm} (h:n < i) (e:L[n]?=some m) (hg:m.g=a2) (hw:m.ws=norm (ifs++[a,b1])):goodL L i ⟨"then",some .thn,norm (ifs++[a]),.nd .thn b1 a2,none,[(n:Int)]⟩=true :=
 good1 (nd:=(norm (norm (ifs++[a])++[b1]),a2)) (sorted_norm _) rfl rfl h e hg fun t ht=>.inl (by
  rw[hw,mem_nb2] at ht
  rw[mem_norm,List.mem_append,mem_nb]
  rcases ht with z | z | z<;>simp[z])
end
end Ken
namespace Ken
open PySem L2
noncomputable def tblK (fK:Kd→Addr):List (Str×V):=[("both",.ref (fK .both)),("one",.ref (fK .one)),("then",.ref (fK .thn))]
theorem tblK_at (fK:Kd→Addr) (k:Kd):(tblK fK).lookup k.str=some (.ref (fK k)):=by cases k<;>rfl
noncomputable def bT (x:Str) (o1 o2:Tm) (s:Tm×Bool):Tm:=s.1.sub x (if s.2 then o2 else o1)
noncomputable def aT (x:Str) (o1 o2:Tm) (s:Tm×Bool):Tm:=s.1.sub x (if s.2 then o1 else o2)
theorem bef_nd (x:Str) (o1 o2:Tm) (k:Kd) (a b:Tm) (d:Bool):befK k (bT x o1 o2 (a,if k=.thn then !d else d)) (aT x o1 o2 (a,if k=.thn then !d else d)) (bT x o1 o2 (b,d)) (aT x o1 o2 (b,d))=bT x o1 o2 (.nd k a b,d):=by cases k<;>cases d<;>rfl
theorem aft_nd (x:Str) (o1 o2:Tm) (k:Kd) (a b:Tm) (d:Bool):aftK k (bT x o1 o2 (a,if k=.thn then !d else d)) (aT x o1 o2 (a,if k=.thn then !d else d)) (bT x o1 o2 (b,d)) (aT x o1 o2 (b,d))=aT x o1 o2 (.nd k a b,d):=by cases k<;>cases d<;>rfl
structure O7 (o:Tm):Prop where
 ok:o.ok
 p:o.parts≤7
theorem sub7 {x:Str} {o:Tm} (h:O7 o) (t:Tm):(t.sub x o).parts≤t.parts+(t.parts+1) / 2*6:=by
 have h1:=sub_parts (x:=x) (o:=o) t
 have h2:=Nat.mul_le_mul_left ((t.parts+1) / 2) (show o.parts - 1≤6 by have:=h.p;omega)
 omega
theorem bT_ok {x:Str} {o1 o2:Tm} (h1:O7 o1) (h2:O7 o2) {s:Tm×Bool} (h:s.1.ok):(bT x o1 o2 s).ok∧(aT x o1 o2 s).ok∧(bT x o1 o2 s).parts≤s.1.parts+(s.1.parts+1) / 2*6∧(aT x o1 o2 s).parts≤s.1.parts+(s.1.parts+1) / 2*6:=by
 obtain⟨t,d⟩:=s
 cases d
 ·exact⟨Tm.sub_ok h1.ok h,Tm.sub_ok h2.ok h,sub7 h1 t,sub7 h2 t⟩
 ·exact⟨Tm.sub_ok h2.ok h,Tm.sub_ok h1.ok h,sub7 h2 t,sub7 h1 t⟩
noncomputable def ifs62 (o1 o2:Tm):List Tm:=norm [.nd .thn o1 o2,.nd .thn o2 o1]
theorem ifs62_ok {o1 o2:Tm} (h1:O7 o1) (h2:O7 o2):IfsOk (ifs62 o1 o2):=⟨sorted_norm _,fun t ht=>by
 have:=h1.p
 have:=h2.p
 have ht:=mem_norm.mp ht
 simp only[List.mem_cons,List.not_mem_nil,or_false] at ht
 rcases ht with rfl | rfl
 ·exact⟨⟨h1.ok,h2.ok⟩,by show 1+o1.parts+o2.parts≤20;omega⟩
 ·exact⟨⟨h2.ok,h1.ok⟩,by show 1+o2.parts+o1.parts≤20;omega⟩,len_norm _⟩
theorem leaf_in {x:Str} {o1 o2:Tm} {s:Tm×Bool} (hk:s.1.kids=[]) (hn:bT x o1 o2 s≠aT x o1 o2 s):Tm.nd .thn (bT x o1 o2 s) (aT x o1 o2 s)∈ifs62 o1 o2:=by
 obtain⟨t,d⟩:=s
 cases t with
 | low=>exact absurd rfl hn
 | nd k a b=>cases hk
 | ltr y =>
  by_cases e:y=x
  ·subst e
   have e1:∀ o,(Tm.ltr y).sub y o=o:=fun o=>by show (if y=y then o else _)=o;rw[if_pos rfl]
   unfold ifs62
   rw[mem_norm]
   cases d
   ·show Tm.nd .thn ((Tm.ltr y).sub y o1) ((Tm.ltr y).sub y o2)∈_
    rw[e1,e1];simp
   ·show Tm.nd .thn ((Tm.ltr y).sub y o2) ((Tm.ltr y).sub y o1)∈_
    rw[e1,e1];simp
  ·refine absurd ?_ hn
   have e1:∀ o,(Tm.ltr y).sub x o=.ltr y:=fun o=>by show (if y=x then o else _)=_;rw[if_neg e]
   show (Tm.ltr y).sub x _=(Tm.ltr y).sub x _
   rw[e1,e1]
theorem mem_pre_parts:∀ {t s:Tm},s∈t.pre→s.parts≤t.parts
 | .low,s,h=>by rw[List.mem_singleton.mp h];exact Nat.le_refl _
 | .ltr w,s,h=>by rw[List.mem_singleton.mp h];exact Nat.le_refl _
 | .nd k a b,s,h=>by
  show s.parts≤1+a.parts+b.parts
  rcases List.mem_cons.mp h with rfl | h
  ·exact Nat.le_refl _
  ·rcases List.mem_append.mp h with h | h
   ·have:=mem_pre_parts h;omega
   ·have:=mem_pre_parts h;omega
noncomputable def sp_swapped (K:PySem.W.Frag) (T:Addr) (ds:List (Pos×Str)):Sp:=fun vs H Q _=>∃ (v:V) (t:Tm) (x:Str) (v1 v2:V) (o1 o2:Tm),vs=[v,.str x,v1,v2]∧IsT K H v t∧t.ok∧t.parts≤25∧Word x∧IsT K H v1 o1∧IsT K H v2 o2∧O7 o1∧O7 o2∧TabOk H T ds ∧
 ∀ (r:Addr) (H':Hp) (F:List Addr) (us:List V) (xs:List LnA) (y:LnA),KeepT K H H'→TabOk H' T ds→LS K H' F r us (xs++[y])→y.1.ws=norm (ifs62 o1 o2++[t.sub x o1])→y.1.g=t.sub x o2→(xs++[y]).length≤3*t.parts→Q (.ref r) H'
theorem comp_none {K:PySem.W.Frag} {a acc:Addr} {us:List V} {σ0:St} {tk:TK} {Q:Hp→Prop} {H:Hp} (ha:H a=some (.lst us)) (hacc:H acc=none) (hw:∀ v,Wk σ0 (σ0.set 0 (some v)))
  (ht:∀ (v:V) (H':Hp) (N:Hp→Prop),v∈us→Same H H'→(∀ H'',Same H' H''→N H'')→tk (σ0.set 0 (some v)) H' N) (hd:∀ (H':Hp),Same H H'→H' acc=some (.lst [])→Q H') :
  ∃ W:Nat→Nat→Hp→Prop,(∃ m,W 0 m (upd H acc (.lst [])))∧compW σ0 (Itl K a) (gName 0) tk Q W:=by
 refine comp_list (xs:=us) (fun i H'=>Same H H'∧H' acc=some (.lst [])) ⟨same_new hacc _,upd_same⟩ (fun i H' _ ⟨e,_⟩=>SqL.of (e _ _ ha)) (fun i v H' N hv ⟨e,h⟩ hN=>?_) (fun H' ⟨e,h⟩=>hd H' e h)
 show Wk σ0 (σ0.set 0 (some v))∧tk (σ0.set 0 (some v)) H' N
 exact⟨hw v,ht v H' N (List.mem_of_getElem? hv) e fun H'' e2=>hN _ ⟨e.trans e2,e2 _ _ h⟩⟩
theorem paired_memR {α β:Type} {F:α→β→Prop}:∀ {l:List α} {m:List β},Paired F l m→∀ x∈l,∃ y∈m,F x y
 | _,_,.nil,x,hx=>absurd hx (by simp)
 | _,_,.cons h t,x,hx=>by
  rcases List.mem_cons.mp hx with z | z
  ·exact⟨_,List.mem_cons_self,z▸h⟩
  ·obtain⟨y,hy,hf⟩:=paired_memR t x z
   exact⟨y,List.mem_cons_of_mem _ hy,hf⟩
theorem dn_nil {K:PySem.W.Frag} {H:Hp} {a:Addr} (h:H a=some (.lst [])):Dn K H (.ref a) (.list []):=by
 rw[Dn]
 exact⟨a,[],rfl,SqL.of h,by rw[DnAll]⟩
end Ken
namespace Ken
open PySem L2
noncomputable def lnD (l:Ln):PyData:=.tuple [.str l.x,.list (l.ws.map Tm.data),l.g.data,onD l.on,.list (l.ls.map PyData.int)]
theorem ints_dn {K:PySem.W.Frag} {H:Hp}:∀ ns:List Int,DnAll K H (ns.map V.int) (ns.map PyData.int)
 | []=>by show DnAll K H [] [];rw[DnAll]
 | n :: ns=>by
  show DnAll K H (V.int n :: ns.map V.int) (PyData.int n :: ns.map PyData.int)
  rw[DnAll]
  exact⟨_,_,rfl,by rw[Dn],ints_dn ns⟩
theorem IsLn.dn {K:PySem.W.Frag} {H:Hp} {v:V} {l:Ln} (h:IsLn K H v l):Dn K H v (lnD l):=by
 obtain⟨p,wa,la,gv,ov,us,rfl,h1,h2,h3,h4,h5,h6⟩:=h
 unfold lnD
 rw[Dn]
 refine⟨p,_,rfl,h1,?_⟩
 rw[DnAll]
 refine⟨_,_,rfl,by rw[Dn],?_⟩
 rw[DnAll]
 refine⟨_,_,rfl,?_,?_⟩
 ·rw[Dn];exact⟨wa,us,rfl,SqL.of h2,tms_dn h3⟩
 rw[DnAll]
 refine⟨_,_,rfl,h4,?_⟩
 rw[DnAll]
 refine⟨_,_,rfl,?_,?_⟩
 ·cases ho:l.on with
  | none=>rw[ho] at h5;have h5':ov=.non:=h5;subst h5';show Dn K H .non .none;rw[Dn]
  | some o=>rw[ho] at h5;exact h5.1
 rw[DnAll]
 refine⟨_,_,rfl,?_,by rw[DnAll]⟩
 rw[Dn]
 exact⟨la,_,rfl,SqL.of h6,ints_dn _⟩
theorem lns_dn {K:PySem.W.Frag} {H:Hp}:∀ {us:List V} {L:List Ln},IsLns K H us L→DnAll K H us (L.map lnD)
 | _,_,.nil=>by show DnAll K H [] [];rw[DnAll]
 | _,_,.cons h t=>by
  rw[List.map_cons,DnAll]
  exact⟨_,_,rfl,h.dn,lns_dn t⟩
theorem ris_lay {x:Str} {R:Option Rl} (h:RIs x R):(PyData.str x).canLay0=true:=by
 cases R with
 | some r=>have h':x=r.str:=h;subst h';cases r<;>decide +kernel
 | none =>
  have key:∀ x∈badN,(PyData.str x).canLay0=true:=by decide +kernel
  exact key x h
theorem ln_lay {K:PySem.W.Frag} {H:Hp} {v:V} {l:Ln} (h:IsLn K H v l) (ok:OkLn l):(lnD l).canLay0=true:=by
 obtain⟨p,wa,la,gv,ov,us,rfl,h1,h2,h3,h4,h5,h6⟩:=h
 have a2:(PyData.list (l.ws.map Tm.data)).canLay0=true:=tms_lay fun t ht=>(ok.w t ht).1
 have a3:=l.g.lay ok.g
 have a4:(onD l.on).canLay0=true:=by
  cases ho:l.on with
  | none=>rfl
  | some o=>rw[ho] at h5;exact o.lay h5.2.1
 have a5:(PyData.list (l.ls.map PyData.int)).canLay0=true:=canLay_list fun d hd=>by obtain⟨n,_,rfl⟩:=List.mem_map.mp hd;rfl
 show ((PyData.str l.x).canLay0&&((PyData.list (l.ws.map Tm.data)).canLay0&&(l.g.data.canLay0&&((onD l.on).canLay0&&((PyData.list (l.ls.map PyData.int)).canLay0&&true)))))=true
 rw[ris_lay ok.r,a2,a3,a4,a5];rfl
theorem lns_lay {K:PySem.W.Frag} {H:Hp} {us:List V} {L:List Ln} (h:IsLns K H us L) (ok:∀ l∈L,OkLn l):(PyData.list (L.map lnD)).canLay0=true:=canLay_list fun d hd=>by
 obtain⟨l,hl,rfl⟩:=List.mem_map.mp hd
 obtain⟨i,hi,rfl⟩:=List.getElem_of_mem hl
 have lu:=Paired.length h
 obtain⟨l',hl',hv⟩:=paired_get h (List.getElem?_eq_getElem (show i < us.length by omega))
 rw[List.getElem?_eq_getElem hi] at hl'
 cases hl'
 exact ln_lay hv (ok _ (List.getElem_mem hi))
end Ken
namespace Ken
open PySem L2
theorem ne_in {X:List Addr} {a d:Addr} (hd:d∈X) (n:a ∉ X):a≠d:=fun (z:a=d)=>n (z▸hd)
noncomputable def IsRow (K:PySem.W.Frag) (X:List Addr) (H:Hp) (v:V) (l:Ln):Prop:=∃ (e c f:Addr) (us:List V),v=.ref e∧H e=some (.lst [.ref c,.ref f])∧H c=some (.lst us)∧Paired (IsT K H) us l.ws∧H f=some (.lst (l.ls.map V.int))∧e ∉ X∧c ∉ X∧f ∉ X
theorem IsRow.keep {K:PySem.W.Frag} {X:List Addr} {H H':Hp} (s:Same H H') {v:V} {l:Ln} (h:IsRow K X H v l):IsRow K X H' v l:=by
 obtain⟨e,c,f,us,rfl,h1,h2,h3,h4,h5⟩:=h
 exact⟨e,c,f,us,rfl,s _ _ h1,s _ _ h2,paired_keepT s.keepT h3,s _ _ h4,h5⟩
theorem IsRow.write {K:PySem.W.Frag} {X:List Addr} {H:Hp} {d:Addr} {zs ys:List V} (hd:d∈X) (hz:H d=some (.lst zs)) {v:V} {l:Ln} (h:IsRow K X H v l):IsRow K X (upd H d (.lst ys)) v l:=by
 obtain⟨e,c,f,us,rfl,h1,h2,h3,h4,n1,n2,n3⟩:=h
 have k:KeepT K H (upd H d (.lst ys)):=keepT_lst hz
 exact⟨e,c,f,us,rfl,by rw[upd_ne (ne_in hd n1)];exact h1,by rw[upd_ne (ne_in hd n2)];exact h2,paired_keepT k h3,by rw[upd_ne (ne_in hd n3)];exact h4,n1,n2,n3⟩
theorem IsRow.more {K:PySem.W.Frag} {X:List Addr} {H:Hp} {c f:Addr} (hc:H c=none) (hf:H f=none) {v:V} {l:Ln} (h:IsRow K X H v l):IsRow K (c :: f :: X) H v l:=by
 obtain⟨e,c',f',us,rfl,h1,h2,h3,h4,n1,n2,n3⟩:=h
 have out:∀ {a o},H a=some o→a ∉ X→a ∉ c :: f :: X:=fun {a o} q n z=>by
  rcases List.mem_cons.mp z with z | z
  ·rw[z,hc] at q;cases q
  rcases List.mem_cons.mp z with z | z
  ·rw[z,hf] at q;cases q
  ·exact n z
 exact⟨e,c',f',us,rfl,h1,h2,h3,h4,out h1 n1,out h2 n2,out h4 n3⟩
theorem IsRow.sub {K:PySem.W.Frag} {X Y:List Addr} {H:Hp} (hs:∀ a∈Y,a∈X) {v:V} {l:Ln} (h:IsRow K X H v l):IsRow K Y H v l:=by
 obtain⟨e,c,f,us,rfl,h1,h2,h3,h4,n1,n2,n3⟩:=h
 exact⟨e,c,f,us,rfl,h1,h2,h3,h4,fun z=>n1 (hs _ z),fun z=>n2 (hs _ z),fun z=>n3 (hs _ z)⟩
noncomputable def rwD (l:Ln):PyData:=.list [.list (l.ws.map Tm.data),.list (l.ls.map PyData.int)]
theorem IsRow.dn {K:PySem.W.Frag} {X:List Addr} {H:Hp} {v:V} {l:Ln} (h:IsRow K X H v l):Dn K H v (rwD l):=by
 obtain⟨e,c,f,us,rfl,h1,h2,h3,h4,_⟩:=h
 unfold rwD
 rw[Dn]
 refine⟨e,_,rfl,SqL.of h1,?_⟩
 rw[DnAll]
 refine⟨_,_,rfl,by rw[Dn];exact⟨c,us,rfl,SqL.of h2,tms_dn h3⟩,?_⟩
 rw[DnAll]
 exact⟨_,_,rfl,by rw[Dn];exact⟨f,_,rfl,SqL.of h4,ints_dn _⟩,by rw[DnAll]⟩
theorem rows_dn {K:PySem.W.Frag} {X:List Addr} {H:Hp}:∀ {vs:List V} {L:List Ln},Paired (IsRow K X H) vs L→DnAll K H vs (L.map rwD)
 | _,_,.nil=>by rw[List.map_nil,DnAll]
 | _,_,.cons h t=>by rw[List.map_cons,DnAll];exact⟨_,_,rfl,h.dn,rows_dn t⟩
noncomputable def LastRow (K:PySem.W.Frag) (H0:Hp) (X:List Addr) (H:Hp) (ys:List V) (L:List Ln):Prop:=∃ (ys':List V) (e c f:Addr) (us:List V) (L0:List Ln) (l:Ln),ys=ys'++[.ref e]∧L=L0++[l]∧H e=some (.lst [.ref c,.ref f])∧H c=some (.lst us)∧Paired (IsT K H) us l.ws∧H f=some (.lst (l.ls.map V.int))∧e ∉ X∧c ∉ X∧f ∉ X∧e≠c∧e≠f∧c≠f∧H0 c=none∧H0 f=none∧Paired (IsRow K (c :: f :: X) H) ys' L0
noncomputable def IsLnX (K:PySem.W.Frag) (X:List Addr) (H:Hp) (v:V) (l:Ln):Prop:=∃ (p wa la:Addr) (gv ov:V) (us:List V),v=.ref p∧SqT K H p [.str l.x,.ref wa,gv,ov,.ref la]∧H wa=some (.lst us)∧Paired (IsT K H) us l.ws∧IsT K H gv l.g∧OnX K H ov l.on∧H la=some (.lst (l.ls.map V.int))∧wa ∉ X∧la ∉ X
theorem IsLnX.ln {K:PySem.W.Frag} {X:List Addr} {H:Hp} {v:V} {l:Ln} (h:IsLnX K X H v l):IsLn K H v l:=by
 obtain⟨p,wa,la,gv,ov,us,rfl,h1,h2,h3,h4,h5,h6,_⟩:=h
 exact⟨p,wa,la,gv,ov,us,rfl,h1,h2,h3,h4,h5,h6⟩
theorem IsLnX.keep {K:PySem.W.Frag} {X:List Addr} {H H':Hp} (e:Same H H') {v:V} {l:Ln} (h:IsLnX K X H v l):IsLnX K X H' v l:=by
 obtain⟨p,wa,la,gv,ov,us,rfl,h1,h2,h3,h4,h5,h6,n⟩:=h
 exact⟨p,wa,la,gv,ov,us,rfl,e.sqt h1,e _ _ h2,paired_keepT e.keepT h3,h4.keep e.keepT,h5.keep e.keepT,e _ _ h6,n⟩
theorem IsLnX.write {K:PySem.W.Frag} {X:List Addr} {H:Hp} {d:Addr} {zs ys:List V} (hd:d∈X) (hz:H d=some (.lst zs)) {v:V} {l:Ln} (h:IsLnX K X H v l):IsLnX K X (upd H d (.lst ys)) v l:=by
 obtain⟨p,wa,la,gv,ov,us,rfl,h1,h2,h3,h4,h5,h6,n1,n2⟩:=h
 have k:KeepT K H (upd H d (.lst ys)):=keepT_lst hz
 exact⟨p,wa,la,gv,ov,us,rfl,k _ _ h1,by rw[upd_ne (ne_in hd n1)];exact h2,paired_keepT k h3,h4.keep k,h5.keep k,by rw[upd_ne (ne_in hd n2)];exact h6,n1,n2⟩
structure TS (K:PySem.W.Frag) (H:Hp) (fa da e wa la c f pl:Addr) (tp us0 ys':List V) (L0:List Ln) (cs fs ws lv:List V):Prop where
 h1:H fa=some (.lst (us0++[.ref pl]))
 h2:SqT K H pl tp
 h3:H da=some (.lst (ys'++[.ref e]))
 h4:H e=some (.lst [.ref c,.ref f])
 h5:H c=some (.lst cs)
 h6:H f=some (.lst fs)
 h7:H wa=some (.lst ws)
 h8:H la=some (.lst lv)
 r:Paired (IsRow K [c,f,wa,la] H) ys' L0
 l:Paired (IsLnX K [c,f,wa,la] H) us0 L0
 n1:c≠f∧c≠wa∧c≠la∧f≠wa∧f≠la∧wa≠la
 n2:fa ∉ [c,f,wa,la]
 n3:da ∉ [c,f,wa,la]
 n4:e ∉ [c,f,wa,la]
section
variable {K:PySem.W.Frag} {H:Hp} {fa da e wa la c f pl:Addr} {tp us0 ys':List V} {L0:List Ln} {cs fs ws lv:List V}
theorem TS.any (s:TS K H fa da e wa la c f pl tp us0 ys' L0 cs fs ws lv) {d:Addr} (hd:d∈[c,f,wa,la]) {zs:List V} (hz:H d=some (.lst zs)) (ys:List V) {cs2 fs2 ws2 lv2:List V}
  (a5:upd H d (.lst ys) c=some (.lst cs2)) (a6:upd H d (.lst ys) f=some (.lst fs2)) (a7:upd H d (.lst ys) wa=some (.lst ws2)) (a8:upd H d (.lst ys) la=some (.lst lv2)):TS K (upd H d (.lst ys)) fa da e wa la c f pl tp us0 ys' L0 cs2 fs2 ws2 lv2 :=
 ⟨by rw[upd_ne (ne_in hd s.n2)];exact s.h1,keepT_lst hz _ _ s.h2,by rw[upd_ne (ne_in hd s.n3)];exact s.h3,by rw[upd_ne (ne_in hd s.n4)];exact s.h4,a5,a6,a7,a8,Paired.mapP s.r fun _ _ z=>z.write hd hz,Paired.mapP s.l fun _ _ z=>z.write hd hz,s.n1,s.n2,s.n3,s.n4⟩
theorem TS.wc (s:TS K H fa da e wa la c f pl tp us0 ys' L0 cs fs ws lv) (ys:List V):TS K (upd H c (.lst ys)) fa da e wa la c f pl tp us0 ys' L0 ys fs ws lv :=
 s.any (by simp) s.h5 ys upd_same (by rw[upd_ne (Ne.symm s.n1.1)];exact s.h6) (by rw[upd_ne (Ne.symm s.n1.2.1)];exact s.h7) (by rw[upd_ne (Ne.symm s.n1.2.2.1)];exact s.h8)
theorem TS.wf (s:TS K H fa da e wa la c f pl tp us0 ys' L0 cs fs ws lv) (ys:List V):TS K (upd H f (.lst ys)) fa da e wa la c f pl tp us0 ys' L0 cs ys ws lv :=
 s.any (by simp) s.h6 ys (by rw[upd_ne s.n1.1];exact s.h5) upd_same (by rw[upd_ne (Ne.symm s.n1.2.2.2.1)];exact s.h7) (by rw[upd_ne (Ne.symm s.n1.2.2.2.2.1)];exact s.h8)
theorem TS.ww (s:TS K H fa da e wa la c f pl tp us0 ys' L0 cs fs ws lv) (ys:List V):TS K (upd H wa (.lst ys)) fa da e wa la c f pl tp us0 ys' L0 cs fs ys lv :=
 s.any (by simp) s.h7 ys (by rw[upd_ne s.n1.2.1];exact s.h5) (by rw[upd_ne s.n1.2.2.2.1];exact s.h6) upd_same (by rw[upd_ne (Ne.symm s.n1.2.2.2.2.2)];exact s.h8)
theorem TS.wl (s:TS K H fa da e wa la c f pl tp us0 ys' L0 cs fs ws lv) (ys:List V):TS K (upd H la (.lst ys)) fa da e wa la c f pl tp us0 ys' L0 cs fs ws ys :=
 s.any (by simp) s.h8 ys (by rw[upd_ne s.n1.2.2.1];exact s.h5) (by rw[upd_ne s.n1.2.2.2.2.1];exact s.h6) (by rw[upd_ne s.n1.2.2.2.2.2];exact s.h7) upd_same
end
theorem rows_self (L:List Ln):PyData.eqv (.list (L.map rwD)) (.list (L.map rwD))=true:=eqvAll_self fun d hd=>by
 obtain⟨l,_,rfl⟩:=List.mem_map.mp hd
 refine eqvAll_self fun d hd=>?_
 simp only[List.mem_cons,List.not_mem_nil,or_false] at hd
 rcases hd with rfl | rfl
 ·exact eqvAll_self fun d hd=>by
   obtain⟨t,_,rfl⟩:=List.mem_map.mp hd
   rw[Tm.eqv];exact decide_eq_true rfl
 ·exact eqvAll_self fun d hd=>by
   obtain⟨i,_,rfl⟩:=List.mem_map.mp hd
   show (i == i)=true
   simp
theorem rows_lay {L:List Ln} (h:∀ l∈L,∀ t∈l.ws,t.ok):(PyData.list (L.map rwD)).canLay0=true:=canLay_list fun d hd=>by
 obtain⟨l,hl,rfl⟩:=List.mem_map.mp hd
 refine canLay_list fun d hd=>?_
 simp only[List.mem_cons,List.not_mem_nil,or_false] at hd
 rcases hd with rfl | rfl
 ·exact tms_lay (h l hl)
 ·exact canLay_list fun d hd=>by
   obtain⟨i,_,rfl⟩:=List.mem_map.mp hd
   rfl
theorem rows_depth {L:List Ln} (h:∀ l∈L,∀ t∈l.ws,t.parts≤110):(PyData.list (L.map rwD)).depth≤113:=depth_list (n:=112) fun d hd=>by
 obtain⟨l,hl,rfl⟩:=List.mem_map.mp hd
 refine depth_list (n:=111) fun d hd=>?_
 simp only[List.mem_cons,List.not_mem_nil,or_false] at hd
 rcases hd with rfl | rfl
 ·exact tms_depth fun t ht=>by have:=h l hl t ht;have:=deep_parts t;omega
 ·exact Nat.le_trans (depth_list (n:=0) fun d hd=>by obtain⟨n,_,rfl⟩:=List.mem_map.mp hd;exact Nat.le_refl _) (by decide)
end Ken
namespace L2
open PySem PySem.Spec PyProof.Rows
noncomputable def varM:Option (Option V)→Hp→VK→Prop
 | some (some v),H,Q=>Q v H
 | _,_,_=>False
noncomputable def tVarM (i:Nat):TE:=fun σ H Q=>varM σ[i]? H Q
theorem varM_some {v:V} {H:Hp} {Q:VK}:varM (some (some v)) H Q=Q v H:=rfl
theorem varM_ex {o:Option (Option V)} {H:Hp} {Q:VK}:varM o H Q=∃ v,o=some (some v)∧Q v H:=propext ⟨fun h=>by
 unfold varM at h
 split at h
 ·exact⟨_,rfl,h⟩
 ·exact h.elim,fun⟨v,e,h⟩=>by rw[e];exact h⟩
theorem tVarM_eq:tVarM=tVar:=by
 funext i σ H Q
 exact varM_ex
noncomputable def bM:V→Hp→(Bool→Hp→Prop)→Prop
 | .bl c,H,Q=>Q c H
 | _,_,_=>False
theorem bM_bl {c:Bool} {H:Hp} {Q:Bool→Hp→Prop}:bM (.bl c) H Q=Q c H:=rfl
theorem bM_ex {x:V} {H:Hp} {Q:Bool→Hp→Prop}:bM x H Q=∃ k,x=.bl k∧Q k H:=propext ⟨fun h=>by
 unfold bM at h
 split at h
 ·exact⟨_,rfl,h⟩
 ·exact h.elim,fun⟨v,e,h⟩=>by rw[e];exact h⟩
noncomputable def tTestM (t:TE):TT:=fun σ H Q=>t σ H fun x H1=>bM x H1 Q
theorem tTestM_eq:tTestM=tTest:=by
 funext t σ H Q
 show t σ H (fun x H1=>bM x H1 Q)=t σ H _
 congr 1
 funext x H1
 exact bM_ex
noncomputable def rI0M (g:Int→Int→V):R2
 | .int i,.int j,H,Q=>Q (g i j) H
 | _,_,_,_=>False
theorem rI0M_int {g:Int→Int→V} {i j:Int} {H:Hp} {Q:VK}:rI0M g (.int i) (.int j) H Q=Q (g i j) H:=rfl
theorem rI0M_ex {g:Int→Int→V} {x y:V} {H:Hp} {Q:VK}:rI0M g x y H Q=∃ i j,x=.int i∧y=.int j∧Q (g i j) H:=propext ⟨fun h=>by
 unfold rI0M at h
 split at h
 ·exact⟨_,_,rfl,rfl,h⟩
 ·exact h.elim,fun⟨i,j,e,f,h⟩=>by rw[e,f];exact h⟩
theorem rI0M_eq:rI0M=rI0:=by
 funext g x y H Q
 exact rI0M_ex
noncomputable def rIM (C:Int→Int→Prop) (g:Int→Int→V):R2
 | .int i,.int j,H,Q=>C i j∧Q (g i j) H
 | _,_,_,_=>False
theorem rIM_int {C:Int→Int→Prop} {g:Int→Int→V} {i j:Int} {H:Hp} {Q:VK}:rIM C g (.int i) (.int j) H Q=(C i j∧Q (g i j) H):=rfl
theorem rIM_ex {C:Int→Int→Prop} {g:Int→Int→V} {x y:V} {H:Hp} {Q:VK}:rIM C g x y H Q=∃ i j,x=.int i∧y=.int j∧C i j∧Q (g i j) H:=propext ⟨fun h=>by
 unfold rIM at h
 split at h
 ·exact⟨_,_,rfl,rfl,h⟩
 ·exact h.elim,fun⟨i,j,e,f,h⟩=>by rw[e,f];exact h⟩
theorem rIM_eq:rIM=rI:=by
 funext C g x y H Q
 exact rIM_ex
section
variable {X:Cx}
theorem pvM (i:Nat) {x:Str} {pos:Pos} (hN:X.N[i]?=some x:=by rfl) (hv:Vis X.env.scope x:=by first | exact Or.inl rfl | exact Or.inr (Or.inl rfl) | exact Or.inr (Or.inr rfl)) (hd:(x == ("__debug__":Str))=false:=by decide)
  (hcd:(x == ("__classdict__":Str))=false:=by decide):PE X (.Name x pos) (tVarM i):=tVarM_eq▸pe_var hN hv hd hcd
theorem ptcM {a b:Expr} {ta tb:TE} {pos:Pos} {op:CmpOp} {r:R2} (ho:OpR X (compareOp op) r) (ha:PE X a ta) (hb:PE X b tb) (h:op≠.In:=by decide) (h2:op≠.NotIn:=by decide):PT X (.Compare a [op] [b] pos) (tTestM (tOp r ta tb)):=tTestM_eq▸pt_cmpR ho ha hb (nomark _ h h2)
theorem pt_cmpRM {a b:Expr} {ta tb:TE} {pos:Pos} {op:CmpOp} {r:R2} (ho:OpR X (compareOp op) r) (ha:PE X a ta) (hb:PE X b tb) (hm:behindInMarks op b=false):PT X (.Compare a [op] [b] pos) (tTestM (tOp r ta tb)):=tTestM_eq▸pt_cmpR ho ha hb hm
theorem op_addM:OpR X (binaryOp .Add) (rI0M fun i j=>.int (i+j)):=rI0M_eq▸op_add
theorem op_subM:OpR X (binaryOp .Sub) (rI0M fun i j=>.int (i - j)):=rI0M_eq▸op_sub
theorem op_mulM:OpR X (binaryOp .Mult) (rIM CMul fun i j=>.int (i*j)):=rIM_eq▸op_mul
theorem op_fdivM:OpR X (binaryOp .FloorDiv) (rIM CDiv fun i j=>.int (i / j)):=rIM_eq▸op_fdiv
theorem op_modM:OpR X (binaryOp .Mod) (rIM (fun _ j=>0 < j) fun i j=>.int (i % j)):=rIM_eq▸op_mod
theorem op_ltM:OpR X (compareOp .Lt) (rI0M fun i j=>.bl (decide (i < j))):=rI0M_eq▸op_lt
theorem op_gtM:OpR X (compareOp .Gt) (rI0M fun i j=>.bl (decide (j < i))):=rI0M_eq▸op_gt
theorem op_geM:OpR X (compareOp .GtE) (rI0M fun i j=>.bl (decide (j≤i))):=rI0M_eq▸op_ge
end
section
variable {α β:Type} {a b:α} {l m:List α} {n:Nat}
theorem zmc {f:α→β}:(a :: l).map f=f a :: l.map f:=rfl
theorem zmn {f:α→β}:([]:List α).map f=[]:=rfl
theorem zlc:(a :: l).length=l.length+1:=rfl
theorem zln:([]:List α).length=0:=rfl
theorem zca:(a :: l)++m=a :: (l++m):=rfl
theorem zna:[]++m=m:=rfl
theorem zrs:List.replicate (n+1) a=a :: List.replicate n a:=rfl
theorem zrz:List.replicate 0 a=[]:=rfl
theorem zg0:(a :: l)[0]?=some a:=rfl
theorem zgs:(a :: l)[n+1]?=l[n]?:=rfl
theorem zgn:([]:List α)[n]?=none:=rfl
theorem zs0:(a :: l).set 0 b=b :: l:=rfl
theorem zss:(a :: l).set (n+1) b=a :: l.set n b:=rfl
theorem zjs {x:Option α}:(some x).join=x:=rfl
theorem zjn:(none:Option (Option α)).join=none:=rfl
end
end L2
namespace KLaw
open PySem L2 Ken
noncomputable def ask:Hd.Ask:=⟨[21,22,24,25,23,26,2,3,4,12,5,7,6,9,10,13,14,15,16,17,19,27,28,29,30,31,32,33,34,35,36,37,38,39],[1],[18],[],[Str.ofString "len",Str.ofString "range",Str.ofString "isinstance",Str.ofString "int",Str.ofString "bool",Str.ofString "tuple",Str.ofString "str",Str.ofString "sorted",Str.ofString "list",Str.ofString "zip",Str.ofString "min",Str.ofString "reversed"]⟩
noncomputable def tas:List Nat:=[12]
noncomputable def q:Program:=PySem.W.view PySem.Challenge.pw_ken_k62_swapped [1,2,3,4,5,6,7,9,10,12,13,14,15,16,17,18,19,21,22,23,24,25,26,27,28,29,30,31,32,33,34,35,36,37,38,39]
noncomputable def loose:List Str:=[Str.ofString "DEEDS"]
open PySem.W.Fast
theorem h1 (w:World):(fun os=>Hd.pre PySem.Challenge.pw_ken_k62_swapped w os)=fun os=>Hd.preTo PySem.Challenge.pw_ken_k62_swapped w os:=by
 rw[hdPre_eq,hdPreTo_eq]
 kernel_rfl
theorem h2 (w:World):(fun os=>Hd.blk PySem.Challenge.pw_ken_k62_swapped w os)=fun os=>Hd.blkTo PySem.Challenge.pw_ken_k62_swapped w os:=by
 rw[hdBlk_eq,hdBlkTo_eq]
 kernel_rfl
theorem h3fA (w:World):(fun os=>Hd.evA PySem.Challenge.pw_ken_k62_swapped 1186 ⟨271,0,289,74⟩ (World.withFollow w "special-get-raises" false) os)=fun _=>Hd.evATo PySem.Challenge.pw_ken_k62_swapped ⟨271,0,289,74⟩:=by
 rw[hdEvA_eq]
 kernel_rfl
theorem h3fB (w:World):(fun os=>Hd.evB PySem.Challenge.pw_ken_k62_swapped q loose [] 1186 ⟨271,0,289,74⟩ (World.withFollow w "special-get-raises" false) os)=fun _=>Hd.evBTo q:=by
 rw[hdEvB_eq]
 kernel_rfl
theorem h3fD (w:World):(fun os=>Hd.evD PySem.Challenge.pw_ken_k62_swapped q loose [] 1186 ⟨271,0,289,74⟩ (World.withFollow w "special-get-raises" false) os)=fun _=>Hd.evDTo q loose:=by
 rw[hdEvD_eq,hdEvDTo_eq]
 kernel_rfl
theorem h3fC (w:World):(fun os=>Hd.evC PySem.Challenge.pw_ken_k62_swapped (Hd.obs5 PySem.Challenge.pw_ken_k62_swapped ask tas) 1186 ⟨271,0,289,74⟩ (World.withFollow w "special-get-raises" false) os)=fun _=>Hd.evCTo (Hd.val5 PySem.Challenge.pw_ken_k62_swapped ask) (World.withFollow w "special-get-raises" false):=by
 rw[hdEvC_eq,hdObs5_eq,hdVal5_eq]
 kernel_rfl
theorem h3f (w:World):(fun os=>Hd.ev PySem.Challenge.pw_ken_k62_swapped q loose [] (Hd.obs5 PySem.Challenge.pw_ken_k62_swapped ask tas) 1186 ⟨271,0,289,74⟩ (World.withFollow w "special-get-raises" false) os)=fun _=>Hd.evTo PySem.Challenge.pw_ken_k62_swapped q loose (Hd.val5 PySem.Challenge.pw_ken_k62_swapped ask) ⟨271,0,289,74⟩ (World.withFollow w "special-get-raises" false) :=
 Hd.ev_of (h3fA w) (h3fB w) (h3fD w) (h3fC w)
theorem h3tA (w:World):(fun os=>Hd.evA PySem.Challenge.pw_ken_k62_swapped 1186 ⟨271,0,289,74⟩ (World.withFollow w "special-get-raises" true) os)=fun _=>Hd.evATo PySem.Challenge.pw_ken_k62_swapped ⟨271,0,289,74⟩:=by
 rw[hdEvA_eq]
 kernel_rfl
theorem h3tB (w:World):(fun os=>Hd.evB PySem.Challenge.pw_ken_k62_swapped q loose [] 1186 ⟨271,0,289,74⟩ (World.withFollow w "special-get-raises" true) os)=fun _=>Hd.evBTo q:=by
 rw[hdEvB_eq]
 kernel_rfl
theorem h3tD (w:World):(fun os=>Hd.evD PySem.Challenge.pw_ken_k62_swapped q loose [] 1186 ⟨271,0,289,74⟩ (World.withFollow w "special-get-raises" true) os)=fun _=>Hd.evDTo q loose:=by
 rw[hdEvD_eq,hdEvDTo_eq]
 kernel_rfl
theorem h3tC (w:World):(fun os=>Hd.evC PySem.Challenge.pw_ken_k62_swapped (Hd.obs5 PySem.Challenge.pw_ken_k62_swapped ask tas) 1186 ⟨271,0,289,74⟩ (World.withFollow w "special-get-raises" true) os)=fun _=>Hd.evCTo (Hd.val5 PySem.Challenge.pw_ken_k62_swapped ask) (World.withFollow w "special-get-raises" true):=by
 rw[hdEvC_eq,hdObs5_eq,hdVal5_eq]
 kernel_rfl
theorem h3t (w:World):(fun os=>Hd.ev PySem.Challenge.pw_ken_k62_swapped q loose [] (Hd.obs5 PySem.Challenge.pw_ken_k62_swapped ask tas) 1186 ⟨271,0,289,74⟩ (World.withFollow w "special-get-raises" true) os)=fun _=>Hd.evTo PySem.Challenge.pw_ken_k62_swapped q loose (Hd.val5 PySem.Challenge.pw_ken_k62_swapped ask) ⟨271,0,289,74⟩ (World.withFollow w "special-get-raises" true) :=
 Hd.ev_of (h3tA w) (h3tB w) (h3tD w) (h3tC w)
theorem h3 (w:World):(fun os=>Hd.ev PySem.Challenge.pw_ken_k62_swapped q loose [] (Hd.obs5 PySem.Challenge.pw_ken_k62_swapped ask tas) 1186 ⟨271,0,289,74⟩ w os)=fun _=>Hd.evTo PySem.Challenge.pw_ken_k62_swapped q loose (Hd.val5 PySem.Challenge.pw_ken_k62_swapped ask) ⟨271,0,289,74⟩ w :=
 PySem.W.byRow2 "special-get-raises" (P:=fun w=>(fun os=>Hd.ev PySem.Challenge.pw_ken_k62_swapped q loose [] (Hd.obs5 PySem.Challenge.pw_ken_k62_swapped ask tas) 1186 ⟨271,0,289,74⟩ w os)=fun _=>Hd.evTo PySem.Challenge.pw_ken_k62_swapped q loose (Hd.val5 PySem.Challenge.pw_ken_k62_swapped ask) ⟨271,0,289,74⟩ w) h3f h3t w
theorem lft:PySem.W.LeftO PySem.Challenge.pw_ken_k62_swapped q loose (fun s=>PySem.W.xlAt q [] s&&PySem.W.recOk [] s) (Hd.hook5 PySem.Challenge.pw_ken_k62_swapped ask tas).obs (Hd.hook5 PySem.Challenge.pw_ken_k62_swapped ask tas).val 2496 :=
 Hd.left (by kernel_rfl) rfl (fun s=>by kernel_rfl) h1 h2 h3 rfl
theorem nm_placed:Hd.nm (Hd.stAt PySem.Challenge.pw_ken_k62_swapped 12)="placed":=by kernel_rfl
theorem tb_placed (K:PySem.W.Frag):(Hd.tabs PySem.Challenge.pw_ken_k62_swapped tas K).getD 0 0=Hd.tabAt K "placed":=congrArg (Hd.tabAt K) nm_placed
theorem tm_placed (K:PySem.W.Frag):Hd.tabAt K "placed"∈Hd.tabs PySem.Challenge.pw_ken_k62_swapped tas K:=nm_placed▸(.head _)
local macro_rules | `(tactic| walk_at "rdx_1")=>`(tactic| ((try dsimp only[tCallT,rInsert,tIf,rInT,iRev,tCallL,tComp,kNest,kTest,kApp,kPut,tPar,tSeq,tAsg,gName,tVar,tC,tOp,rI0,rI,rU,tUn,tRet,tIfS,tTest,tB,tNext,tCons,tNil,tCB,tCall,tTup,tLst,tDrop,tAnd,tOr,tNot,tAndV,tNotV,tBM,tBM0,rAppend,rExtend,rPop,rIxL,rIxT,rIxS,rCat,rEq,rNe,rMulS,tSl,rSlL,rSlS,tPart,tNoPart,tRev,rJoin,tDGet,tKD,rIsi,rEqD,rIn,gTup,gCons,gNil,iRng1,iRng2,iList,iTup,iZip,L2.start,capt,zmc,zmn,zlc,zln,zca,zna,zrs,zrz,Nat.reduceAdd,Nat.reduceSub,Nat.add_zero,Nat.sub_zero,zg0,zgs,zgn,zs0,zss,zjs,zjn,cxOf_K,cxOf_K1,nox_K,cxOf_prog,cxOf_w,blk_prog,blk_w,blk_K,tVarM,varM_some,tTestM,bM_bl,rI0M_int,rIM_int]);(try simp only[tCallT,rInsert,tIf,rInT,iRev,tCallL,tComp,kNest,kTest,kApp,kPut,tPar,tSeq,tAsg,gName,tVar,tC,tOp,rI0,rI,rU,tUn,tRet,tIfS,tTest,tB,tNext,tCons,tNil,tCB,tCall,tTup,tLst,tDrop,tAnd,tOr,tNot,tAndV,tNotV,tBM,tBM0,rAppend,rExtend,rPop,rIxL,rIxT,rIxS,rCat,rEq,rNe,rMulS,tSl,rSlL,rSlS,tPart,tNoPart,tRev,rJoin,tDGet,tKD,rIsi,rEqD,rIn,gTup,gCons,gNil,iRng1,iRng2,iList,iTup,iZip,L2.start,capt,zmc,zmn,zlc,zln,zca,zna,zrs,zrz,Nat.reduceAdd,Nat.reduceSub,Nat.add_zero,Nat.sub_zero,zg0,zgs,zgn,zs0,zss,zjs,zjn,cxOf_K,cxOf_K1,nox_K,cxOf_prog,cxOf_w,blk_prog,blk_w,blk_K,tVarM,varM_some,tTestM,bM_bl,rI0M_int,rIM_int,List.append_nil,Nat.zero_add,Option.some.injEq,V.int.injEq,V.str.injEq,V.ref.injEq,V.bl.injEq,V.ty.injEq,List.cons.injEq,and_true,true_and,exists_eq_left',exists_eq_left,exists_and_left,exists_eq,exists_eq',and_assoc,scal_int,scal_str,scal_bl,decide_eq_true_eq,bM_ex,rI0M_ex,rIM_ex])))
local macro_rules | `(tactic| walk_at "rdx_2")=>`(tactic| ((try dsimp only[tCallT,rInsert,tIf,rInT,iRev,tCallL,tComp,kNest,kTest,kApp,kPut,tFor,tLC,tVar,tC,tOp,rI0,rI,rU,tUn,tTest,tB,tCons,tNil,tCB,tCall,tTup,tLst,tAnd,tOr,tNot,tAndV,tNotV,tBM,tBM0,rAppend,rExtend,rPop,rIxL,rIxT,rIxS,rCat,rEq,rNe,rMulS,tSl,rSlL,rSlS,tPart,tNoPart,tRev,rJoin,tDGet,tKD,rIsi,rEqD,rIn,iRng1,iRng2,iList,iTup,iZip,L2.start,capt,zmc,zmn,zlc,zln,zca,zna,zrs,zrz,Nat.reduceAdd,Nat.reduceSub,Nat.add_zero,Nat.sub_zero,zg0,zgs,zgn,zs0,zss,zjs,zjn,cxOf_K,cxOf_K1,nox_K,cxOf_prog,cxOf_w,blk_prog,blk_w,blk_K,tVarM,varM_some,tTestM,bM_bl,rI0M_int,rIM_int]);(try simp only[tCallT,rInsert,tIf,rInT,iRev,tCallL,tComp,kNest,kTest,kApp,kPut,tFor,tLC,tVar,tC,tOp,rI0,rI,rU,tUn,tTest,tB,tCons,tNil,tCB,tCall,tTup,tLst,tAnd,tOr,tNot,tAndV,tNotV,tBM,tBM0,rAppend,rExtend,rPop,rIxL,rIxT,rIxS,rCat,rEq,rNe,rMulS,tSl,rSlL,rSlS,tPart,tNoPart,tRev,rJoin,tDGet,tKD,rIsi,rEqD,rIn,iRng1,iRng2,iList,iTup,iZip,L2.start,capt,zmc,zmn,zlc,zln,zca,zna,zrs,zrz,Nat.reduceAdd,Nat.reduceSub,Nat.add_zero,Nat.sub_zero,zg0,zgs,zgn,zs0,zss,zjs,zjn,cxOf_K,cxOf_K1,nox_K,cxOf_prog,cxOf_w,blk_prog,blk_w,blk_K,tVarM,varM_some,tTestM,bM_bl,rI0M_int,rIM_int,List.append_nil,Nat.zero_add,Option.some.injEq,V.int.injEq,V.str.injEq,V.ref.injEq,V.bl.injEq,V.ty.injEq,List.cons.injEq,and_true,true_and,exists_eq_left',exists_eq_left,exists_and_left,exists_eq,exists_eq',and_assoc,scal_int,scal_str,scal_bl,decide_eq_true_eq,bM_ex,rI0M_ex,rIM_ex])))
local macro_rules | `(tactic| walk_at "rdx_3")=>`(tactic| ((try dsimp only[tCallT,rInsert,tIf,rInT,iRev,tCallL,tComp,kNest,kTest,kApp,kPut,gName,tVar,tC,tOp,rI0,rI,rU,tUn,tIfS,tTest,tB,tNext,tCons,tNil,tCB,tCall,tTup,tLst,tAnd,tOr,tNot,tAndV,tNotV,tBM,tBM0,rAppend,rExtend,rPop,rIxL,rIxT,rIxS,rCat,rEq,rNe,rMulS,tSl,rSlL,rSlS,tPart,tNoPart,tRev,rJoin,tDGet,tKD,rIsi,rEqD,rIn,gTup,gCons,gNil,iRng1,iRng2,iList,iTup,iZip,L2.start,capt,zmc,zmn,zlc,zln,zca,zna,zrs,zrz,Nat.reduceAdd,Nat.reduceSub,Nat.add_zero,Nat.sub_zero,zg0,zgs,zgn,zs0,zss,zjs,zjn,cxOf_K,cxOf_K1,nox_K,cxOf_prog,cxOf_w,blk_prog,blk_w,blk_K,tVarM,varM_some,tTestM,bM_bl,rI0M_int,rIM_int]);(try simp only[tCallT,rInsert,tIf,rInT,iRev,tCallL,tComp,kNest,kTest,kApp,kPut,gName,tVar,tC,tOp,rI0,rI,rU,tUn,tIfS,tTest,tB,tNext,tCons,tNil,tCB,tCall,tTup,tLst,tAnd,tOr,tNot,tAndV,tNotV,tBM,tBM0,rAppend,rExtend,rPop,rIxL,rIxT,rIxS,rCat,rEq,rNe,rMulS,tSl,rSlL,rSlS,tPart,tNoPart,tRev,rJoin,tDGet,tKD,rIsi,rEqD,rIn,gTup,gCons,gNil,iRng1,iRng2,iList,iTup,iZip,L2.start,capt,zmc,zmn,zlc,zln,zca,zna,zrs,zrz,Nat.reduceAdd,Nat.reduceSub,Nat.add_zero,Nat.sub_zero,zg0,zgs,zgn,zs0,zss,zjs,zjn,cxOf_K,cxOf_K1,nox_K,cxOf_prog,cxOf_w,blk_prog,blk_w,blk_K,tVarM,varM_some,tTestM,bM_bl,rI0M_int,rIM_int,List.append_nil,Nat.zero_add,Option.some.injEq,V.int.injEq,V.str.injEq,V.ref.injEq,V.bl.injEq,V.ty.injEq,List.cons.injEq,and_true,true_and,exists_eq_left',exists_eq_left,exists_and_left,exists_eq,exists_eq',and_assoc,scal_int,scal_str,scal_bl,decide_eq_true_eq,bM_ex,rI0M_ex,rIM_ex])))
noncomputable def top (i:Nat):Stmt:=PySem.Challenge.pw_ken_k62_swapped.main.body.getD i (.Pass ⟨0,0,0,0⟩)
noncomputable abbrev s_aj0:Stmt:=top 21
theorem sc_aj0:FnScope ["_law_cell_here","_law_k","_law_first"] ["_law_cell_here","_law_k"] (defScope s_aj0):=⟨rfl,rfl,rfl,by decide +kernel,rfl,by decide +kernel,by decide +kernel⟩
noncomputable abbrev s_aa0:Stmt:=top 22
theorem sc_aa0:FnScope ["_law_script","_law_k","_law_cell_here"] ["_law_script","_law_k"] (defScope s_aa0):=⟨rfl,rfl,rfl,by decide +kernel,rfl,by decide +kernel,by decide +kernel⟩
noncomputable abbrev s_ar0:Stmt:=top 24
theorem sc_ar0:FnScope ["_law_cell_here","_law_small","_law_size","_law_at","_law_stem","_law_signs","_law_first","_law_found","_law_k","_law_sign"] ["_law_cell_here"] (defScope s_ar0):=⟨rfl,rfl,rfl,by decide +kernel,rfl,by decide +kernel,by decide +kernel⟩
section
variable {P:Program} {w:World} {K:PySem.W.Frag} {mg:Str→Option Value} {base:Heap}
theorem ok_aj0 {k:Nat} {f_aj0:Addr} {fd_aj0:FuncData} (F_aj0:Fun K "_law_mix" "_law_mix" s_aj0 f_aj0 fd_aj0):FnOk P w K mg base CX0 (k+1) f_aj0 fd_aj0 ["_law_cell_here","_law_k"] sp_mix:=by
 refine F_aj0.ok sc_aj0 (fun vs H Q E h=>?_) (fun cdv A outer s H vs Q E hr h=>?_)
 ·obtain⟨c,k,rfl,_⟩:=h
  rfl
 obtain⟨c,k,rfl,h0,h1,q⟩:=h
 refine⟨_,(pss_cons (ps_set (i:=2) sc_aj0.nd rfl (Or.inl rfl) (pe_op op_modM (pe_op op_mulM (pe_op op_addM (pvM 0) pe_int) (pe_op op_addM pe_int (pe_op op_mulM pe_int (pvM 1)))) pe_int))
 (pss_one (ps_ret (pe_op op_modM (pe_op op_addM (pe_op op_addM (pe_op op_mulM (pe_op op_fdivM (pvM 2) pe_int) pe_int) (pe_op op_mulM (pvM 2) (pe_op op_addM (pe_op op_mulM (pvM 1) (pvM 1)) pe_int))) (pvM 1)) pe_int)))),?_⟩
 walk_at "rdx_1"
 have a0:0≤(c+1)*(48271+118*k) % 2147483629:=Int.emod_nonneg _ (by decide)
 have a1:(c+1)*(48271+118*k) % 2147483629 < 2147483629:=Int.emod_lt_of_pos _ (by decide)
 refine⟨mul_left (by decide) (by decide),mul_right (by omega) (by omega),by decide,⟨by decide,by decide⟩,mul_right (by decide) (by decide),mul_left (by omega) (by omega),mul_left (by omega) (by omega),by decide,?_⟩
 exact q
theorem ok_aa0 {k:Nat} {f_aa0:Addr} {fd_aa0:FuncData} (F_aa0:Fun K "_law_cell" "_law_cell" s_aa0 f_aa0 fd_aa0) {f_aj0:Addr} {fd_aj0:FuncData} (G_aj0:FnOk P w K mg base CX0 k f_aj0 fd_aj0 ["_law_cell_here","_law_k"] (sp_mix)) (m_aj0:mg "_law_mix"=some (.ref f_aj0)) (k_aj0:PySem.W.keepIn K (.ref f_aj0)=true) (b_aj0:Binds K fd_aj0 ["_law_cell_here","_law_k"] []) (m_len:mg "len"=none):FnOk P w K mg base CX0 (k+1) f_aa0 fd_aa0 ["_law_script","_law_k"] (sp_cell K):=by
 refine F_aa0.ok sc_aa0 (fun vs H Q E h=>?_) (fun cdv A outer s H vs Q E hr h=>?_)
 ·obtain⟨a,ns,k,rfl,_⟩:=h
  rfl
 obtain⟨a,ns,j,rfl,hS,h63,h0,h1,q⟩:=h
 refine⟨_,(pss_cons (ps_set (i:=2) sc_aa0.nd rfl (Or.inl rfl) pe_int)
 (pss_cons (ps_if (pt_cmpRM (op_ltM) (pvM 1) (pe_callB call_len_seq (by exact rfl) m_len Ken.boot_len (pa_cons (pvM 0) pa_nil)) (nomark _))
  (pss_one (ps_set (i:=2) sc_aa0.nd rfl (Or.inl rfl) (pe_op op_modM (pe_ix ix_list (pvM 0) (pvM 1) (fun _ _=>rfl)) pe_int)))
  pss_nil)
 (pss_one (ps_ret (pe_call G_aj0 hr (by exact rfl) m_aj0 k_aj0 b_aj0 .nil pass0 (pa_cons (pvM 2) (pa_cons (pe_op op_addM (pvM 1) pe_int) pa_nil))))))),?_⟩
 walk_at "rdx_1"
 refine⟨_,.inl hS,?_⟩
 rw[List.length_map]
 have e:cellOf ns j=mix (if j < (ns.length:Int) then (ns[j.toNat]?.getD 0) % 2147483647 else 0) (j+101):=rfl
 refine ite2 (fun c=>?_) (fun c=>?_)
 ·rw[if_pos c] at e
  have hj:j.toNat < ns.length:=by omega
  refine⟨_,hS,V.int (ns[j.toNat]),?_,_,rfl,by decide,?_⟩
  ·have ej:j=((j.toNat:Nat):Int):=by omega
   have q:atI (ns.map V.int) ((j.toNat:Nat):Int)=some (.int ns[j.toNat]):=atI_nat (by rw[List.getElem?_map,List.getElem?_eq_getElem hj]<;>rfl)
   rw[← ej] at q
   exact q
  ·rw[List.getElem?_eq_getElem hj] at e
   rw[e] at q
   exact⟨_,_,rfl,by omega,by omega,q⟩
 ·rw[if_neg c] at e
  rw[e] at q
  exact⟨_,_,rfl,by omega,by omega,q⟩
end
noncomputable abbrev s_bh0:Stmt:=top 2
theorem sc_bh0:FnScope ["statement"] ["statement"] (defScope s_bh0):=⟨rfl,rfl,rfl,by decide +kernel,rfl,by decide +kernel,by decide +kernel⟩
noncomputable abbrev s_bc0:Stmt:=top 3
theorem sc_bc0:FnScope ["statement","found","waiting","piece"] ["statement"] (defScope s_bc0):=⟨rfl,rfl,rfl,by decide +kernel,rfl,by decide +kernel,by decide +kernel⟩
section
variable {P:Program} {w:World} {K:PySem.W.Frag} {mg:Str→Option Value} {base:Heap}
theorem ok_bh0 {k:Nat} {f_bh0:Addr} {fd_bh0:FuncData} (F_bh0:Fun K "within" "within" s_bh0 f_bh0 fd_bh0) {aPAIRED:Addr} (m_PAIRED:mg "PAIRED"=some (.ref aPAIRED)) (t_PAIRED:∀ H,SqT K H aPAIRED [.str "both",.str "one",.str "then"]):FnOk P w K mg base CX0 (k+1) f_bh0 fd_bh0 ["statement"] (sp_within K):=by
 refine F_bh0.ok sc_bh0 (fun vs H Q E h=>?_) (fun cdv A outer s H vs Q E hr h=>?_)
 ·obtain⟨v,t,rfl,_⟩:=h
  rfl
 obtain⟨v,t,rfl,hT,q⟩:=h
 refine⟨_,(pss_cons (ps_if (pt_cmpRM (op_in_seq) (pe_ix ix_tup (pvM 0) pe_int (fun _ _=>rfl)) (pe_glob (v:=.ref aPAIRED) (by exact rfl) m_PAIRED (by exact rfl)) (by with_unfolding_all rfl))
  (pss_one (ps_ret (pe_lst (pa_cons (pe_ix ix_tup (pvM 0) pe_int (fun _ _=>rfl)) (pa_cons (pe_ix ix_tup (pvM 0) pe_int (fun _ _=>rfl)) pa_nil)))))
  pss_nil)
 (pss_one (ps_ret (pe_lst pa_nil)))),?_⟩
 walk_at "rdx_1"
 cases t with
 | low =>
  obtain⟨a,rfl,hs⟩:=isT_low.mp hT
  refine⟨a,rfl,_,hs,_,rfl,_,.inr (t_PAIRED H),rfl,rfl,?_⟩
  rw[if_neg (by decide)]
  exact⟨by decide,fun p hp=>q p _ _ (same_new hp _) hp upd_same .nil⟩
 | ltr x =>
  obtain⟨a,rfl,hs⟩:=isT_ltr.mp hT
  refine⟨a,rfl,_,hs,_,rfl,_,.inr (t_PAIRED H),rfl,rfl,?_⟩
  rw[if_neg (by decide)]
  exact⟨by decide,fun p hp=>q p _ _ (same_new hp _) hp upd_same .nil⟩
 | nd kd x y =>
  obtain⟨a,vx,vy,rfl,hs,hx,hy⟩:=isT_nd.mp hT
  refine⟨a,rfl,_,hs,_,rfl,_,.inr (t_PAIRED H),rfl,rfl,?_⟩
  rw[if_pos (by cases kd<;>decide)]
  exact⟨a,rfl,_,hs,_,rfl,a,rfl,_,hs,_,rfl,by decide,fun p hp=>q p _ _ (same_new hp _) hp upd_same (.cons (hx.keep (keepT_new hp)) (.cons (hy.keep (keepT_new hp)) .nil))⟩
end
noncomputable def sumP (ts:List Tm):Nat:=(ts.map Tm.parts).sum
theorem sumP_cons (t:Tm) (ts:List Tm):sumP (t :: ts)=t.parts+sumP ts:=by unfold sumP;rw[List.map_cons,List.sum_cons]
theorem sumP_app (a b:List Tm):sumP (a++b)=sumP a+sumP b:=by unfold sumP;rw[List.map_append,List.sum_append]
theorem sumP_kids (t:Tm):sumP t.kids+1=t.parts:=by
 cases t with
 | low=>rfl
 | ltr w=>rfl
 | nd k a b=>show sumP [a,b]+1=1+a.parts+b.parts;rw[sumP_cons,sumP_cons];show a.parts+(b.parts+0)+1=_;omega
theorem len_sumP:∀ ts:List Tm,ts.length≤sumP ts
 | []=>Nat.le_refl _
 | t :: ts=>by
  rw[sumP_cons,List.length_cons]
  have:=len_sumP ts
  have:=t.parts_pos
  omega
section
variable {P:Program} {w:World} {K:PySem.W.Frag} {mg:Str→Option Value} {base:Heap}
theorem ok_bc0 {k:Nat} {f_bc0:Addr} {fd_bc0:FuncData} (F_bc0:Fun K "pieces" "pieces" s_bc0 f_bc0 fd_bc0) {f_bh0:Addr} {fd_bh0:FuncData} (G_bh0:FnOk P w K mg base CX0 k f_bh0 fd_bh0 ["statement"] (sp_within K)) (m_bh0:mg "within"=some (.ref f_bh0)) (k_bh0:PySem.W.keepIn K (.ref f_bh0)=true) (b_bh0:Binds K fd_bh0 ["statement"] []):FnOk P w K mg base CX0 (k+1) f_bc0 fd_bc0 ["statement"] (sp_pieces K):=by
 refine F_bc0.ok sc_bc0 (fun vs H Q E h=>?_) (fun cdv A outer s H vs Q E hr h=>?_)
 ·obtain⟨v,t,rfl,_⟩:=h
  rfl
 obtain⟨v,t,rfl,hT,hp,q⟩:=h
 refine⟨_,(pss_cons (ps_set (i:=1) sc_bc0.nd rfl (Or.inl rfl) (pe_lst pa_nil))
 (pss_cons (ps_set (i:=2) sc_bc0.nd rfl (Or.inl rfl) (pe_lst (pa_cons (pv 0) pa_nil)))
 (pss_cons (ps_while PassesOwn.never (pt_truth (pv 2) (fun _=>rfl))
  (pss_cons (ps_set (i:=3) sc_bc0.nd rfl (Or.inl rfl) (pe_bm0 PySem.F.plainAttrs_list PySem.F.slot_list_pop PySem.F.type_list_pop mt_pop (pv 2)))
 (pss_cons (ps_expr (pe_bm PySem.F.plainAttrs_list PySem.F.slot_list_append PySem.F.type_list_append mt_append (pv 1) (pa_cons (pv 3) pa_nil)))
 (pss_one (ps_expr (pe_bm PySem.F.plainAttrs_list PySem.F.slot_list_extend PySem.F.type_list_extend mt_extend (pv 2) (pa_cons (pe_rev (pe_call G_bh0 hr (by exact rfl) m_bh0 k_bh0 b_bh0 .nil pass0 (pa_cons (pv 3) pa_nil)) (pe_un un_neg pe_int)) pa_nil)))))))
 (pss_one (ps_ret (pv 1)))))),?_⟩
 walk_at "rdx_1"
 refine⟨by decide,fun lt hlt=>⟨by decide,fun lw hlw=>?_⟩⟩
 have hlw0:H lw=none:=(same_new hlt _).free hlw
 have hne:lw≠lt:=fun z=>by subst z;rw[upd_same] at hlw;cases hlw
 refine⟨fun m σ' H'=>∃ st ts us ds x3,m=sumP ts∧σ'=[some v,some (.ref lt),some (.ref lw),x3]∧Same H H'∧H' lt=some (.lst us)∧H' lw=some (.lst st.reverse)∧Paired (IsT K H') st ts∧Paired (IsT K H') us ds∧ds++ts.flatMap Tm.pre=t.pre∧us.length+sumP ts≤400,
  ⟨_,[v],[t],[],[],none,rfl,rfl,(same_new hlt _).trans (same_new hlw _),?_,upd_same,.cons ((hT.keep (keepT_new hlt)).keep (keepT_new hlw)) .nil,.nil,?_,?_⟩,?_⟩
 ·rw[upd_ne (Ne.symm hne),upd_same]
 ·show []++(t.pre++[])=t.pre
  simp
 ·show 0+(t.parts+0)≤400
  omega
 rintro m σ1 H1 ⟨st,ts,us,ds,x3,rfl,rfl,e1,h1,h2,hd,hu,ht,hn⟩
 refine⟨_,rfl,!st.reverse.isEmpty,.inl ⟨_,SqL.of h2,rfl⟩,?_⟩
 cases hd with
 | nil =>
  rw[if_neg (by decide)]
  walk_at "rdx_1"
  rw[List.flatMap_nil,List.append_nil] at ht
  rw[ht] at hu
  exact q lt H1 us e1 hlt h1 hu
 | @cons u i st is hi hst =>
  have hrev:(u :: st).reverse=st.reverse++[u]:=List.reverse_cons
  rw[if_pos (by rw[hrev];simp)]
  refine⟨_,fun σ' H' z=>z,?_⟩
  walk_at "rdx_1"
  rw[hrev] at h2
  have ne1:lt≠lw:=Ne.symm hne
  refine⟨.inl ⟨rfl,_,SqL.of h2⟩,_,h2,u,by simp,?_⟩
  rw[List.dropLast_concat]
  have k1:KeepT K H1 (upd H1 lw (.lst st.reverse)):=keepT_lst h2
  rw[sumP_cons] at hn
  have pp:=i.parts_pos
  have h1':upd H1 lw (.lst st.reverse) lt=some (.lst us):=by rw[upd_ne ne1];exact h1
  have k2:KeepT K H1 (upd (upd H1 lw (.lst st.reverse)) lt (.lst (us++[u]))):=k1.trans (keepT_lst h1')
  refine⟨.inl ⟨rfl,_,SqL.of h1'⟩,_,h1',small1M (by omega),?_⟩
  have h2lw0:upd (upd H1 lw (.lst st.reverse)) lt (.lst (us++[u])) lw=some (.lst st.reverse):=by rw[upd_ne hne,upd_same]
  refine⟨.inl ⟨rfl,_,SqL.of h2lw0⟩,u,i,rfl,hi.keep k2,fun r H2 zs e2 hr0 hr2 hz=>?_⟩
  have h2lw:=e2 lw _ h2lw0
  have h2lt:=e2 lt _ upd_same
  have l1:=Paired.length hz
  have l2:=Paired.length hst
  have l3:=len_sumP is
  have l4:=len_sumP i.kids
  have l5:=sumP_kids i
  have E2:Same H H2:=((e1.write hlw0).write hlt).trans e2
  refine⟨r,rfl,zs,SqL.of hr2,fun p hp=>⟨st.reverse,by rw[upd_ne (ne_of_none h2lw hp)];exact h2lw,zs.reverse,upd_same,?_,sumP (i.kids++is),?_,zs++st,i.kids++is,rfl,?_,us++[u],?_,?_,?_,ds++[i],?_,?_,?_⟩⟩
  ·rw[List.length_reverse,List.length_reverse]
   exact Nat.le_of_lt (small1M (by omega))
  ·rw[sumP_app,sumP_cons];omega
  ·exact (E2.trans (same_new hp _)).write hlw0
  ·rw[upd_ne ne1,upd_ne (ne_of_none h2lt hp)];exact h2lt
  ·rw[upd_same,List.reverse_append]
  ·have k3:KeepT K H2 (upd (upd H2 p (.lst zs.reverse)) lw (.lst (st.reverse++zs.reverse))):=(keepT_new hp).trans (keepT_lst (by rw[upd_ne (ne_of_none h2lw hp)];exact h2lw))
   exact paired_app (paired_keepT k3 hz) (paired_keepT ((k2.trans e2.keepT).trans k3) hst)
  ·have k3:KeepT K H2 (upd (upd H2 p (.lst zs.reverse)) lw (.lst (st.reverse++zs.reverse))):=(keepT_new hp).trans (keepT_lst (by rw[upd_ne (ne_of_none h2lw hp)];exact h2lw))
   exact paired_keepT ((k2.trans e2.keepT).trans k3) (paired_app hu (.cons hi .nil))
  ·rw[← ht,List.flatMap_append,List.flatMap_cons,Tm.pre_eq i];simp
  ·rw[List.length_append,List.length_singleton,sumP_app];omega
end
noncomputable abbrev s_bf0:Stmt:=top 5
theorem sc_bf0:FnScope ["statement"] ["statement"] (defScope s_bf0):=⟨rfl,rfl,rfl,by decide +kernel,rfl,by decide +kernel,by decide +kernel⟩
section
variable {P:Program} {w:World} {K:PySem.W.Frag} {mg:Str→Option Value} {base:Heap}
theorem ok_bf0 {k:Nat} {f_bf0:Addr} {fd_bf0:FuncData} (F_bf0:Fun K "spelled" "spelled" s_bf0 f_bf0 fd_bf0) {f_bc0:Addr} {fd_bc0:FuncData} (G_bc0:FnOk P w K mg base CX0 k f_bc0 fd_bc0 ["statement"] (sp_pieces K)) (m_bc0:mg "pieces"=some (.ref f_bc0)) (k_bc0:PySem.W.keepIn K (.ref f_bc0)=true) (b_bc0:Binds K fd_bc0 ["statement"] []) (m_tuple:mg "tuple"=none) (m_isinstance:mg "isinstance"=none) (m_str:mg "str"=none):FnOk P w K mg base CX0 (k+1) f_bf0 fd_bf0 ["statement"] (sp_spelled K):=by
 refine F_bf0.ok sc_bf0 (fun vs H Q E h=>?_) (fun cdv A outer s H vs Q E hr h=>?_)
 ·obtain⟨v,t,rfl,_⟩:=h
  rfl
 obtain⟨v,t,rfl,hT,hp,q⟩:=h
 refine⟨_,(pss_one (ps_ret (pe_callTy call_tuple_of (by exact rfl) m_tuple Ken.boot_tuple (pa_cons (pe_lcG (blk0 (N':=["piece","text"]) (by decide +kernel) (by decide +kernel) rfl (by decide +kernel)) rfl (pi_list (pe_call G_bc0 hr (by exact rfl) m_bc0 k_bc0 b_bc0 .nil pass0 (pa_cons (pvM 0) pa_nil))) (fun _ _ _ _=>(pg_name (i:=0) (show (["piece","text"]:List Str).Nodup from by decide +kernel) rfl (Or.inl rfl))) (fun _ _=>turn_L2a01 (c:=(.Name "" ⟨0,0,0,0⟩))) (fun _ _ _ _ _=>(pk_nest rfl rfl den_L rfl (pi_tupK (K:=K) rfl (pvM 0)) (fun _=>rfl) (turn_L2b01 (c:=(.Name "" ⟨0,0,0,0⟩))) (pg_name (i:=1) (show (["piece","text"]:List Str).Nodup from by decide +kernel) rfl (Or.inl rfl)) (pk_test (pt_val (pe_callB (call_isiK (K:=K) rfl) (by exact rfl) (by exact m_isinstance) Ken.boot_isinstance (pa_cons (pvM 1) (pa_cons (pe_bltn (v:=.ty "str") (by exact rfl) (by exact m_str) Ken.boot_str (by exact rfl)) pa_nil)))) (pk_emitL (pvM 1)))))) pa_nil)))),?_⟩
 walk_at "rdx_1"
 refine⟨_,t,rfl,hT,hp,fun r H1 us e1 f1 h1 hu=>⟨r,rfl,⟨_,SqL.of h1⟩,fun acc hacc=>?_⟩⟩
 have lu:=Paired.length hu
 rw[Tm.pre_len] at lu
 refine comp_list (xs:=us) (fun i H'=>Same H1 H'∧H' acc=some (.lst (((t.pre.take i).flatMap Tm.own).map V.str))) ⟨same_new hacc _,upd_same⟩ (fun i H' _ ⟨e,_⟩=>SqL.of (e _ _ h1)) (fun i x H' N hx ⟨e,ha⟩ hN=>?_) (fun H' ⟨e,ha⟩=>?_)
 ·obtain⟨s',hs',hxT⟩:=paired_get hu hx
  obtain⟨a,vs,rfl,hsq,ho,hv3,hy⟩:=isT_items (hxT.keep e.keepT)
  walk_at "rdx_1"
  have eo:(t.pre.take (i+1)).flatMap Tm.own=(t.pre.take i).flatMap Tm.own++s'.own:=by
   rw[List.take_add_one,hs',List.flatMap_append]
   show _++(s'.own++[])=_
   rw[List.append_nil]
  have ll:((t.pre.take i).flatMap Tm.own).length≤800:=by
   have h1:((t.pre.take i).flatMap Tm.own).length≤t.spell.length:=by
    show _≤(t.pre.flatMap Tm.own).length
    rw[← List.take_append_drop i t.pre,List.flatMap_append,List.length_append,List.take_append_drop]
    exact Nat.le_add_right _ _
   have:=spell_len t
   omega
  refine⟨wk_head,⟨_,hsq⟩,?_⟩
  refine comp_tup (xs:=vs) (fun j H2=>Same H1 H2∧KeepT K H' H2∧H2 acc=some (.lst (((t.pre.take i).flatMap Tm.own++strsOf (vs.take j)).map V.str))) ⟨e,fun _ _ z=>z,by rw[List.take_zero];show _=some (HO.lst ((_++[]).map V.str));rw[List.append_nil];exact ha⟩ (fun j H2 _ ⟨_,e2,_⟩=>e2 _ _ hsq) (fun j y H2 M hj ⟨e2,k2,a2⟩ hM=>?_) (fun H2 ⟨e2,_,a2⟩=>?_)
  ·walk_at "rdx_1"
   have sl:(strsOf (vs.take j)).length≤3:=by
    have gen:∀ l:List V,(strsOf l).length≤l.length:=by
     intro l
     induction l with
     | nil=>exact Nat.le_refl _
     | cons v r ih=>cases v<;>simp[strsOf]<;>omega
    have:=gen (vs.take j)
    rw[List.length_take] at this
    omega
   have es:strsOf (vs.take (j+1))=strsOf (vs.take j)++strsOf [y]:=by rw[List.take_add_one,hj,strsOf_app];rfl
   rcases hy y (List.mem_of_getElem? hj) with ⟨x,rfl⟩ | ⟨b,xs,rfl,hb⟩
   ·refine⟨wk_set (i:=1) rfl,_,.of (.str x),_,kit_same K "str",?_⟩
    rw[if_pos rfl]
    refine⟨_,a2,small1M (by rw[List.length_map,List.length_append];omega),hM _ ⟨e2.write hacc,k2.trans (keepT_lst a2),?_⟩⟩
    rw[upd_same,es]
    show _=some (HO.lst ((_++(_++[x])).map V.str))
    rw[← List.append_assoc,List.map_append (l₂:=[x])];rfl
   ·refine⟨wk_set (i:=1) rfl,_,.tupK (k2 _ _ hb),_,kit_ts K,?_⟩
    rw[if_neg Bool.false_ne_true]
    refine hM _ ⟨e2,k2,?_⟩
    rw[es]
    show _=some (HO.lst ((_++(_++[])).map V.str))
    rw[List.append_nil];exact a2
  ·rw[List.take_length,ho] at a2
   exact hN _ ⟨e2,by rw[eo];exact a2⟩
 ·rw[lu,← Tm.pre_len,List.take_length] at ha
  exact⟨_,.inl ⟨SqL.of ha,fun l hl=>q l _ ((e1.trans e).trans (same_new hl _)) ((e1.trans e).free hl) upd_same⟩⟩
end
noncomputable abbrev s_bb0:Stmt:=top 7
theorem sc_bb0:FnScope ["some","by_spelling"] ["some"] (defScope s_bb0):=⟨rfl,rfl,rfl,by decide +kernel,rfl,by decide +kernel,by decide +kernel⟩
section
variable {P:Program} {w:World} {K:PySem.W.Frag} {mg:Str→Option Value} {base:Heap}
theorem ok_bb0 {k:Nat} {f_bb0:Addr} {fd_bb0:FuncData} (F_bb0:Fun K "once" "once" s_bb0 f_bb0 fd_bb0) {f_bf0:Addr} {fd_bf0:FuncData} (G_bf0:FnOk P w K mg base CX0 k f_bf0 fd_bf0 ["statement"] (sp_spelled K)) (m_bf0:mg "spelled"=some (.ref f_bf0)) (k_bf0:PySem.W.keepIn K (.ref f_bf0)=true) (b_bf0:Binds K fd_bf0 ["statement"] []) (m_sorted:mg "sorted"=none):FnOk P w K mg base CX0 (k+1) f_bb0 fd_bb0 ["some"] (sp_once K):=by
 refine F_bb0.ok sc_bb0 (fun vs H Q E h=>?_) (fun cdv A outer s H vs Q E hr h=>?_)
 ·obtain⟨a,xs,ts,rfl,_⟩:=h
  rfl
 obtain⟨a,xs,ts,rfl,hS,hT,h64,h400,q⟩:=h
 have lx:=Paired.length hT
 refine⟨_,(pss_cons (ps_set (i:=1) sc_bb0.nd rfl (Or.inr rfl) (pe_dc (blk0 (N':=["statement"]) (by decide +kernel) (by decide +kernel) rfl (by decide +kernel)) rfl (pi_list (pvM 0)) (fun _ _ _ _=>(pg_name (i:=0) (show (["statement"]:List Str).Nodup from by decide +kernel) rfl (Or.inl rfl))) (fun _ _=>turn_D0 (c:=(.Name "" ⟨0,0,0,0⟩)) (tg2:=(.Name "" ⟨0,0,0,0⟩))) (fun _ _ _ _ _=>(pk_emitD (Nat.lt_of_succ_lt (hu_of hr)) (pe_call G_bf0 hr (by exact rfl) (by exact m_bf0) k_bf0 b_bf0 .nil pass0 (pa_cons (pvM 0) pa_nil)) (pvM 0)))))
 (pss_one (ps_ret (pe_lc (blkC (N':=["spelling","by_spelling"]) (nt:=1) (ci:=[1]) ["some","by_spelling"] (defScope s_bb0) rfl rfl (by decide +kernel) rfl (by decide +kernel) (by decide +kernel) rfl (by decide +kernel)) rfl (pi_list (pe_callB (call_sortedT rfl) (by exact rfl) m_sorted Ken.boot_sorted (pa_cons (pvM 1) pa_nil))) (fun _ _ _ _=>(pg_name (i:=0) (show (["spelling","by_spelling"]:List Str).Nodup from by decide +kernel) rfl (Or.inl rfl))) (fun _ _ _ _=>(pe_dget (hu_of hr) (pvM 1) (pvM 0) (fun _ _=>rfl))))))),?_⟩
 refine seq_then (fun σ' H'=>∃ d kvs ss,σ'=[some (.ref a),some (.ref d)]∧Same H H'∧H d=none∧H' d=some (.dT kvs)∧DS K H kvs ss∧ss.Nodup∧ss.length < 64∧∀ s,s∈ss↔s∈ts) ?_ ?_
 rotate_left
 ·intro C hC
  walk_at "rdx_1"
  refine⟨⟨_,hS⟩,fun d hd=>?_⟩
  refine comp_list (xs:=xs) (fun i H'=>Same H H'∧∃ kvs ss,H' d=some (.dT kvs)∧DS K H kvs ss∧ss.Nodup∧ss.length≤i∧∀ s,s∈ss↔s∈ts.take i) ⟨same_new hd _,[],[],upd_same,.nil,List.nodup_nil,Nat.le_refl _,fun s=>by simp⟩ (fun i H' _ ⟨e,_⟩=>e.seq hS) (fun i x H' N hx ⟨e,kvs,ss,hd',hD,hn,hl,hm⟩ hN=>?_) (fun H' ⟨e,kvs,ss,hd',hD,hn,hl,hm⟩=>?_)
  ·obtain⟨t,ht,hxT⟩:=paired_get hT hx
   have hi:i < xs.length:=(List.getElem?_eq_some_iff.mp hx).1
   have tk:ts.take (i+1)=ts.take i++[t]:=by rw[List.take_add_one,ht];rfl
   have pt:=h400 t (List.mem_of_getElem? ht)
   walk_at "rdx_1"
   refine⟨wk_head,x,t,rfl,hxT.keep e.keepT,pt,fun r H2 e2 f2 h2=>?_⟩
   have hd2:=e2 d _ hd'
   have kl:kvs.length=ss.length:=Paired.length hD
   refine⟨_,DPut.t (k:=t.key) hd2 (by rw[t.key_kV];exact h2) (small1M (by omega)),hN _ ⟨(e.trans e2).write hd,putK kvs t.key x,?_⟩⟩
   by_cases hin:t∈ss
   ·refine⟨ss,upd_same,hD.put_old hin hxT,hn,by omega,fun s=>?_⟩
    rw[tk,List.mem_append,List.mem_singleton,hm s]
    constructor
    ·exact .inl
    ·rintro (z | rfl)
     ·exact z
     ·exact (hm _).mp hin
   ·refine⟨ss++[t],upd_same,hD.put_new hin hxT,nd_snoc hn hin,by rw[List.length_append,List.length_singleton];omega,fun s=>?_⟩
    rw[tk,List.mem_append,List.mem_append,hm s]
  ·rw[lx,List.take_length] at hm
   exact hC _ _ ⟨d,kvs,ss,rfl,e,hd,hd',hD,hn,by omega,hm⟩
 rintro σ1 H1 ⟨d,kvs,ss,rfl,e1,f1,h1,hD,hn,hl,hm⟩
 have kl:kvs.length=ss.length:=Paired.length hD
 unfold tRet tLC
 walk_at "rdx_1"
 refine⟨kvs,h1,fun kv hkv=>?_,by omega,fun l us ks hl0 hp hs hu=>?_⟩
 ·have:kv.1∈ss.map Tm.key:=by rw[← hD.keys];exact List.mem_map_of_mem hkv
  obtain⟨s,_,e⟩:=List.mem_map.mp this
  rw[← e];exact⟨s.key_all,s.key_ne⟩
 rw[hD.keys] at hp
 obtain⟨os,rfl,on,om⟩:=perm_keys hp hn
 have lo:os.length=ss.length:=by have:=hp.length_eq;rw[List.length_map,List.length_map] at this;exact this
 have lu:=Paired.length hu
 rw[List.length_map] at lu
 refine⟨⟨_,SqL.of upd_same⟩,fun acc hacc=>?_⟩
 have S1:Same H1 (upd H1 l (.lst us)):=same_new hl0 _
 refine lcW_list (xs:=us) (fun i ys H'=>Same (upd H1 l (.lst us)) H'∧H' acc=some (.lst ys)∧Paired (IsT K H) ys (os.take i)) ⟨same_new hacc _,upd_same,.nil⟩ (fun i ys H' hi ⟨e,h,hy⟩=>⟨h,?_,SqL.of (e _ _ upd_same)⟩) (fun i x ys H' hx ⟨e,h,hy⟩ C' hC'=>?_) (fun ys H' ⟨e,h,hy⟩=>?_)
 ·have:=Paired.length hy
  rw[List.length_take] at this
  exact small1M (by omega)
 ·obtain⟨kk,hk,b,rfl,hb⟩:=paired_get hu hx
  rw[List.getElem?_map] at hk
  cases ho:os[i]? with
  | none=>rw[ho] at hk;cases hk
  | some o =>
  rw[ho] at hk
  cases hk
  have hom:o∈ss:=(om o).mp (List.mem_of_getElem? ho)
  obtain⟨v,hv,hvT⟩:=hD.val hom
  walk_at "rdx_1"
  have E:=S1.trans e
  refine⟨wk_head,v,hv▸DGet.t (k:=o.key) (E _ _ h1) (E _ _ hb),?_⟩
  refine hC' _ _ h ⟨e.write hacc,upd_same,?_⟩
  rw[List.take_add_one,ho]
  exact paired_app hy (.cons hvT .nil)
 ·rw[lu,List.take_length] at hy
  have E:=(e1.trans S1).trans e
  refine q acc H' ys os E ((e1.trans S1).free hacc) h (paired_keepT E.keepT hy) on (fun t=>(om t).trans (hm t)) ?_
  rw[List.pairwise_map] at hs
  exact hs.imp fun z=>by rw[Tm.keyS,Tm.keyS] at z;exact z
end
noncomputable abbrev s_be0:Stmt:=top 12
theorem sc_be0:FnScope ["statement","word","other","of_simple","of_pair"] ["statement","word","other"] (defScope s_be0):=⟨rfl,rfl,rfl,by decide +kernel,rfl,by decide +kernel,by decide +kernel⟩
noncomputable abbrev s_placed_of_simple:Stmt:=inDef s_be0 0
theorem sc_placed_of_simple:FnScopeC ["piece","other","word"] ["piece"] ["other","word"] (defScope s_placed_of_simple):=⟨rfl,rfl,rfl,by decide +kernel,rfl,by decide +kernel,by decide +kernel,by decide +kernel⟩
noncomputable abbrev q_placed_of_simple:Str:=("placed":Str)++Str.ofString ".<locals>."++"of_simple"
theorem cl_placed_of_simple:∀ y∈(defScope s_placed_of_simple).names,y.2=NameKind.free→(defScope s_be0).names.lookup y.1=some NameKind.cell:=by decide +kernel
noncomputable abbrev s_placed_of_pair:Stmt:=inDef s_be0 1
theorem sc_placed_of_pair:FnScopeC ["kind","first","second"] ["kind","first","second"] [] (defScope s_placed_of_pair):=⟨rfl,rfl,rfl,by decide +kernel,rfl,by decide +kernel,by decide +kernel,by decide +kernel⟩
noncomputable abbrev q_placed_of_pair:Str:=("placed":Str)++Str.ofString ".<locals>."++"of_pair"
theorem cl_placed_of_pair:∀ y∈(defScope s_placed_of_pair).names,y.2=NameKind.free→(defScope s_be0).names.lookup y.1=some NameKind.cell:=by decide +kernel
noncomputable def ds_placed:List (Pos×Str):=[(posOf s_placed_of_simple,q_placed_of_simple),(posOf s_placed_of_pair,q_placed_of_pair)]
section
variable {P:Program} {w:World} {K:PySem.W.Frag} {mg:Str→Option Value} {base:Heap}
theorem ok_placed_of_simple {k:Nat} {cl:List (Str×Addr)} {f:Addr} {fd:FuncData} (F:FunC K "of_simple" q_placed_of_simple s_placed_of_simple cl f fd) {ov:V} {x:Str} {o:Tm} (C:Caught K (defScope s_placed_of_simple) cl ["other","word"] [ov,.str x]) (hx:Word x) :
  FnOk P w K mg base CX0 (k+1) f fd ["piece"] (sp_of1H K (fun H=>IsT K H ov o) fun H t v=>IsT K H v (t.sub x o)):=by
 refine F.ok sc_placed_of_simple C (fun vs H Q E h=>?_) (fun cdv A outer s H vs Q E hr h=>?_)
 ·obtain⟨v,t,rfl,_⟩:=h
  rfl
 obtain⟨v,t,rfl,hj,hT,hk,hok,q⟩:=h
 refine⟨_,(pss_one (ps_ret (pe_ifExp (pt_cmpRM (op_eqD (hu_150 hr)) (pvM 0) (pe_tup (pa_cons pe_str (pa_cons (pvM 2) pa_nil))) (nomark _)) (pvM 1) (pvM 0)))),?_⟩
 walk_at "rdx_1"
 refine⟨by decide,fun p hp=>?_⟩
 have s1:Same H (upd H p (.tup [.str "letter",.str x])):=same_new hp _
 have hl:IsT K (upd H p (.tup [.str "letter",.str x])) (.ref p) (.ltr x):=isT_ltr.mpr ⟨p,rfl,.inl (.inl upd_same)⟩
 refine⟨t.data,hT.keep s1.keepT,(Tm.ltr x).data,hl,t.lay hok,(Tm.ltr x).lay hx,by rw[Tm.depth,Tm.depth];show min _ 1≤150;omega,?_⟩
 cases t with
 | low =>
  rw[if_neg Bool.false_ne_true,Tm.eqv,if_neg (by simp)]
  exact q _ _ s1 (hT.keep s1.keepT)
 | ltr y =>
  by_cases e:y=x
  ·subst e
   rw[if_neg Bool.false_ne_true,Tm.eqv,if_pos (by simp)]
   refine q _ _ s1 ?_
   show IsT K _ ov (if y=y then o else .ltr y)
   rw[if_pos rfl]
   exact hj.keep s1.keepT
  ·rw[if_neg Bool.false_ne_true,Tm.eqv,if_neg (by simpa using e)]
   refine q _ _ s1 ?_
   show IsT K _ v (if y=x then o else .ltr y)
   rw[if_neg e]
   exact hT.keep s1.keepT
 | nd kd a b=>cases hk
theorem ok_placed_of_pair {k B:Nat} {cl:List (Str×Addr)} {f:Addr} {fd:FuncData} (F:FunC K "of_pair" q_placed_of_pair s_placed_of_pair cl f fd) {J:Hp→Prop} {x:Str} {o:Tm} (C:Caught K (defScope s_placed_of_pair) cl [] []) :
  FnOk P w K mg base CX0 (k+1) f fd ["kind","first","second"] (sp_of2H J (fun H t v=>IsT K H v (t.sub x o)) B):=by
 refine F.ok sc_placed_of_pair C (fun vs H Q E h=>?_) (fun cdv A outer s H vs Q E hr h=>?_)
 ·obtain⟨_,_,_,_,_,rfl,_⟩:=h
  rfl
 obtain⟨kd,a,b,va,vb,rfl,hj,ha,hb,hB,q⟩:=h
 refine⟨_,(pss_one (ps_ret (pe_tup (pa_cons (pvM 0) (pa_cons (pvM 1) (pa_cons (pvM 2) pa_nil)))))),?_⟩
 walk_at "rdx_1"
 refine⟨by decide,fun p hp=>?_⟩
 have s1:=same_new hp (HO.tup [.str kd.str,va,vb])
 exact q _ _ s1 (isT_nd.mpr ⟨p,va,vb,rfl,.inl (.inl upd_same),ha.keep s1.keepT,hb.keep s1.keepT⟩)
end
section
variable {P:Program} {w:World} {K:PySem.W.Frag} {mg:Str→Option Value} {base:Heap}
theorem ok_be0 {j:Nat} {T:Addr} {f_be0:Addr} {fd_be0:FuncData} (F_be0:FunT K "placed" "placed" s_be0 f_be0 fd_be0 T) (hB:∀ h,K.In h→h.BuiltinsAt mg T) (hT:mainGlobals≠T)
  {f_ay0:Addr}{fd_ay0:FuncData}(m_ay0:mg "folded"=some (.ref f_ay0))(k_ay0:PySem.W.keepIn K (.ref f_ay0)=true)(b_ay0:Binds K fd_ay0 ["statement","of_simple","of_pair"] [])
  (GF:∀ (K':PySem.W.Frag) (base:Heap) (J:Hp→Prop) (R:RH) (B:Nat) (f1 f2:Addr) (fd1 fd2:FuncData),KLe K K'→(∀ H H',KeepT K' H H'→J H→J H')→(∀ H H' t v,KeepT K' H H'→R H t v→R H' t v) →
   FnOk P w K' mg base CX0 (j+1) f1 fd1 ["piece"] (sp_of1H K' J R)→PySem.W.keepIn K' (.ref f1)=true→Binds K' fd1 ["piece"] [] →
   FnOk P w K' mg base CX0 (j+1) f2 fd2 ["kind","first","second"] (sp_of2H J R B)→PySem.W.keepIn K' (.ref f2)=true→Binds K' fd2 ["kind","first","second"] [] →
   FnOk P w K' mg base CX0 (j+2) f_ay0 fd_ay0 ["statement","of_simple","of_pair"] (sp_foldedH K' J R B f1 f2)) :
  FnOk P w K mg base CX0 (j+3) f_be0 fd_be0 ["statement","word","other"] (sp_placed K T ds_placed):=by
 refine F_be0.ok sc_be0 (fun vs H Q E h=>?_) (fun c A outer s H vs Q E hC hr h=>?_)
 ·obtain⟨v,t,x,ov,o,rfl,_⟩:=h
  rfl
 obtain⟨v,t,x,ov,o,rfl,hT1,hO,hok,hx,hp,tab,q⟩:=h
 have hix:∀ i∈([1,2]:List Nat),∃ x,(["statement","word","other","of_simple","of_pair"]:List Str)[i]?=some x∧(defScope s_be0).names.lookup x=some .cell∧(fun _:Str=>true) x=true:=by
  intro i hi
  simp only[List.mem_cons,List.not_mem_nil,or_false] at hi
  rcases hi with rfl | rfl
  ·exact⟨"word",rfl,rfl,rfl⟩
  ·exact⟨"other",rfl,rfl,rfl⟩
 refine⟨_,(pss_cons (ps_defS (st:=s_placed_of_simple) (i:=3) (qual:=q_placed_of_simple) (ds:=ds_placed) rfl sc_be0.nd rfl (Or.inl rfl) (closureFor_eq (fun y hy hf=>cell_has (cl_placed_of_simple y hy hf))) rfl hC hB hT rfl (by simp[ds_placed]) (by decide +kernel) rfl rfl rfl)
 (pss_cons (ps_defS (st:=s_placed_of_pair) (i:=4) (qual:=q_placed_of_pair) (ds:=ds_placed) rfl sc_be0.nd rfl (Or.inl rfl) (closureFor_eq (fun y hy hf=>cell_has (cl_placed_of_pair y hy hf))) rfl hC hB hT rfl (by simp[ds_placed]) (by decide +kernel) rfl rfl rfl)
 (pss_one (ps_ret (pe_callG (ix:=[1,2]) hr (by exact rfl) m_ay0 k_ay0 b_ay0 hix (pa_cons (pvM 0) (pa_cons (pvM 3) (pa_cons (pvM 4) pa_nil)))))))),?_⟩
 generalize hX:(cxOf CX0 P w K mg base ["statement","word","other","of_simple","of_pair"] "placed" (defScope s_be0) f_be0 (.ref c) A outer s H E).nox=X
 have eP:X.prog=P:=by rw[← hX];rfl
 have ew:X.w=w:=by rw[← hX];rfl
 have eK:X.K=K:=by rw[← hX];rfl
 have em:X.mg=mg:=by rw[← hX];rfl
 have eN:X.N=(["statement","word","other","of_simple","of_pair"]:List Str):=by rw[← hX];rfl
 have ec:(PyProof.Rows.envOfC "placed" (defScope s_be0) s.heap.objs.size f_be0 (.ref c)).cells=X.env.cells:=by rw[← hX];rfl
 refine seq_then (fun σ' H'=>∃ f1,σ'=[some v,some (.str x),some ov,some (.ref f1),none]∧SameT H H'∧TabOk H' T ds_placed∧FnFz H' f1 "of_simple" q_placed_of_simple (defArgs s_placed_of_simple) (defBody s_placed_of_simple) (defScope s_placed_of_simple) (closL X.env.cells (defScope s_placed_of_simple).names [])) ?_ ?_
 rotate_left
 ·intro C hC'
  exact⟨tab,fun f H' n sm tb fn=>hC' _ _ ⟨f,rfl,sm.toT,tb,ec▸fn⟩⟩
 rintro σ1 H1 ⟨f1,rfl,s1,tb1,fn1⟩
 refine seq_then (fun σ' H'=>∃ f2,σ'=[some v,some (.str x),some ov,some (.ref f1),some (.ref f2)]∧SameT H1 H'∧TabOk H' T ds_placed∧FnFz H' f2 "of_pair" q_placed_of_pair (defArgs s_placed_of_pair) (defBody s_placed_of_pair) (defScope s_placed_of_pair) (closL X.env.cells (defScope s_placed_of_pair).names [])) ?_ ?_
 rotate_left
 ·intro C hC'
  exact⟨tb1,fun f H' n sm tb fn=>hC' _ _ ⟨f,rfl,sm.toT,tb,ec▸fn⟩⟩
 rintro σ2 H2 ⟨f2,rfl,s2,tb2,fn2⟩
 have fn1:=fn1.keep s2
 have s3:=s1.trans s2
 obtain⟨o1,c1,p1,a1,a2,a3,a4,a5⟩:=fn1.objs
 obtain⟨o2,c2,p2,b1,b2,b3,b4,b5⟩:=fn2.objs
 show tCallG X _ _ _ _ [1,2] _ _ _ _
 unfold tCallG
 walk_at "rdx_1"
 refine⟨fun i hi=>?_,[(f1,o1),(c1,p1),(f2,o2),(c2,p2)],?_,fun K' cs ok kle kback hlk hcs=>?_⟩
 ·simp only[List.mem_cons,List.not_mem_nil,or_false] at hi
  rcases hi with rfl | rfl
  ·exact⟨_,rfl⟩
  ·exact⟨_,rfl⟩
 ·intro p hp
  simp only[List.mem_cons,List.not_mem_nil,or_false] at hp
  rcases hp with rfl | rfl | rfl | rfl
  ·exact a1
  ·exact a2
  ·exact b1
  ·exact b2
 have hfz:∀ p∈[(f1,o1),(c1,p1),(f2,o2),(c2,p2)],H2 p.1=some (FZ p.2):=by
  intro p hp
  simp only[List.mem_cons,List.not_mem_nil,or_false] at hp
  rcases hp with rfl | rfl | rfl | rfl
  ·exact a1
  ·exact a2
  ·exact b1
  ·exact b2
 generalize hxs:[(f1,o1),(c1,p1),(f2,o2),(c2,p2)]=xs at hlk hfz kback ⊢
 have mem1:(f1,o1)∈xs∧(c1,p1)∈xs∧(f2,o2)∈xs∧(c2,p2)∈xs:=by rw[← hxs];simp
 have lk:∀ {p:Addr×Obj},p∈xs→K'.lookup p.1=some p.2:=fun hp=>hlk _ (List.mem_append_left _ hp)
 obtain⟨fd1,G1⟩:=a5 K' (lk mem1.1) (lk mem1.2.1)
 obtain⟨fd2,G2⟩:=b5 K' (lk mem1.2.2.1) (lk mem1.2.2.2)
 rw[eK] at kle kback
 have cw:CellIn X K' "word" (.str x)∧CellIn X K' "other" ov∧∀ p∈cs,∀ its n,p.2.data≠.seq its n:=by
  cases hcs with
  | cons h1 r1 =>
   cases r1 with
   | cons h2 r2 =>
    cases r2
    obtain⟨x1,v1,u1,e1,e2,e3,e4,e5⟩:=h1
    obtain⟨x2,v2,u2,g1,g2,g3,g4,g5⟩:=h2
    rw[eN] at e1 g1
    cases e1;cases e2;cases g1;cases g2
    refine⟨⟨_,_,u1,e3,hlk _ (List.mem_append_right _ (by simp)),e4,e5⟩,⟨_,_,u2,g3,hlk _ (List.mem_append_right _ (by simp)),g4,g5⟩,fun p hp its n z=>?_⟩
    simp only[List.mem_cons,List.not_mem_nil,or_false] at hp
    rcases hp with rfl | rfl
    ·rw[e4] at z;cases z
    ·rw[g4] at z;cases z
 have C1:Caught K' (defScope s_placed_of_simple) (closL X.env.cells (defScope s_placed_of_simple).names []) ["other","word"] [ov,.str x] :=
  caught_of ok rfl (by decide +kernel) (by decide +kernel) fun i y u e1 e2=>by
   match i,e1,e2 with
   | 0,e1,e2=>cases e1;cases e2;exact cw.2.1
   | 1,e1,e2=>cases e1;cases e2;exact cw.1
 have C2:Caught K' (defScope s_placed_of_pair) (closL X.env.cells (defScope s_placed_of_pair).names []) [] [] :=
  caught_of ok rfl (by decide +kernel) (by decide +kernel) fun i y u e1 e2=>by simp at e1
 have inn:=sqT_in hfz kle
 refine⟨sp_foldedH K' (fun H=>IsT K' H ov o) (fun H t v=>IsT K' H v (t.sub x o)) 300 f1 f2,fun base'=>?_,?_⟩
 ·rw[eP,ew,em]
  exact GF K' base' _ _ 300 f1 f2 fd1 fd2 kle (fun H H' k h=>h.keep k) (fun H H' t v k h=>h.keep k) (ok_placed_of_simple G1 C1 hx) G1.kp (G1.binds fun _ _ _ _ us hl=>match us,hl with | [_],_=>rfl)
   (ok_placed_of_pair G2 C2) G2.kp (G2.binds fun _ _ _ _ us hl=>match us,hl with | [_,_,_],_=>rfl)
 ·refine⟨v,t,rfl,Dn.moveT inn o.noList (hO.keep (SameT.keepT s3)),Dn.moveT inn t.noList (hT1.keep (SameT.keepT s3)),hok,hp,by decide,fun r H3 e3 hr3 n3=>?_⟩
  have sb:=same_back e3
  refine q _ _ (s3.trans sb.toT) (tb2.keep sb) (Dn.moveT (sqT_out kback (fun p hp=>?_) n3) (Tm.noList _) hr3)
  rcases List.mem_append.mp hp with hp | hp
  ·rw[← hxs] at hp
   simp only[List.mem_cons,List.not_mem_nil,or_false] at hp
   rcases hp with rfl | rfl | rfl | rfl
   ·exact a3
   ·exact a4
   ·exact b3
   ·exact b4
  ·exact cw.2.2 p hp
end
noncomputable abbrev s_ax0:Stmt:=top 13
theorem sc_ax0:FnScope ["statement","found","waiting","part","back"] ["statement"] (defScope s_ax0):=⟨rfl,rfl,rfl,by decide +kernel,rfl,by decide +kernel,by decide +kernel⟩
noncomputable def sumD (ts:List (Tm×Bool)):Nat:=(ts.map fun x=>x.1.parts).sum
theorem sumD_cons (t:Tm×Bool) (ts:List (Tm×Bool)):sumD (t :: ts)=t.1.parts+sumD ts:=by unfold sumD;rw[List.map_cons,List.sum_cons]
theorem len_sumD:∀ ts:List (Tm×Bool),ts.length≤sumD ts
 | []=>Nat.le_refl _
 | t :: ts=>by
  rw[sumD_cons,List.length_cons]
  have:=len_sumD ts
  have:=t.1.parts_pos
  omega
section
variable {P:Program} {w:World} {K:PySem.W.Frag} {mg:Str→Option Value} {base:Heap}
theorem ok_ax0 {k:Nat} {f_ax0:Addr} {fd_ax0:FuncData} (F_ax0:Fun K "directed" "directed" s_ax0 f_ax0 fd_ax0) {aPAIRED:Addr} (m_PAIRED:mg "PAIRED"=some (.ref aPAIRED)) (t_PAIRED:∀ H,SqT K H aPAIRED [.str "both",.str "one",.str "then"]):FnOk P w K mg base CX0 (k+1) f_ax0 fd_ax0 ["statement"] (sp_directed K):=by
 refine F_ax0.ok sc_ax0 (fun vs H Q E h=>?_) (fun cdv A outer s H vs Q E hr h=>?_)
 ·obtain⟨v,t,rfl,_⟩:=h
  rfl
 obtain⟨v,t,rfl,hT,hp,q⟩:=h
 refine⟨_,(pss_cons (ps_set (i:=1) sc_ax0.nd rfl (Or.inl rfl) (pe_lst pa_nil))
 (pss_cons (ps_set (i:=2) sc_ax0.nd rfl (Or.inl rfl) (pe_lst (pa_cons (pe_tup (pa_cons (pvM 0) (pa_cons pe_bl pa_nil))) pa_nil)))
 (pss_cons (ps_while PassesOwn.never (pt_truth (pvM 2) (fun _=>rfl))
  (pss_cons (ps_asg (pe_bm0 PySem.F.plainAttrs_list PySem.F.slot_list_pop PySem.F.type_list_pop mt_pop (pvM 2)) (pg_tup rfl (pgs_cons (pg_name (i:=3) sc_ax0.nd rfl (Or.inl rfl)) (pgs_cons (pg_name (i:=4) sc_ax0.nd rfl (Or.inl rfl)) pgs_nil))))
 (pss_cons (ps_expr (pe_bm PySem.F.plainAttrs_list PySem.F.slot_list_append PySem.F.type_list_append mt_append (pvM 1) (pa_cons (pe_tup (pa_cons (pvM 3) (pa_cons (pvM 4) pa_nil))) pa_nil)))
 (pss_one (ps_if (pt_cmpRM (op_in_seq) (pe_ix ix_tup (pvM 3) pe_int (fun _ _=>rfl)) (pe_glob (v:=.ref aPAIRED) (by exact rfl) m_PAIRED (by exact rfl)) (by with_unfolding_all rfl))
  (pss_cons (ps_expr (pe_bm PySem.F.plainAttrs_list PySem.F.slot_list_append PySem.F.type_list_append mt_append (pvM 2) (pa_cons (pe_tup (pa_cons (pe_ix ix_tup (pvM 3) pe_int (fun _ _=>rfl)) (pa_cons (pvM 4) pa_nil))) pa_nil)))
 (pss_one (ps_expr (pe_bm PySem.F.plainAttrs_list PySem.F.slot_list_append PySem.F.type_list_append mt_append (pvM 2) (pa_cons (pe_tup (pa_cons (pe_ix ix_tup (pvM 3) pe_int (fun _ _=>rfl)) (pa_cons (pe_ifExp (pt_cmpRM (op_eq) (pe_ix ix_tup (pvM 3) pe_int (fun _ _=>rfl)) pe_str (nomark _)) (pe_not (pvM 4)) (pvM 4)) pa_nil))) pa_nil)))))
  pss_nil)))))
 (pss_one (ps_ret (pvM 1)))))),?_⟩
 refine seq_then (fun σ' H'=>∃ lt,σ'=[some v,some (.ref lt),none,none,none]∧Same H H'∧H lt=none∧H' lt=some (.lst [])) ?_ ?_
 rotate_left
 ·intro C hC
  walk_at "rdx_1"
  exact⟨by decide,fun lt hlt=>hC _ _ ⟨lt,rfl,same_new hlt _,hlt,upd_same⟩⟩
 rintro σ0 H0 ⟨lt,rfl,e0,hlt,h0⟩
 refine seq_then (fun σ' H'=>∃ lw z,σ'=[some v,some (.ref lt),some (.ref lw),none,none]∧Same H H'∧H lw=none∧lw≠lt∧H' lt=some (.lst [])∧H' lw=some (.lst [z])∧IsD K H' z (t,false)) ?_ ?_
 rotate_left
 ·intro C hC
  walk_at "rdx_1"
  refine⟨by decide,fun p hp=>⟨by decide,fun lw hlw=>?_⟩⟩
  have s1:=same_new hp (HO.tup [v,V.bl false])
  have s2:=same_new hlw (HO.lst [V.ref p])
  have S:=s1.trans s2
  have l0:H0 lw=none:=s1.free hlw
  exact hC _ _ ⟨lw,.ref p,rfl,e0.trans S,e0.free l0,(fun z=>by rw[z,h0] at l0;cases l0),S _ _ h0,upd_same,p,v,rfl,s2.sqt (.inl (.inl upd_same)),(hT.keep e0.keepT).keep S.keepT⟩
 rintro σ1 H1 ⟨lw,z,rfl,e1,hlw,hne,h1t,h1w,hz⟩
 refine seq_then (fun σ' H'=>∃ x3 x4 us,σ'=[some v,some (.ref lt),some (.ref lw),x3,x4]∧Same H H'∧H' lt=some (.lst us)∧Paired (IsD K H') us (t.dirs false)) ?_ ?_
 rotate_left
 ·intro C hC
  walk_at "rdx_1"
  refine⟨fun m σ' H'=>∃ (st:List V) (ts:List (Tm×Bool)) (us:List V) (ds:List (Tm×Bool)) (x3 x4:Option V),m=sumD ts∧σ'=[some v,some (.ref lt),some (.ref lw),x3,x4]∧Same H H'∧H' lt=some (.lst us)∧H' lw=some (.lst st.reverse)∧Paired (IsD K H') st ts∧Paired (IsD K H') us ds∧ds++ts.flatMap dirsP=t.dirs false∧us.length+sumD ts≤400,
   ⟨_,[z],[(t,false)],[],[],none,none,rfl,rfl,e1,h1t,h1w,.cons hz .nil,.nil,?_,?_⟩,?_⟩
  ·show []++(t.dirs false++[])=t.dirs false
   simp
  ·show 0+(t.parts+0)≤400
   omega
  rintro m σ2 H2 ⟨st,ts,us,ds,x3,x4,rfl,rfl,e2,h2t,h2w,hd,hu,ht,hn⟩
  walk_at "rdx_1"
  refine⟨!st.reverse.isEmpty,.inl ⟨_,SqL.of h2w,rfl⟩,?_⟩
  cases hd with
  | nil =>
   rw[if_neg (by decide)]
   rw[List.flatMap_nil,List.append_nil] at ht
   rw[ht] at hu
   exact hC _ _ ⟨x3,x4,us,rfl,e2,h2t,hu⟩
  | @cons u i st is hi hst =>
   have hrev:(u :: st).reverse=st.reverse++[u]:=List.reverse_cons
   rw[if_pos (by rw[hrev];simp)]
   refine⟨_,fun σ' H' z=>z,?_⟩
   rw[hrev] at h2w
   obtain⟨tt,dd⟩:=i
   obtain⟨pu,tv,rfl,hs,hT2⟩:=hi
   refine⟨.inl ⟨rfl,_,SqL.of h2w⟩,_,h2w,.ref pu,by simp,?_⟩
   rw[List.dropLast_concat]
   rw[sumD_cons] at hn
   have pp:=tt.parts_pos
   have l3:=len_sumD is
   have l2:=Paired.length hst
   have ne1:lt≠lw:=Ne.symm hne
   have k1:KeepT K H2 (upd H2 lw (.lst st.reverse)):=keepT_lst h2w
   have e3:Same H (upd H2 lw (.lst st.reverse)):=e2.write hlw
   have h3t:upd H2 lw (.lst st.reverse) lt=some (.lst us):=by rw[upd_ne ne1];exact h2t
   have h3w:upd H2 lw (.lst st.reverse) lw=some (.lst st.reverse):=upd_same
   have hst3:=Paired.mapP hst fun _ _ z=>IsD.keep k1 z
   have hu3:=Paired.mapP hu fun _ _ z=>IsD.keep k1 z
   have hT3:=hT2.keep k1
   refine⟨pu,rfl,_,k1 _ _ hs,rfl,_,_,rfl,_,_,rfl,rfl,?_⟩
   generalize upd H2 lw (.lst st.reverse)=H3 at k1 e3 h3t h3w hst3 hu3 hT3 ⊢
   refine⟨.inl ⟨rfl,_,SqL.of h3t⟩,by decide,fun p1 hp1=>?_⟩
   have s1:=same_new hp1 (HO.tup [tv,V.bl dd])
   refine⟨us,s1 _ _ h3t,small1M (by omega),?_⟩
   have k2:KeepT K (upd H3 p1 (.tup [tv,V.bl dd])) (upd (upd H3 p1 (.tup [tv,V.bl dd])) lt (.lst (us++[.ref p1]))):=keepT_lst (s1 _ _ h3t)
   have k3:=s1.keepT (K:=K) |>.trans k2
   have e4:Same H (upd (upd H3 p1 (.tup [tv,V.bl dd])) lt (.lst (us++[.ref p1]))):=(e3.trans s1).write hlt
   have h4t:upd (upd H3 p1 (.tup [tv,V.bl dd])) lt (.lst (us++[.ref p1])) lt=some (.lst (us++[.ref p1])):=upd_same
   have h4w:upd (upd H3 p1 (.tup [tv,V.bl dd])) lt (.lst (us++[.ref p1])) lw=some (.lst st.reverse):=by rw[upd_ne hne];exact s1 _ _ h3w
   have hst4:=Paired.mapP hst3 fun _ _ z=>IsD.keep k3 z
   have hu4:Paired (IsD K (upd (upd H3 p1 (.tup [tv,V.bl dd])) lt (.lst (us++[.ref p1])))) (us++[.ref p1]) (ds++[(tt,dd)]):=paired_app (Paired.mapP hu3 fun _ _ z=>IsD.keep k3 z) (.cons ⟨p1,tv,rfl,k2 _ _ (.inl (.inl upd_same)),hT3.keep k3⟩ .nil)
   have hT4:=hT3.keep k3
   generalize upd (upd H3 p1 (.tup [tv,V.bl dd])) lt (.lst (us++[.ref p1]))=H4 at k2 k3 e4 h4t h4w hst4 hu4 hT4 ⊢
   have hn:us.length+(tt.parts+sumD is)≤400:=hn
   have done:tt.parts=1→kidsD (tt,dd)=[]→∃ m',m' < sumD ((tt,dd) :: is)∧∃ (st':List V) (ts:List (Tm×Bool)),m'=sumD ts∧∃ (us':List V) (ds':List (Tm×Bool)) (x3' x4':Option V),[some v,some (V.ref lt),some (V.ref lw),some tv,some (V.bl dd)]=[some v,some (V.ref lt),some (V.ref lw),x3',x4']∧Same H H4∧H4 lt=some (.lst us')∧H4 lw=some (.lst st'.reverse)∧Paired (IsD K H4) st' ts∧Paired (IsD K H4) us' ds'∧ds'++ts.flatMap dirsP=t.dirs false∧us'.length+sumD ts≤400:=fun h1 hk =>
    ⟨sumD is,by rw[sumD_cons];show _ < tt.parts+_;omega,st,is,rfl,us++[.ref p1],ds++[(tt,dd)],_,_,rfl,e4,h4t,h4w,hst4,hu4,by rw[← ht,List.flatMap_cons,dirs_eq (tt,dd),hk];simp,by rw[List.length_append,List.length_singleton];omega⟩
   cases tt with
   | low =>
    obtain⟨pa,rfl,hsa⟩:=isT_low.mp hT4
    refine⟨pa,rfl,_,hsa,_,rfl,_,.inr (t_PAIRED H4),rfl,rfl,?_⟩
    rw[if_neg (by decide)]
    exact done rfl rfl
   | ltr y =>
    obtain⟨pa,rfl,hsa⟩:=isT_ltr.mp hT4
    refine⟨pa,rfl,_,hsa,_,rfl,_,.inr (t_PAIRED H4),rfl,rfl,?_⟩
    rw[if_neg (by decide)]
    exact done rfl rfl
   | nd kd a b =>
    obtain⟨pa,va,vb,rfl,hsa,ha,hb⟩:=isT_nd.mp hT4
    refine⟨pa,rfl,_,hsa,_,rfl,_,.inr (t_PAIRED H4),rfl,rfl,?_⟩
    rw[if_pos (by cases kd<;>decide)]
    have hn:us.length+(1+a.parts+b.parts+sumD is)≤400:=hn
    refine⟨.inl ⟨rfl,_,SqL.of h4w⟩,pa,rfl,_,hsa,vb,rfl,by decide,fun p2 hp2=>?_⟩
    have s2:=same_new hp2 (HO.tup [vb,V.bl dd])
    refine⟨st.reverse,s2 _ _ h4w,small1M (by rw[List.length_reverse];omega),?_⟩
    have k4:KeepT K (upd H4 p2 (.tup [vb,V.bl dd])) (upd (upd H4 p2 (.tup [vb,V.bl dd])) lw (.lst (st.reverse++[.ref p2]))):=keepT_lst (s2 _ _ h4w)
    have k5:=s2.keepT (K:=K) |>.trans k4
    have e5:Same H (upd (upd H4 p2 (.tup [vb,V.bl dd])) lw (.lst (st.reverse++[.ref p2]))):=(e4.trans s2).write hlw
    have h5t:upd (upd H4 p2 (.tup [vb,V.bl dd])) lw (.lst (st.reverse++[.ref p2])) lt=some (.lst (us++[.ref p1])):=by rw[upd_ne ne1];exact s2 _ _ h4t
    have h5w:upd (upd H4 p2 (.tup [vb,V.bl dd])) lw (.lst (st.reverse++[.ref p2])) lw=some (.lst (st.reverse++[.ref p2])):=upd_same
    have hst5:Paired (IsD K (upd (upd H4 p2 (.tup [vb,V.bl dd])) lw (.lst (st.reverse++[.ref p2])))) (.ref p2 :: st) ((b,dd) :: is):=.cons ⟨p2,vb,rfl,k4 _ _ (.inl (.inl upd_same)),hb.keep k5⟩ (Paired.mapP hst4 fun _ _ z=>IsD.keep k5 z)
    have hu5:=Paired.mapP hu4 fun _ _ z=>IsD.keep k5 z
    have ha5:=ha.keep k5
    have hs5:=k5 _ _ hsa
    show tyV K "list" (V.ref lw) (upd (upd H4 p2 (HO.tup [vb,V.bl dd])) lw (HO.lst (st.reverse++[V.ref p2])))∧_
    generalize upd (upd H4 p2 (.tup [vb,V.bl dd])) lw (.lst (st.reverse++[.ref p2]))=H5 at e5 h5t h5w hst5 hu5 ha5 hs5 ⊢
    refine⟨.inl ⟨rfl,_,SqL.of h5w⟩,pa,rfl,_,hs5,va,rfl,pa,rfl,_,hs5,_,rfl,rfl,?_⟩
    have fin:∀ d',d'=(if kd=.thn then !dd else dd)→∀ p3,H5 p3=none→∃ x6,upd H5 p3 (.tup [va,V.bl d']) lw=some (.lst x6)∧x6.length < sizeLine∧∃ m',m' < sumD ((Tm.nd kd a b,dd) :: is)∧∃ (st':List V) (ts:List (Tm×Bool)),m'=sumD ts∧∃ (us':List V) (ds':List (Tm×Bool)) (x3' x4':Option V),[some v,some (V.ref lt),some (V.ref lw),some (V.ref pa),some (V.bl dd)]=[some v,some (V.ref lt),some (V.ref lw),x3',x4']∧Same H (upd (upd H5 p3 (.tup [va,V.bl d'])) lw (.lst (x6++[.ref p3])))∧upd (upd H5 p3 (.tup [va,V.bl d'])) lw (.lst (x6++[.ref p3])) lt=some (.lst us')∧upd (upd H5 p3 (.tup [va,V.bl d'])) lw (.lst (x6++[.ref p3])) lw=some (.lst st'.reverse)∧Paired (IsD K (upd (upd H5 p3 (.tup [va,V.bl d'])) lw (.lst (x6++[.ref p3])))) st' ts∧Paired (IsD K (upd (upd H5 p3 (.tup [va,V.bl d'])) lw (.lst (x6++[.ref p3])))) us' ds'∧ds'++ts.flatMap dirsP=t.dirs false∧us'.length+sumD ts≤400:=fun d' hd' p3 hp3=>by
     have s3:=same_new hp3 (HO.tup [va,V.bl d'])
     have k6:KeepT K (upd H5 p3 (.tup [va,V.bl d'])) (upd (upd H5 p3 (.tup [va,V.bl d'])) lw (.lst ((st.reverse++[.ref p2])++[.ref p3]))):=keepT_lst (s3 _ _ h5w)
     have k7:=s3.keepT (K:=K) |>.trans k6
     refine⟨_,s3 _ _ h5w,small1M (by rw[List.length_append,List.length_reverse,List.length_singleton];omega),sumD ((a,d') :: (b,dd) :: is),?_,.ref p3 :: .ref p2 :: st,(a,d') :: (b,dd) :: is,rfl,us++[.ref p1],ds++[(Tm.nd kd a b,dd)],_,_,rfl,(e5.trans s3).write hlw,by rw[upd_ne ne1];exact s3 _ _ h5t,by rw[upd_same];simp,.cons ⟨p3,va,rfl,k6 _ _ (.inl (.inl upd_same)),ha5.keep k7⟩ (Paired.mapP hst5 fun _ _ z=>IsD.keep k7 z),Paired.mapP hu5 fun _ _ z=>IsD.keep k7 z,?_,?_⟩
     ·rw[sumD_cons,sumD_cons,sumD_cons];show a.parts+(b.parts+_) < (1+a.parts+b.parts)+_;omega
     ·rw[← ht,List.flatMap_cons,List.flatMap_cons,List.flatMap_cons,dirs_eq (Tm.nd kd a b,dd),hd']
      show _=ds++((_ :: ([(a,if kd=.thn then !dd else dd),(b,dd)].flatMap dirsP))++_)
      simp
     ·rw[List.length_append,List.length_singleton,sumD_cons,sumD_cons];show us.length+1+(a.parts+(b.parts+_))≤400;omega
    by_cases hk:kd=.thn
    ·rw[if_pos (by rw[hk];rfl)]
     exact⟨dd,rfl,by decide,fin _ (by rw[if_pos hk])⟩
    ·rw[if_neg (by intro z;exact hk (Kd.str_inj (V.str.inj z)))]
     exact⟨by decide,fin _ (by rw[if_neg hk])⟩
 rintro σ3 H3 ⟨x3,x4,us,rfl,e3,h3,hu⟩
 walk_at "rdx_1"
 exact q lt H3 us e3 hlt h3 hu
end
noncomputable abbrev s_aw0:Stmt:=top 6
theorem sc_aw0:FnScope ["one","other","waiting","first","second"] ["one","other"] (defScope s_aw0):=⟨rfl,rfl,rfl,by decide +kernel,rfl,by decide +kernel,by decide +kernel⟩
section
variable {P:Program} {w:World} {K:PySem.W.Frag} {mg:Str→Option Value} {base:Heap}
theorem ok_aw0 {k:Nat} {f_aw0:Addr} {fd_aw0:FuncData} (F_aw0:Fun K "compared" "compared" s_aw0 f_aw0 fd_aw0) {aPAIRED:Addr} (m_PAIRED:mg "PAIRED"=some (.ref aPAIRED)) (t_PAIRED:∀ H,SqT K H aPAIRED [.str "both",.str "one",.str "then"]):FnOk P w K mg base CX0 (k+1) f_aw0 fd_aw0 ["one","other"] (sp_compared K):=by
 refine F_aw0.ok sc_aw0 (fun vs H Q E h=>?_) (fun cdv A outer s H vs Q E hr h=>?_)
 ·obtain⟨v,u,a,b,rfl,_⟩:=h
  rfl
 obtain⟨v,u,a,b,rfl,hv,hu,oa,ob,hp,q⟩:=h
 refine⟨_,(pss_cons (ps_set (i:=2) sc_aw0.nd rfl (Or.inl rfl) (pe_lst (pa_cons (pe_tup (pa_cons (pvM 0) (pa_cons (pvM 1) pa_nil))) pa_nil)))
 (pss_cons (ps_while PassesOwn.never (pt_truth (pvM 2) (fun _=>rfl))
  (pss_cons (ps_asg (pe_bm0 PySem.F.plainAttrs_list PySem.F.slot_list_pop PySem.F.type_list_pop mt_pop (pvM 2)) (pg_tup rfl (pgs_cons (pg_name (i:=3) sc_aw0.nd rfl (Or.inl rfl)) (pgs_cons (pg_name (i:=4) sc_aw0.nd rfl (Or.inl rfl)) pgs_nil))))
 (pss_cons (ps_if (pt_cmpRM (op_ne) (pe_ix ix_tup (pvM 3) pe_int (fun _ _=>rfl)) (pe_ix ix_tup (pvM 4) pe_int (fun _ _=>rfl)) (nomark _))
  (pss_one (ps_ret (pe_ifExp (pt_cmpRM (op_lt_str) (pe_ix ix_tup (pvM 3) pe_int (fun _ _=>rfl)) (pe_ix ix_tup (pvM 4) pe_int (fun _ _=>rfl)) (nomark _)) (pe_un un_neg pe_int) pe_int)))
  pss_nil)
 (pss_one (ps_if (pt_cmpRM (op_in_seq) (pe_ix ix_tup (pvM 3) pe_int (fun _ _=>rfl)) (pe_glob (v:=.ref aPAIRED) (by exact rfl) m_PAIRED (by exact rfl)) (by with_unfolding_all rfl))
  (pss_cons (ps_expr (pe_bm PySem.F.plainAttrs_list PySem.F.slot_list_append PySem.F.type_list_append mt_append (pvM 2) (pa_cons (pe_tup (pa_cons (pe_ix ix_tup (pvM 3) pe_int (fun _ _=>rfl)) (pa_cons (pe_ix ix_tup (pvM 4) pe_int (fun _ _=>rfl)) pa_nil))) pa_nil)))
 (pss_one (ps_expr (pe_bm PySem.F.plainAttrs_list PySem.F.slot_list_append PySem.F.type_list_append mt_append (pvM 2) (pa_cons (pe_tup (pa_cons (pe_ix ix_tup (pvM 3) pe_int (fun _ _=>rfl)) (pa_cons (pe_ix ix_tup (pvM 4) pe_int (fun _ _=>rfl)) pa_nil))) pa_nil)))))
  (pss_one (ps_if (pt_cmpRM (op_neD (hu_150 hr)) (pvM 3) (pvM 4) (nomark _))
  (pss_one (ps_ret (pe_ifExp (pt_cmpRM (op_ltS (Nat.lt_of_succ_lt (hu_of hr))) (pvM 3) (pvM 4) (nomark _)) (pe_un un_neg pe_int) pe_int)))
  pss_nil)))))))
 (pss_one (ps_ret pe_int)))),?_⟩
 refine seq_then (fun σ' H'=>∃ l z,σ'=[some v,some u,some (.ref l),none,none]∧Same H H'∧H l=none∧H' l=some (.lst [z])∧IsP K H' z (a,b)) ?_ ?_
 rotate_left
 ·intro C hC
  walk_at "rdx_1"
  refine⟨by decide,fun p hp=>⟨by decide,fun p1 hp1=>?_⟩⟩
  have s1:=same_new hp (HO.tup [v,u])
  have s2:=same_new hp1 (HO.lst [V.ref p])
  have S:=s1.trans s2
  exact hC _ _ ⟨p1,.ref p,rfl,S,s1.free hp1,upd_same,p,v,u,rfl,s2.sqt (.inl (.inl upd_same)),hv.keep S.keepT,hu.keep S.keepT⟩
 rintro σ1 H1 ⟨l,z,rfl,e1,f1,h1,hz⟩
 walk_at "rdx_1"
 refine⟨fun m σ' H'=>∃ (x3 x4:Option V) (zs:List V) (ps:List (Tm×Tm)),m=sumF ps∧σ'=[some v,some u,some (.ref l),x3,x4]∧Same H H'∧H' l=some (.lst zs)∧Paired (IsP K H') zs ps.reverse∧CmpI a b ps∧(∀ p∈ps,p.1.ok∧p.2.ok)∧sumF ps≤400,
  ⟨_,none,none,[z],[(a,b)],rfl,rfl,e1,h1,.cons hz .nil,CmpI.start a b,fun p hp=>by rw[List.mem_singleton.mp hp];exact⟨oa,ob⟩,?_⟩,?_⟩
 ·rw[sumF_cons];show a.parts+0≤400;omega
 rintro m σ2 H2 ⟨x3,x4,zs,ps,rfl,rfl,e2,h2,hzs,hI,hok,hsum⟩
 walk_at "rdx_1"
 refine⟨!zs.isEmpty,.inl ⟨zs,SqL.of h2,rfl⟩,?_⟩
 cases ps with
 | nil =>
  cases hzs
  rw[if_neg (by decide)]
  have:=hI.done
  have q0:=q _ e2
  rw[this] at q0
  exact q0
 | cons pr ps =>
  obtain⟨t1,t2⟩:=pr
  rw[List.reverse_cons] at hzs
  obtain⟨zs',z',rfl,hzs',q',x,y,rfl,hq',hx,hy⟩:=paired_snocK hzs
  rw[if_pos (by cases zs'<;>rfl)]
  have lz:=Paired.length hzs'
  rw[List.length_reverse] at lz
  rw[sumF_cons] at hsum
  have lps:=len_sumF ps
  have hok1:=hok (t1,t2) List.mem_cons_self
  have hok2:∀ p∈ps,p.1.ok∧p.2.ok:=fun p hp=>hok p (List.mem_cons_of_mem _ hp)
  refine⟨_,fun σ' H' z=>z,?_⟩
  refine⟨.inl ⟨rfl,_,SqL.of h2⟩,_,h2,.ref q',by simp,?_⟩
  rw[List.dropLast_concat]
  have k1:KeepT K H2 (upd H2 l (.lst zs')):=keepT_lst h2
  have hx':=hx.keep k1
  have hy':=hy.keep k1
  have hl3:upd H2 l (.lst zs') l=some (.lst zs'):=upd_same
  have e3:Same H (upd H2 l (.lst zs')):=e2.write f1
  have hzs3:Paired (IsP K (upd H2 l (.lst zs'))) zs' ps.reverse:=Paired.mapP hzs' fun _ _ z=>z.keep k1
  refine⟨q',rfl,_,k1 _ _ hq',rfl,_,_,rfl,_,_,rfl,rfl,?_⟩
  generalize upd H2 l (.lst zs')=H3 at k1 hx' hy' hl3 e3 hzs3 ⊢
  obtain⟨p1,c1,xs1,A1,rfl,hs1,sp1⟩:=isT_head hx'
  obtain⟨p2,c2,xs2,A2,rfl,hs2,sp2⟩:=isT_head hy'
  refine⟨p1,rfl,_,hs1,_,at0 _ _,p2,rfl,_,hs2,_,at0 _ _,rfl,?_⟩
  by_cases hc:c1=c2
  ·subst hc
   rw[if_neg (by simp)]
   have leaf:t1=t2→∃ m',m' < sumF ((t1,t2) :: ps)∧∃ (x3 x4:Option V) (zs:List V) (ps:List (Tm×Tm)),m'=sumF ps∧[some v,some u,some (V.ref l),some (V.ref p1),some (V.ref p2)]=[some v,some u,some (V.ref l),x3,x4]∧Same H H3∧H3 l=some (HO.lst zs)∧Paired (IsP K H3) zs ps.reverse∧CmpI a b ps∧(∀ p∈ps,p.1.ok∧p.2.ok)∧sumF ps≤400:=fun e=>by
    subst e
    have:=t1.parts_pos
    exact⟨sumF ps,by rw[sumF_cons];show _ < t1.parts+_;omega,_,_,zs',ps,rfl,rfl,e3,hl3,hzs3,hI.leaf,hok2,by omega⟩
   refine⟨p1,rfl,_,hs1,_,at0 _ _,_,.inr (t_PAIRED H3),rfl,rfl,?_⟩
   rw[if_neg Bool.false_ne_true]
   cases t1 with
   | low =>
    cases sp1
    rw[if_neg (by decide)]
    cases t2 with
    | low =>
     refine⟨_,hx',_,hy',Tm.lay .low trivial,Tm.lay .low trivial,by decide,?_⟩
     rw[if_pos trivial,Tm.eqv,decide_eq_true rfl,if_neg (by decide)]
     exact leaf rfl
    | ltr y=>cases sp2
    | nd kd x y=>rw[spell_nd] at sp2;cases kd<;>cases sp2
   | ltr x1 =>
    cases sp1
    rw[if_neg (by decide)]
    cases t2 with
    | low=>cases sp2
    | ltr y1 =>
     refine⟨_,hx',_,hy',Tm.lay _ hok1.1,Tm.lay _ hok1.2,by show min 1 1≤150;decide,?_⟩
     rw[if_pos trivial,Tm.eqv]
     by_cases exy:x1=y1
     ·subst exy
      rw[decide_eq_true rfl,if_neg (by decide)]
      exact leaf rfl
     ·rw[decide_eq_false (fun z=>exy (by cases z;rfl)),if_pos (by decide)]
      obtain⟨r1,er1,hr1⟩:=isT_ltr.mp hx'
      obtain⟨r2,er2,hr2⟩:=isT_ltr.mp hy'
      cases er1;cases er2
      have hd:=hI.diffW exy
      have q0:=q _ e3
      refine⟨p1,p2,["letter",x1],["letter",y1],rfl,rfl,hr1,hr2,_,rfl,?_⟩
      rw[hd] at q0
      cases hh:lexT ["letter",x1] ["letter",y1] with
      | true=>rw[hh,if_pos rfl] at q0;rw[if_pos rfl];exact q0
      | false=>rw[hh,if_neg (by decide)] at q0;rw[if_neg (by decide)];exact q0
    | nd kd x y=>rw[spell_nd] at sp2;cases kd<;>cases sp2
   | nd kd x y =>
    rw[spell_nd] at sp1
    cases sp1
    rw[if_pos (by cases kd<;>decide)]
    cases t2 with
    | low=>cases kd<;>cases sp2
    | ltr y1=>cases kd<;>cases sp2
    | nd kd' x' y' =>
     rw[spell_nd] at sp2
     have ek:kd=kd':=by
      have:=(List.cons.inj sp2).1
      cases kd<;>cases kd'<;>first | rfl | (exact absurd this (by decide))
     subst ek
     obtain⟨r1,va,vb,er1,hr1,ha1,hb1⟩:=isT_nd.mp hx'
     obtain⟨r2,va',vb',er2,hr2,ha2,hb2⟩:=isT_nd.mp hy'
     cases er1;cases er2
     have pn:(Tm.nd kd x y).parts=1+x.parts+y.parts:=rfl
     rw[pn] at hsum
     refine⟨.inl ⟨rfl,_,SqL.of hl3⟩,p1,rfl,_,hr1,vb,rfl,p2,rfl,_,hr2,vb',rfl,by decide,fun n1 hn1=>?_⟩
     have s1:=same_new hn1 (HO.tup [vb,vb'])
     have hl4:=s1 _ _ hl3
     refine⟨_,hl4,small1M (by omega),?_⟩
     have k5:KeepT K H3 (upd (upd H3 n1 (HO.tup [vb,vb'])) l (HO.lst (zs'++[V.ref n1]))):=s1.keepT.trans (keepT_lst hl4)
     have hl5:upd (upd H3 n1 (HO.tup [vb,vb'])) l (HO.lst (zs'++[V.ref n1])) l=some (.lst (zs'++[V.ref n1])):=upd_same
     have e5:Same H (upd (upd H3 n1 (HO.tup [vb,vb'])) l (HO.lst (zs'++[V.ref n1]))):=(e3.trans s1).write f1
     have hn5:SqT K (upd (upd H3 n1 (HO.tup [vb,vb'])) l (HO.lst (zs'++[V.ref n1]))) n1 [vb,vb']:=keepT_lst hl4 _ _ (.inl (.inl upd_same))
     generalize upd (upd H3 n1 (HO.tup [vb,vb'])) l (HO.lst (zs'++[V.ref n1]))=H5 at k5 hl5 e5 hn5 ⊢
     refine⟨.inl ⟨rfl,_,SqL.of hl5⟩,p1,rfl,_,k5 _ _ hr1,va,rfl,p2,rfl,_,k5 _ _ hr2,va',rfl,by decide,fun n2 hn2=>?_⟩
     have s2:=same_new hn2 (HO.tup [va,va'])
     have hl6:=s2 _ _ hl5
     have k7:KeepT K H5 (upd (upd H5 n2 (HO.tup [va,va'])) l (HO.lst (zs'++[V.ref n1]++[V.ref n2]))):=s2.keepT.trans (keepT_lst hl6)
     have k37:=k5.trans k7
     refine⟨_,hl6,small1M (by rw[List.length_append,List.length_singleton];omega),sumF ((x,x') :: (y,y') :: ps),?_,_,_,_,(x,x') :: (y,y') :: ps,rfl,rfl,(e5.trans s2).write f1,upd_same,?_,hI.pair,fun p hp=>?_,?_⟩
     ·rw[sumF_cons,sumF_cons,sumF_cons];show x.parts+(y.parts+sumF ps) < (1+x.parts+y.parts)+sumF ps;omega
     ·rw[List.reverse_cons,List.reverse_cons]
      exact paired_app (paired_app (Paired.mapP hzs3 fun _ _ z=>z.keep k37) (.cons ⟨n1,vb,vb',rfl,k7 _ _ hn5,hb1.keep k37,hb2.keep k37⟩ .nil)) (.cons ⟨n2,va,va',rfl,keepT_lst hl6 _ _ (.inl (.inl upd_same)),ha1.keep k37,ha2.keep k37⟩ .nil)
     ·rcases List.mem_cons.mp hp with z | z
      ·rw[z];exact⟨hok1.1.1,hok1.2.1⟩
      ·rcases List.mem_cons.mp z with z | z
       ·rw[z];exact⟨hok1.1.2,hok1.2.2⟩
       ·exact hok2 p z
     ·rw[sumF_cons,sumF_cons];show x.parts+(y.parts+sumF ps)≤400;omega
  ·rw[if_pos (by simpa using hc)]
   refine⟨p1,rfl,_,hs1,_,at0 _ _,p2,rfl,_,hs2,_,at0 _ _,c1,rfl,c2,rfl,?_⟩
   have hd:=hI.diff sp1 sp2 hc
   have q0:=q _ e3
   rw[hd] at q0
   by_cases hh:c1.cps.toList < c2.cps.toList
   ·rw[if_pos hh]
    rw[if_pos (show sLt c1 c2=true from decide_eq_true hh)] at q0
    exact q0
   ·rw[if_neg hh]
    rw[if_neg (show ¬ sLt c1 c2=true from fun z=>hh (of_decide_eq_true z))] at q0
    exact q0
end
noncomputable abbrev s_bd0:Stmt:=top 9
theorem sc_bd0:FnScope ["wishes","statement","least","most","half"] ["wishes","statement"] (defScope s_bd0):=⟨rfl,rfl,rfl,by decide +kernel,rfl,by decide +kernel,by decide +kernel⟩
noncomputable abbrev s_ba0:Stmt:=top 10
theorem sc_ba0:FnScope ["wishes","some","told","statement","at"] ["wishes","some"] (defScope s_ba0):=⟨rfl,rfl,rfl,by decide +kernel,rfl,by decide +kernel,by decide +kernel⟩
theorem paired_drop {α β:Type} {F:α→β→Prop}:∀ {l:List α} {m:List β},Paired F l m→∀ n,Paired F (l.drop n) (m.drop n)
 | _,_,.nil,n=>by rw[List.drop_nil,List.drop_nil];exact .nil
 | _,_,.cons h t,0=>.cons h t
 | _,_,.cons h t,n+1=>paired_drop t n
section
variable {P:Program} {w:World} {K:PySem.W.Frag} {mg:Str→Option Value} {base:Heap}
theorem ok_bd0 {k:Nat} {f_bd0:Addr} {fd_bd0:FuncData} (F_bd0:Fun K "place" "place" s_bd0 f_bd0 fd_bd0) {f_aw0:Addr} {fd_aw0:FuncData} (G_aw0:FnOk P w K mg base CX0 k f_aw0 fd_aw0 ["one","other"] (sp_compared K)) (m_aw0:mg "compared"=some (.ref f_aw0)) (k_aw0:PySem.W.keepIn K (.ref f_aw0)=true) (b_aw0:Binds K fd_aw0 ["one","other"] []) (m_len:mg "len"=none):FnOk P w K mg base CX0 (k+1) f_bd0 fd_bd0 ["wishes","statement"] (sp_place K):=by
 refine F_bd0.ok sc_bd0 (fun vs H Q E h=>?_) (fun cdv A outer s H vs Q E hr h=>?_)
 ·obtain⟨a,v,ws,t,rfl,_⟩:=h
  rfl
 obtain⟨a,v,ws,t,rfl,hW,hT,hok,ht,hl,q⟩:=h
 refine⟨_,(pss_cons (ps_set (i:=2) sc_bd0.nd rfl (Or.inl rfl) pe_int)
 (pss_cons (ps_set (i:=3) sc_bd0.nd rfl (Or.inl rfl) (pe_callB call_len_seq (by exact rfl) m_len Ken.boot_len (pa_cons (pvM 0) pa_nil)))
 (pss_cons (ps_while PassesOwn.never (pt_cmpRM (op_ltM) (pvM 2) (pvM 3) (nomark _))
  (pss_cons (ps_set (i:=4) sc_bd0.nd rfl (Or.inl rfl) (pe_op op_fdivM (pe_op op_addM (pvM 2) (pvM 3)) pe_int))
 (pss_one (ps_if (pt_cmpRM (op_ltM) (pe_call G_aw0 hr (by exact rfl) m_aw0 k_aw0 b_aw0 .nil pass0 (pa_cons (pe_ix ix_list (pvM 0) (pvM 4) (fun _ _=>rfl)) (pa_cons (pvM 1) pa_nil))) pe_int (nomark _))
  (pss_one (ps_set (i:=2) sc_bd0.nd rfl (Or.inl rfl) (pe_op op_addM (pvM 4) pe_int)))
  (pss_one (ps_set (i:=3) sc_bd0.nd rfl (Or.inl rfl) (pvM 4)))))))
 (pss_one (ps_ret (pvM 2)))))),?_⟩
 walk_at "rdx_1"
 obtain⟨⟨us,ha,hU⟩,hR⟩:=hW
 have lu:=Paired.length hU
 refine⟨us,.inl (SqL.of ha),?_⟩
 refine⟨fun m σ' H'=>∃ (lo hi:Nat) (x4:Option V),m=hi - lo∧σ'=[some (.ref a),some v,some (.int (lo:Nat)),some (.int (hi:Nat)),x4]∧Same H H'∧lo≤hi∧hi≤ws.length∧(∀ i x,i < lo→ws[i]?=some x→ltT x t=true)∧(∀ i x,hi≤i→ws[i]?=some x→ltT x t=false),
  ⟨_,0,us.length,none,rfl,rfl,Same.refl _,Nat.zero_le _,by omega,fun i x h=>absurd h (Nat.not_lt_zero _),fun i x h hx=>absurd (List.getElem?_eq_some_iff.mp hx).1 (by omega)⟩,?_⟩
 rintro m σ1 H1 ⟨lo,hi,x4,rfl,rfl,e1,h1,h2,g1,g2⟩
 walk_at "rdx_1"
 by_cases hlt:lo < hi
 ·rw[if_pos (by omega)]
  refine⟨_,fun σ' H' z=>z,?_⟩
  have eh:((lo:Int)+(hi:Int)) / 2=(((lo+hi) / 2:Nat):Int):=by omega
  have hh:(lo+hi) / 2 < us.length:=by omega
  obtain⟨x,hx,hxT⟩:=paired_get hU (List.getElem?_eq_getElem hh)
  have mx:=List.mem_of_getElem? hx
  refine⟨⟨by decide,by decide⟩,?_⟩
  rw[eh]
  refine⟨us,SqL.of (e1 _ _ ha),_,atI_nat (List.getElem?_eq_getElem hh),_,v,x,t,rfl,hxT.keep e1.keepT,hT.keep e1.keepT,(hok x mx).1,ht,by have:=(hok x mx).2;omega,fun H2 e2=>⟨_,rfl,?_⟩⟩
  by_cases hc:cmpT x t < 0
  ·rw[if_pos hc]
   have hl':=(cmp_lt x t).mp hc
   refine⟨hi - ((lo+hi) / 2+1),by omega,(lo+hi) / 2+1,hi,rfl,_,by rfl,e1.trans e2,by omega,h2,fun i y hi' hy=>?_,g2⟩
   obtain⟨a1,b1⟩:=List.getElem?_eq_some_iff.mp hy
   obtain⟨a2,b2⟩:=List.getElem?_eq_some_iff.mp hx
   by_cases ei:i=(lo+hi) / 2
   ·subst ei;rw[hx] at hy;cases hy;exact hl'
   ·have:=List.pairwise_iff_getElem.mp hR i ((lo+hi) / 2) a1 a2 (by omega)
    rw[b1,b2] at this
    exact lexT_trans this hl'
  ·rw[if_neg hc]
   have hl':ltT x t=false:=by
    cases z:ltT x t with
    | false=>rfl
    | true=>exact absurd ((cmp_lt x t).mpr z) hc
   refine⟨(lo+hi) / 2 - lo,by omega,lo,(lo+hi) / 2,rfl,_,rfl,e1.trans e2,by omega,by omega,g1,fun i y hi' hy=>?_⟩
   obtain⟨a1,b1⟩:=List.getElem?_eq_some_iff.mp hy
   obtain⟨a2,b2⟩:=List.getElem?_eq_some_iff.mp hx
   by_cases ei:i=(lo+hi) / 2
   ·subst ei;rw[hx] at hy;cases hy;exact hl'
   ·have:=List.pairwise_iff_getElem.mp hR ((lo+hi) / 2) i a2 a1 (by omega)
    rw[b1,b2] at this
    cases z:ltT y t with
    | false=>rfl
    | true=>have w:=lexT_trans this z;unfold ltT at hl';rw[w] at hl';cases hl'
 ·rw[if_neg (by omega)]
  have:lo=hi:=by omega
  subst this
  have ep:=plc_eq (t:=t) hR h2 g1 g2
  have q0:=q _ e1
  rw[ep] at q0
  exact q0
theorem ok_ba0 {k:Nat} {f_ba0:Addr} {fd_ba0:FuncData} (F_ba0:Fun K "more" "more" s_ba0 f_ba0 fd_ba0) {f_bd0:Addr} {fd_bd0:FuncData} (G_bd0:FnOk P w K mg base CX0 k f_bd0 fd_bd0 ["wishes","statement"] (sp_place K)) (m_bd0:mg "place"=some (.ref f_bd0)) (k_bd0:PySem.W.keepIn K (.ref f_bd0)=true) (b_bd0:Binds K fd_bd0 ["wishes","statement"] []) {f_aw0:Addr} {fd_aw0:FuncData} (G_aw0:FnOk P w K mg base CX0 k f_aw0 fd_aw0 ["one","other"] (sp_compared K)) (m_aw0:mg "compared"=some (.ref f_aw0)) (k_aw0:PySem.W.keepIn K (.ref f_aw0)=true) (b_aw0:Binds K fd_aw0 ["one","other"] []) (m_list:mg "list"=none) (m_len:mg "len"=none):FnOk P w K mg base CX0 (k+1) f_ba0 fd_ba0 ["wishes","some"] (sp_more K):=by
 refine F_ba0.ok sc_ba0 (fun vs H Q E h=>?_) (fun cdv A outer s H vs Q E hr h=>?_)
 ·obtain⟨a,b,ws,us,ts,rfl,_⟩:=h
  rfl
 obtain⟨a,b,ws,us,ts,rfl,hW,hb,hT,hok,hok2,hl,q⟩:=h
 refine⟨_,(pss_cons (ps_set (i:=2) sc_ba0.nd rfl (Or.inl rfl) (pe_callTy call_list_of (by exact rfl) m_list Ken.boot_list (pa_cons (pvM 0) pa_nil)))
 (pss_cons (ps_for PassesOwn.never rfl (pi_list (pvM 1)) (pg_name (i:=3) sc_ba0.nd rfl (Or.inl rfl))
  (pss_cons (ps_set (i:=4) sc_ba0.nd rfl (Or.inl rfl) (pe_call G_bd0 hr (by exact rfl) m_bd0 k_bd0 b_bd0 .nil pass0 (pa_cons (pvM 2) (pa_cons (pvM 3) pa_nil))))
 (pss_one (ps_if ((pw_or (pt_cmpRM (op_eq) (pvM 4) (pe_callB call_len_seq (by exact rfl) m_len Ken.boot_len (pa_cons (pvM 2) pa_nil)) (nomark _)) (pw_or1 (pt_cmpRM (op_ne) (pe_call G_aw0 hr (by exact rfl) m_aw0 k_aw0 b_aw0 .nil pass0 (pa_cons (pe_ix ix_list (pvM 2) (pvM 4) (fun _ _=>rfl)) (pa_cons (pvM 3) pa_nil))) pe_int (nomark _))))).pt
  (pss_one (ps_expr (pe_bm PySem.F.plainAttrs_list PySem.F.slot_list_insert PySem.F.type_list_insert mt_insert (pvM 2) (pa_cons (pvM 4) (pa_cons (pvM 3) pa_nil)))))
  pss_nil))))
 (pss_one (ps_ret (pvM 2))))),?_⟩
 refine seq_then (fun σ' H'=>∃ l,σ'=[some (.ref a),some (.ref b),some (.ref l),none,none]∧Same H H'∧H l=none∧IsW K H' l ws) ?_ ?_
 rotate_left
 ·intro C hC
  walk_at "rdx_1"
  obtain⟨⟨vs,ha,hV⟩,hR⟩:=hW
  exact⟨vs,.inl (SqL.of ha),fun l hl'=>hC _ _ ⟨l,rfl,same_new hl' _,hl',⟨_,upd_same,Paired.mapP hV fun _ _ z=>z.keep (keepT_new hl')⟩,hR⟩⟩
 rintro σ1 H1 ⟨l,rfl,e1,f1,hW1⟩
 refine seq_then (fun σ' H'=>∃ x3 x4,σ'=[some (.ref a),some (.ref b),some (.ref l),x3,x4]∧Same H H'∧IsW K H' l (norm (ws++ts))) ?_ ?_
 rotate_left
 ·intro C hC
  walk_at "rdx_2"
  have lt:=Paired.length hT
  refine⟨⟨_,SqL.of (e1 _ _ hb)⟩,?_⟩
  refine for_list (D:={ nx:=C,rt:=Q }) (xs:=us) (fun i σ' H'=>∃ (x3 x4:Option V),σ'=[some (.ref a),some (.ref b),some (.ref l),x3,x4]∧Same H H'∧IsW K H' l (norm (ws++ts.take i))) ⟨none,none,rfl,e1,by
    have:norm (ws++ts.take 0)=ws:=(norm_uniq hW.rise fun x=>by simp).symm
    rw[this];exact hW1⟩ (fun i σ' H' _ ⟨_,_,_,e,_⟩=>SqL.of (e _ _ hb)) (fun i x σ' H' hx hp=>?_) (fun σ' H' ⟨x3,x4,g1,g2,g3⟩=>hC _ _ ⟨x3,x4,g1,g2,by rw[lt,List.take_length] at g3;exact g3⟩)
  obtain⟨x3,x4,rfl,e,hWi⟩:=hp
  obtain⟨t,ht,hxT⟩:=paired_get hT hx
  have mt:=List.mem_of_getElem? ht
  have hN:Okw (norm (ws++ts.take i)):=fun s hs=>by
   rcases List.mem_append.mp (mem_norm.mp hs) with z | z
   ·exact hok s z
   ·exact hok2 s (List.mem_of_mem_take z)
  have hnl:(norm (ws++ts.take i)).length≤1000:=by
   refine Nat.le_trans (len_le_of_subT (sortedT_nd (sorted_norm _)) (fun s hs=>mem_norm.mp hs)) ?_
   rw[List.length_append,List.length_take];omega
  obtain⟨⟨vs,hv,hV⟩,hR⟩:=id hWi
  have lv:=Paired.length hV
  obtain⟨g1,g2,g3⟩:=plc_spec (t:=t) hR
  have hxT':=hxT.keep e.keepT
  walk_at "rdx_1"
  refine⟨l,x,_,t,rfl,hWi,hxT',hN,(hok2 t mt).1,hnl,fun H2 e2=>?_⟩
  have fin:∀ H3,Same H H3→H3 l=some (.lst vs)→KeepT K H' H3→t∈norm (ws++ts.take i)→Same H H3∧IsW K H3 l (norm (ws++ts.take (i+1))):=fun H3 a1 a2 a3 a4=>by
   have:norm (ws++ts.take (i+1))=norm (ws++ts.take i):=norm_congr fun s=>by
    rw[take_snoc ht,← List.append_assoc,List.mem_append,List.mem_singleton]
    exact⟨fun z=>z.elim id fun z=>by rw[z];exact mem_norm.mp a4,.inl⟩
   rw[this]
   exact⟨a1,⟨vs,a2,Paired.mapP hV fun _ _ z=>z.keep a3⟩,hR⟩
  have hv2:=e2 _ _ hv
  have ins:∀ H3,Same H H3→H3 l=some (.lst vs)→KeepT K H' H3→¬ t∈norm (ws++ts.take i)→Same H (upd H3 l (HO.lst (vs.take (plc (norm (ws++ts.take i)) t)++x :: vs.drop (plc (norm (ws++ts.take i)) t))))∧IsW K (upd H3 l (HO.lst (vs.take (plc (norm (ws++ts.take i)) t)++x :: vs.drop (plc (norm (ws++ts.take i)) t)))) l (norm (ws++ts.take (i+1))):=fun H3 a1 a2 a3 a4=>by
   have k3:=a3.trans (keepT_lst (K:=K) (o:=HO.lst (vs.take (plc (norm (ws++ts.take i)) t)++x :: vs.drop (plc (norm (ws++ts.take i)) t))) a2)
   have hV3:=Paired.mapP hV fun _ _ z=>z.keep k3
   have eN:(norm (ws++ts.take i)).take (plc (norm (ws++ts.take i)) t)++t :: (norm (ws++ts.take i)).drop (plc (norm (ws++ts.take i)) t)=norm (ws++ts.take (i+1)):=norm_uniq (ins_at hR a4) fun s=>by
    rw[take_snoc ht,← List.append_assoc,List.mem_append,List.mem_cons,List.mem_append,List.mem_singleton,← mem_norm (l:=ws++ts.take i)]
    conv=>rhs;rw[← List.take_append_drop (plc (norm (ws++ts.take i)) t) (norm (ws++ts.take i)),List.mem_append]
    constructor
    ·rintro (z | z | z)
     ·exact .inl (.inl z)
     ·exact .inr z
     ·exact .inl (.inr z)
    ·rintro ((z | z) | z)
     ·exact .inl z
     ·exact .inr (.inr z)
     ·exact .inr (.inl z)
   refine⟨a1.write f1,⟨_,upd_same,?_⟩,sorted_norm _⟩
   rw[← eN]
   exact paired_app (paired_take hV3 _) (.cons (hxT'.keep k3) (paired_drop hV3 _))
  show ∃ x_2,_
  refine⟨vs,.inl (SqL.of hv2),rfl,?_⟩
  by_cases hend:plc (norm (ws++ts.take i)) t=vs.length
  ·rw[if_pos (by rw[hend]),if_pos trivial]
   refine⟨.inl ⟨rfl,_,SqL.of hv2⟩,vs,_,rfl,hv2,by omega,by omega,ins H2 (e.trans e2) hv2 e2.keepT fun z=>?_⟩
   have:=(List.getElem?_eq_some_iff.mp ((plc_mem hR).mp z)).1
   omega
  ·have hlt:plc (norm (ws++ts.take i)) t < vs.length:=by omega
   rw[if_neg (fun z=>hend (by injection z with z;omega))]
   obtain⟨y,hy,hyT⟩:=paired_get hV (List.getElem?_eq_getElem hlt)
   have my:=List.mem_of_getElem? hy
   refine⟨vs,_,rfl,SqL.of hv2,_,atI_nat (List.getElem?_eq_getElem hlt),_,x,y,t,rfl,hyT.keep e2.keepT,hxT'.keep e2.keepT,(hN y my).1,(hok2 t mt).1,by have:=(hN y my).2;omega,fun H3 e3=>⟨rfl,?_⟩⟩
   have hv3:=e3 _ _ hv2
   by_cases hyt:y=t
   ·have c0:=(cmp_eq y t).mpr hyt
    rw[c0,if_neg (by decide)]
    exact fin H3 (e.trans (e2.trans e3)) hv3 (e2.trans e3).keepT ((plc_mem hR).mpr (by rw[hy,hyt]))
   ·have c0:¬ cmpT y t=0:=fun z=>hyt ((cmp_eq y t).mp z)
    rw[if_pos (by
     have:¬ V.int (cmpT y t)=V.int 0:=fun z=>c0 (by injection z)
     rw[decide_eq_false this];rfl)]
    refine⟨.inl ⟨rfl,_,SqL.of hv3⟩,vs,_,rfl,hv3,by omega,by omega,ins H3 (e.trans (e2.trans e3)) hv3 (e2.trans e3).keepT fun z=>?_⟩
    have:=(plc_mem hR).mp z
    rw[hy] at this;cases this;exact hyt rfl
 rintro σ2 H2 ⟨x3,x4,rfl,e2,hW2⟩
 walk_at "rdx_1"
 exact q _ _ e2 f1 hW2
end
noncomputable abbrev s_au0:Stmt:=top 14
theorem sc_au0:FnScope ["lines","ifs","before","after"] ["lines","ifs","before","after"] (defScope s_au0):=⟨rfl,rfl,rfl,by decide +kernel,rfl,by decide +kernel,by decide +kernel⟩
section
variable {P:Program} {w:World} {K:PySem.W.Frag} {mg:Str→Option Value} {base:Heap}
theorem ok_au0 {k:Nat} {f_au0:Addr} {fd_au0:FuncData} (F_au0:Fun K "by_simple" "by_simple" s_au0 f_au0 fd_au0) {f_aw0:Addr} {fd_aw0:FuncData} (G_aw0:FnOk P w K mg base CX0 k f_aw0 fd_aw0 ["one","other"] (sp_compared K)) (m_aw0:mg "compared"=some (.ref f_aw0)) (k_aw0:PySem.W.keepIn K (.ref f_aw0)=true) (b_aw0:Binds K fd_aw0 ["one","other"] []) {f_ba0:Addr} {fd_ba0:FuncData} (G_ba0:FnOk P w K mg base CX0 k f_ba0 fd_ba0 ["wishes","some"] (sp_more K)) (m_ba0:mg "more"=some (.ref f_ba0)) (k_ba0:PySem.W.keepIn K (.ref f_ba0)=true) (b_ba0:Binds K fd_ba0 ["wishes","some"] []) (m_len:mg "len"=none):FnOk P w K mg base CX0 (k+1) f_au0 fd_au0 ["lines","ifs","before","after"] (sp_leaf62 K):=by
 refine F_au0.ok sc_au0 (fun vs H Q E h=>?_) (fun cdv A outer s H vs Q E hr h=>?_)
 ·obtain⟨F,la,ia,bv,av,us,xs,ifs,b,a,rfl,_⟩:=h
  rfl
 obtain⟨F,la,ia,bv,av,us,xs,ifs,b,a,rfl,hL,nia,hI,iok,hb,ha,bok,aok,bp,ap,hba,hn,q⟩:=h
 have lu:=hL.len
 refine⟨_,(pss_cons (ps_if (pt_cmpRM (op_eq) (pe_call G_aw0 hr (by exact rfl) m_aw0 k_aw0 b_aw0 .nil pass0 (pa_cons (pvM 2) (pa_cons (pvM 3) pa_nil))) pe_int (nomark _))
  (pss_one (ps_expr (pe_bm PySem.F.plainAttrs_list PySem.F.slot_list_append PySem.F.type_list_append mt_append (pvM 0) (pa_cons (pe_tup (pa_cons pe_str (pa_cons (pe_call G_ba0 hr (by exact rfl) m_ba0 k_ba0 b_ba0 .nil pass0 (pa_cons (pvM 1) (pa_cons (pe_lst (pa_cons (pvM 2) pa_nil)) pa_nil))) (pa_cons (pvM 3) (pa_cons pe_non (pa_cons (pe_lst pa_nil) pa_nil)))))) pa_nil))))
  (pss_cons (ps_expr (pe_bm PySem.F.plainAttrs_list PySem.F.slot_list_append PySem.F.type_list_append mt_append (pvM 0) (pa_cons (pe_tup (pa_cons pe_str (pa_cons (pe_lst (pa_cons (pvM 3) pa_nil)) (pa_cons (pvM 3) (pa_cons pe_non (pa_cons (pe_lst pa_nil) pa_nil)))))) pa_nil)))
 (pss_one (ps_expr (pe_bm PySem.F.plainAttrs_list PySem.F.slot_list_append PySem.F.type_list_append mt_append (pvM 0) (pa_cons (pe_tup (pa_cons pe_str (pa_cons (pe_call G_ba0 hr (by exact rfl) m_ba0 k_ba0 b_ba0 .nil pass0 (pa_cons (pvM 1) (pa_cons (pe_lst (pa_cons (pvM 2) pa_nil)) pa_nil))) (pa_cons (pvM 3) (pa_cons (pe_tup (pa_cons pe_str (pa_cons (pvM 2) (pa_cons (pvM 3) pa_nil)))) (pa_cons (pe_lst (pa_cons (pe_op op_subM (pe_callB call_len_seq (by exact rfl) m_len Ken.boot_len (pa_cons (pvM 0) pa_nil)) pe_int) pa_nil)) pa_nil)))))) pa_nil))))))
 (pss_one (ps_ret (pe_tup (pa_cons (pvM 2) (pa_cons (pvM 3) (pa_cons (pe_op op_subM (pe_callB call_len_seq (by exact rfl) m_len Ken.boot_len (pa_cons (pvM 0) pa_nil)) pe_int) pa_nil))))))),?_⟩
 refine seq_then (fun σ' H'=>∃ us' ys y,σ'=[some (.ref la),some (.ref ia),some bv,some av]∧SB la H H'∧NF H H'∧LS K H' F la us' (xs++ys++[y])∧y.1.ws=norm (ifs++[b])∧y.1.g=a∧ys.length≤1) ?_ ?_
 rotate_left
 ·intro C hC
  walk_at "rdx_3"
  refine⟨bv,av,b,a,rfl,hb,ha,bok,aok,by omega,fun H1 e1=>⟨rfl,?_⟩⟩
  have hL1:=hL.keep (e1.sb la) (e1 _ _ hL.h)
  by_cases hc:b=a
  ·rw[if_pos (by rw[(cmp_eq b a).mpr hc])]
   walk_at "rdx_1"
   have hp0:=hL1.h
   refine⟨.inl ⟨rfl,_,SqL.of hL1.h⟩,by decide,fun p hp=>more_of (hI.keep e1) iok hp (.cons (hb.keep e1.keepT) .nil) (okw1 bok (by omega)) (by simp) fun r H2 e2 fr hw=>⟨by decide,fun a2 h2=>⟨by decide,fun p3 hp3=>?_⟩⟩⟩
   have hW:a∈norm (ifs++[b]):=mem_nb.mpr (.inr hc.symm)
   obtain⟨g1,g2,g3,g4⟩:=hL1.put (x:="wish") (R:=some .wish) (ls:=[]) (on:=none) e2 rfl fr hw ((ha.keep e1.keepT).keep e2.keepT) rfl h2 hp3 (g_wish (sorted_norm _) hW) (iok.ln rfl (okw1 bok (by omega)) (by simp) aok (by omega) (by simp))
   exact⟨us,g1,small1M (by omega),hC _ _ ⟨_,[],_,rfl,(e1.sb la).trans g3,(Same.nf e1).trans g4,by rw[List.append_nil];exact g2,rfl,rfl,Nat.zero_le _⟩⟩
  ·rw[if_neg (fun z=>hc ((cmp_eq b a).mp (V.int.inj z)))]
   refine seq_then (fun σ' H'=>∃ us' y,σ'=[some (.ref la),some (.ref ia),some bv,some av]∧SB la H1 H'∧NF H1 H'∧LS K H' F la us' (xs++[y])∧y.1.ws=[a]∧y.1.g=a) ?_ ?_
   rotate_left
   ·intro C' hC'
    walk_at "rdx_1"
    refine⟨.inl ⟨rfl,_,SqL.of hL1.h⟩,by decide,fun p hp=>⟨by decide,fun a2 h2=>⟨by decide,fun p3 hp3=>?_⟩⟩⟩
    have s1:=same_new hp (HO.lst [av])
    have hw:IsW K (upd H1 p (.lst [av])) p [a]:=⟨⟨[av],upd_same,.cons ((ha.keep e1.keepT).keep s1.keepT) .nil⟩,List.pairwise_singleton _ _⟩
    obtain⟨g1,g2,g3,g4⟩:=hL1.put (x:="wish") (R:=some .wish) (ls:=[]) (on:=none) s1 rfl hp hw ((ha.keep e1.keepT).keep s1.keepT) rfl h2 hp3 (g_wish (List.pairwise_singleton _ _) List.mem_cons_self) ⟨rfl,okw1 aok (by omega),by simp,aok,by show a.parts≤110;omega,by simp⟩
    exact⟨us,g1,small1M (by omega),hC' _ _ ⟨_,_,rfl,g3,g4,g2,rfl,rfl⟩⟩
   rintro σ2 H2 ⟨us2,y2,rfl,sb2,nf2,hL2,hw2,hg2⟩
   walk_at "rdx_1"
   have hon:=hba hc
   have k2:KeepT K H1 H2:=sb2.keepT hL1.h
   have hI2:IsW K H2 ia ifs:=by
    obtain⟨⟨zs,z1,z2⟩,z3⟩:=hI.keep e1
    exact⟨⟨zs,sb2 _ _ nia z1,paired_keepT k2 z2⟩,z3⟩
   have hb2:=(hb.keep e1.keepT).keep k2
   have ha2:=(ha.keep e1.keepT).keep k2
   have l2:=hL2.len
   rw[List.length_append,List.length_singleton] at l2
   refine⟨.inl ⟨rfl,_,SqL.of hL2.h⟩,by decide,fun p hp=>more_of hI2 iok hp (.cons hb2 .nil) (okw1 bok (by omega)) (by simp) fun r H3 e3 fr hw=>⟨by decide,fun po hpo=>?_⟩⟩
   have so:=same_new hpo (HO.tup [V.str (Str.ofString "then"),bv,av])
   have e4:=e3.trans so
   refine⟨us2,.inl (SqL.of (e4 _ _ hL2.h)),by decide,fun a2 h2=>⟨by decide,fun p3 hp3=>?_⟩⟩
   have ho:OnX K (upd H3 po (.tup [V.str (Str.ofString "then"),bv,av])) (.ref po) (some (.nd .thn b a)):=⟨isT_nd.mpr ⟨po,bv,av,rfl,.inl (.inl upd_same),hb2.keep e4.keepT,ha2.keep e4.keepT⟩,⟨bok,aok⟩,by show 1+b.parts+a.parts≤110;omega⟩
   have el:((us2.length:Nat):Int) - 1=((xs.length:Nat):Int):=by omega
   have hgd:=g_known (L:=(xs++[y2]).map (·.1)) (i:=(xs++[y2]).length) (n:=xs.length) (m:=y2.1) (ws:=norm (ifs++[b])) (b:=b) (a:=a) (sorted_norm _) (mem_nb.mpr (.inl hon)) (mem_nb.mpr (.inr rfl)) (by rw[List.length_append,List.length_singleton];omega) (map_at1 (snoc_at xs y2)) hg2 hw2
   rw[el] at hp3 ⊢
   obtain⟨g1,g2,g3,g4⟩:=hL2.put (x:="known") (R:=some .known) (ls:=[((xs.length:Nat):Int)]) (on:=some (.nd .thn b a)) e4 rfl fr (hw.keep so) (ha2.keep e4.keepT) ho h2 hp3 hgd (iok.ln rfl (okw1 bok (by omega)) (by simp) aok (by omega) (by simp))
   exact⟨us2,g1,small1M (by omega),hC _ _ ⟨_,[y2],_,rfl,((e1.sb la).trans sb2).trans g3,((Same.nf e1).trans nf2).trans g4,g2,rfl,rfl,Nat.le_refl _⟩⟩
 rintro σ1 H1 ⟨us',ys,y,rfl,sb,nf,hL1,hw,hg,hy⟩
 walk_at "rdx_1"
 refine⟨us',.inl (SqL.of hL1.h),by decide,fun p hp=>?_⟩
 have k1:KeepT K H H1:=sb.keepT hL.h
 obtain⟨g1,g2⟩:=hL1.told hw hg (hb.keep k1) (ha.keep k1) hp rfl
 have sp:=same_new hp (HO.tup [bv,av,V.int ((us'.length:Nat) - 1)])
 rw[List.append_assoc] at g1 g2
 exact q _ _ us' (ys++[y]) (xs++ys).length (sb.trans (sp.sb la)) (nf.trans (Same.nf sp)) g1 g2 (by rw[List.length_append,List.length_append,List.length_append];simp;omega) (by rw[List.length_append,List.length_singleton];omega)
end
noncomputable abbrev s_as0:Stmt:=top 15
theorem sc_as0:FnScope ["lines","ifs","first","second","before","after"] ["lines","ifs","first","second"] (defScope s_as0):=⟨rfl,rfl,rfl,by decide +kernel,rfl,by decide +kernel,by decide +kernel⟩
noncomputable abbrev s_at0:Stmt:=top 16
theorem sc_at0:FnScope ["lines","ifs","first","second","before","after"] ["lines","ifs","first","second"] (defScope s_at0):=⟨rfl,rfl,rfl,by decide +kernel,rfl,by decide +kernel,by decide +kernel⟩
noncomputable abbrev s_av0:Stmt:=top 17
theorem sc_av0:FnScope ["lines","ifs","first","second","before","after"] ["lines","ifs","first","second"] (defScope s_av0):=⟨rfl,rfl,rfl,by decide +kernel,rfl,by decide +kernel,by decide +kernel⟩
section
variable {P:Program} {w:World} {K:PySem.W.Frag} {mg:Str→Option Value} {base:Heap}
theorem ok_as0 {k:Nat} {f_as0:Addr} {fd_as0:FuncData} (F_as0:Fun K "by_both" "by_both" s_as0 f_as0 fd_as0) {f_ba0:Addr} {fd_ba0:FuncData} (G_ba0:FnOk P w K mg base CX0 k f_ba0 fd_ba0 ["wishes","some"] (sp_more K)) (m_ba0:mg "more"=some (.ref f_ba0)) (k_ba0:PySem.W.keepIn K (.ref f_ba0)=true) (b_ba0:Binds K fd_ba0 ["wishes","some"] []) (m_len:mg "len"=none):FnOk P w K mg base CX0 (k+1) f_as0 fd_as0 ["lines","ifs","first","second"] (sp_deed62 K .both):=by
 refine F_as0.ok sc_as0 (fun vs H Q E h=>?_) (fun cdv A outer s H vs Q E hr h=>?_)
 ·obtain⟨F,la,ia,fv,sv,us,xs,ifs,b1,a1,b2,a2,n1,n2,rfl,_⟩:=h
  rfl
 obtain⟨F,la,ia,fv,sv,us,xs,ifs,b1,a1,b2,a2,n1,n2,rfl,hL,nia,hI,iok,hF,hS,ob1,oa1,ob2,oa2,p1,p2,p3,p4,hn,q⟩:=h
 obtain⟨pf,bv1,av1,y1,rfl,f1,f2,f3,f4,f5,f6⟩:=hF
 obtain⟨ps,bv2,av2,y2,rfl,s1,s2,s3,s4,s5,s6⟩:=hS
 have lu:=hL.len
 have ln1:n1 < xs.length:=(List.getElem?_eq_some_iff.mp f4).1
 have ln2:n2 < xs.length:=(List.getElem?_eq_some_iff.mp s4).1
 refine⟨_,(pss_cons (ps_set (i:=4) sc_as0.nd rfl (Or.inl rfl) (pe_tup (pa_cons pe_str (pa_cons (pe_ix ix_tup (pvM 2) pe_int (fun _ _=>rfl)) (pa_cons (pe_ix ix_tup (pvM 3) pe_int (fun _ _=>rfl)) pa_nil)))))
 (pss_cons (ps_set (i:=5) sc_as0.nd rfl (Or.inl rfl) (pe_tup (pa_cons pe_str (pa_cons (pe_ix ix_tup (pvM 2) pe_int (fun _ _=>rfl)) (pa_cons (pe_ix ix_tup (pvM 3) pe_int (fun _ _=>rfl)) pa_nil)))))
 (pss_cons (ps_expr (pe_bm PySem.F.plainAttrs_list PySem.F.slot_list_append PySem.F.type_list_append mt_append (pvM 0) (pa_cons (pe_tup (pa_cons pe_str (pa_cons (pe_call G_ba0 hr (by exact rfl) m_ba0 k_ba0 b_ba0 .nil pass0 (pa_cons (pvM 1) (pa_cons (pe_lst (pa_cons (pe_ix ix_tup (pvM 2) pe_int (fun _ _=>rfl)) (pa_cons (pe_ix ix_tup (pvM 3) pe_int (fun _ _=>rfl)) pa_nil))) pa_nil))) (pa_cons (pvM 5) (pa_cons pe_non (pa_cons (pe_lst (pa_cons (pe_ix ix_tup (pvM 2) pe_int (fun _ _=>rfl)) (pa_cons (pe_ix ix_tup (pvM 3) pe_int (fun _ _=>rfl)) pa_nil))) pa_nil)))))) pa_nil)))
 (pss_cons (ps_expr (pe_bm PySem.F.plainAttrs_list PySem.F.slot_list_append PySem.F.type_list_append mt_append (pvM 0) (pa_cons (pe_tup (pa_cons pe_str (pa_cons (pe_call G_ba0 hr (by exact rfl) m_ba0 k_ba0 b_ba0 .nil pass0 (pa_cons (pvM 1) (pa_cons (pe_lst (pa_cons (pvM 4) pa_nil)) pa_nil))) (pa_cons (pvM 5) (pa_cons (pvM 4) (pa_cons (pe_lst (pa_cons (pe_op op_subM (pe_callB call_len_seq (by exact rfl) m_len Ken.boot_len (pa_cons (pvM 0) pa_nil)) pe_int) pa_nil)) pa_nil)))))) pa_nil)))
 (pss_one (ps_ret (pe_tup (pa_cons (pvM 4) (pa_cons (pvM 5) (pa_cons (pe_op op_subM (pe_callB call_len_seq (by exact rfl) m_len Ken.boot_len (pa_cons (pvM 0) pa_nil)) pe_int) pa_nil)))))))))),?_⟩
 refine seq_then (fun σ' H'=>∃ pb,σ'=[some (.ref la),some (.ref ia),some (.ref pf),some (.ref ps),some (.ref pb),none]∧Same H H'∧IsT K H' (.ref pb) (.nd .both b1 b2)) ?_ ?_
 rotate_left
 ·intro C hC
  walk_at "rdx_1"
  refine⟨_,f1,_,rfl,_,s1,_,rfl,by decide,fun p hp=>?_⟩
  have e:=same_new hp (HO.tup [V.str (Str.ofString "both"),bv1,bv2])
  exact hC _ _ ⟨p,rfl,e,isT_nd.mpr ⟨p,_,_,rfl,.inl (.inl upd_same),f2.keep e.keepT,s2.keep e.keepT⟩⟩
 rintro σ1 H1 ⟨pb,rfl,e1,hb⟩
 refine seq_then (fun σ' H'=>∃ pa,σ'=[some (.ref la),some (.ref ia),some (.ref pf),some (.ref ps),some (.ref pb),some (.ref pa)]∧Same H H'∧IsT K H' (.ref pb) (.nd .both b1 b2)∧IsT K H' (.ref pa) (.nd .both a1 a2)) ?_ ?_
 rotate_left
 ·intro C hC
  walk_at "rdx_1"
  refine⟨_,e1.sqt f1,_,rfl,_,e1.sqt s1,_,rfl,by decide,fun p hp=>?_⟩
  have e:=same_new hp (HO.tup [V.str (Str.ofString "both"),av1,av2])
  exact hC _ _ ⟨p,rfl,e1.trans e,hb.keep e.keepT,isT_nd.mpr ⟨p,_,_,rfl,.inl (.inl upd_same),(f3.keep e1.keepT).keep e.keepT,(s3.keep e1.keepT).keep e.keepT⟩⟩
 rintro σ2 H2 ⟨pa,rfl,e2,hb,ha⟩
 have okB:Tm.ok (.nd .both b1 b2):=⟨ob1,ob2⟩
 have okA:Tm.ok (.nd .both a1 a2):=⟨oa1,oa2⟩
 have pB:Tm.parts (.nd .both b1 b2)≤110:=by show 1+_+_≤110;omega
 have pA:Tm.parts (.nd .both a1 a2)≤110:=by show 1+_+_≤110;omega
 have hL2:=hL.keep (e2.sb la) (e2 _ _ hL.h)
 have hI2:=hI.keep e2
 refine seq_then (fun σ' H'=>∃ us' y,σ'=[some (.ref la),some (.ref ia),some (.ref pf),some (.ref ps),some (.ref pb),some (.ref pa)]∧SB la H2 H'∧NF H2 H'∧LS K H' F la us' (xs++[y])∧y.1.ws=norm (ifs++[b1,b2])∧y.1.g=.nd .both a1 a2) ?_ ?_
 rotate_left
 ·intro C hC
  walk_at "rdx_1"
  refine⟨.inl ⟨rfl,_,SqL.of hL2.h⟩,_,e2.sqt f1,_,rfl,_,e2.sqt s1,_,rfl,by decide,fun p hp=>more_of hI2 iok hp (.cons (f2.keep e2.keepT) (.cons (s2.keep e2.keepT) .nil)) (okw2 ob1 (by omega) ob2 (by omega)) (by simp) fun r H3 e3 fr hw=>⟨_,(e2.trans e3).sqt f1,_,rfl,_,(e2.trans e3).sqt s1,_,rfl,by decide,fun a4 h4=>⟨by decide,fun p5 hp5=>?_⟩⟩⟩
  obtain⟨g1,g2,g3,g4⟩:=hL2.put (x:="both") (R:=some .both) (ls:=[(n1:Int),(n2:Int)]) (on:=none) e3 rfl fr hw (ha.keep e3.keepT) rfl h4 hp5 (g_both ln1 (map_at1 f4) f6 f5 ln2 (map_at1 s4) s6 s5) (iok.ln rfl (okw2 ob1 (by omega) ob2 (by omega)) (by simp) okA pA (by simp))
  exact⟨us,g1,small1M (by omega),hC _ _ ⟨_,_,rfl,g3,g4,g2,rfl,rfl⟩⟩
 rintro σ3 H3 ⟨us3,y3,rfl,sb3,nf3,hL3,hw3,hg3⟩
 have k3:KeepT K H2 H3:=sb3.keepT hL2.h
 have hI3:IsW K H3 ia ifs:=by
  obtain⟨⟨zs,z1,z2⟩,z3⟩:=hI2
  exact⟨⟨zs,sb3 _ _ nia z1,paired_keepT k3 z2⟩,z3⟩
 have hb3:=hb.keep k3
 have ha3:=ha.keep k3
 have l3:=hL3.len
 rw[List.length_append,List.length_singleton] at l3
 refine seq_then (fun σ' H'=>∃ us' y,σ'=[some (.ref la),some (.ref ia),some (.ref pf),some (.ref ps),some (.ref pb),some (.ref pa)]∧SB la H3 H'∧NF H3 H'∧LS K H' F la us' (xs++[y3]++[y])∧y.1.ws=norm (ifs++[.nd .both b1 b2])∧y.1.g=.nd .both a1 a2) ?_ ?_
 rotate_left
 ·intro C hC
  walk_at "rdx_1"
  refine⟨.inl ⟨rfl,_,SqL.of hL3.h⟩,by decide,fun p hp=>more_of hI3 iok hp (.cons hb3 .nil) (okw1 okB pB) (by simp) fun r H4 e4 fr hw=>⟨us3,.inl (SqL.of (e4 _ _ hL3.h)),by decide,fun a5 h5=>⟨by decide,fun p6 hp6=>?_⟩⟩⟩
  have el:((us3.length:Nat):Int) - 1=((xs.length:Nat):Int):=by omega
  rw[el] at hp6 ⊢
  obtain⟨g1,g2,g3,g4⟩:=hL3.put (x:="parts") (R:=some .parts) (ls:=[((xs.length:Nat):Int)]) (on:=some (.nd .both b1 b2)) e4 rfl fr hw (ha3.keep e4.keepT) ⟨hb3.keep e4.keepT,okB,pB⟩ h5 hp6 (g_parts (by rw[List.length_append,List.length_singleton];omega) (map_at1 (snoc_at xs y3)) hg3 hw3) (iok.ln rfl (okw1 okB pB) (by simp) okA pA (by simp))
  exact⟨us3,g1,small1M (by omega),hC _ _ ⟨_,_,rfl,g3,g4,g2,rfl,rfl⟩⟩
 rintro σ4 H4 ⟨us4,y4,rfl,sb4,nf4,hL4,hw4,hg4⟩
 walk_at "rdx_1"
 refine⟨us4,.inl (SqL.of hL4.h),by decide,fun p hp=>?_⟩
 have k4:KeepT K H3 H4:=sb4.keepT hL3.h
 obtain⟨g1,g2⟩:=hL4.told hw4 hg4 (hb3.keep k4) (ha3.keep k4) hp rfl
 have sp:=same_new hp (HO.tup [.ref pb,.ref pa,V.int ((us4.length:Nat) - 1)])
 rw[List.append_assoc] at g1 g2
 exact q _ _ us4 ([y3]++[y4]) (xs++[y3]).length ((((e2.sb la).trans sb3).trans sb4).trans (sp.sb la)) ((((Same.nf e2).trans nf3).trans nf4).trans (Same.nf sp)) g1 g2 (by simp) (by simp)
theorem ok_at0 {k:Nat} {f_at0:Addr} {fd_at0:FuncData} (F_at0:Fun K "by_one" "by_one" s_at0 f_at0 fd_at0) {f_ba0:Addr} {fd_ba0:FuncData} (G_ba0:FnOk P w K mg base CX0 k f_ba0 fd_ba0 ["wishes","some"] (sp_more K)) (m_ba0:mg "more"=some (.ref f_ba0)) (k_ba0:PySem.W.keepIn K (.ref f_ba0)=true) (b_ba0:Binds K fd_ba0 ["wishes","some"] []) (m_len:mg "len"=none):FnOk P w K mg base CX0 (k+1) f_at0 fd_at0 ["lines","ifs","first","second"] (sp_deed62 K .one):=by
 refine F_at0.ok sc_at0 (fun vs H Q E h=>?_) (fun cdv A outer s H vs Q E hr h=>?_)
 ·obtain⟨F,la,ia,fv,sv,us,xs,ifs,b1,a1,b2,a2,n1,n2,rfl,_⟩:=h
  rfl
 obtain⟨F,la,ia,fv,sv,us,xs,ifs,b1,a1,b2,a2,n1,n2,rfl,hL,nia,hI,iok,hF,hS,ob1,oa1,ob2,oa2,p1,p2,p3,p4,hn,q⟩:=h
 obtain⟨pf,bv1,av1,y1,rfl,f1,f2,f3,f4,f5,f6⟩:=hF
 obtain⟨ps,bv2,av2,y2,rfl,s1,s2,s3,s4,s5,s6⟩:=hS
 have lu:=hL.len
 have ln1:n1 < xs.length:=(List.getElem?_eq_some_iff.mp f4).1
 have ln2:n2 < xs.length:=(List.getElem?_eq_some_iff.mp s4).1
 refine⟨_,(pss_cons (ps_set (i:=4) sc_at0.nd rfl (Or.inl rfl) (pe_tup (pa_cons pe_str (pa_cons (pe_ix ix_tup (pvM 2) pe_int (fun _ _=>rfl)) (pa_cons (pe_ix ix_tup (pvM 3) pe_int (fun _ _=>rfl)) pa_nil)))))
 (pss_cons (ps_set (i:=5) sc_at0.nd rfl (Or.inl rfl) (pe_tup (pa_cons pe_str (pa_cons (pe_ix ix_tup (pvM 2) pe_int (fun _ _=>rfl)) (pa_cons (pe_ix ix_tup (pvM 3) pe_int (fun _ _=>rfl)) pa_nil)))))
 (pss_cons (ps_expr (pe_bm PySem.F.plainAttrs_list PySem.F.slot_list_append PySem.F.type_list_append mt_append (pvM 0) (pa_cons (pe_tup (pa_cons pe_str (pa_cons (pe_call G_ba0 hr (by exact rfl) m_ba0 k_ba0 b_ba0 .nil pass0 (pa_cons (pvM 1) (pa_cons (pe_lst (pa_cons (pe_ix ix_tup (pvM 2) pe_int (fun _ _=>rfl)) pa_nil)) pa_nil))) (pa_cons (pvM 5) (pa_cons pe_non (pa_cons (pe_lst (pa_cons (pe_ix ix_tup (pvM 2) pe_int (fun _ _=>rfl)) pa_nil)) pa_nil)))))) pa_nil)))
 (pss_cons (ps_expr (pe_bm PySem.F.plainAttrs_list PySem.F.slot_list_append PySem.F.type_list_append mt_append (pvM 0) (pa_cons (pe_tup (pa_cons pe_str (pa_cons (pe_call G_ba0 hr (by exact rfl) m_ba0 k_ba0 b_ba0 .nil pass0 (pa_cons (pvM 1) (pa_cons (pe_lst (pa_cons (pe_ix ix_tup (pvM 3) pe_int (fun _ _=>rfl)) pa_nil)) pa_nil))) (pa_cons (pvM 5) (pa_cons pe_non (pa_cons (pe_lst (pa_cons (pe_ix ix_tup (pvM 3) pe_int (fun _ _=>rfl)) pa_nil)) pa_nil)))))) pa_nil)))
 (pss_cons (ps_expr (pe_bm PySem.F.plainAttrs_list PySem.F.slot_list_append PySem.F.type_list_append mt_append (pvM 0) (pa_cons (pe_tup (pa_cons pe_str (pa_cons (pe_call G_ba0 hr (by exact rfl) m_ba0 k_ba0 b_ba0 .nil pass0 (pa_cons (pvM 1) (pa_cons (pe_lst (pa_cons (pvM 4) pa_nil)) pa_nil))) (pa_cons (pvM 5) (pa_cons (pvM 4) (pa_cons (pe_lst (pa_cons (pe_op op_subM (pe_callB call_len_seq (by exact rfl) m_len Ken.boot_len (pa_cons (pvM 0) pa_nil)) pe_int) (pa_cons (pe_op op_subM (pe_callB call_len_seq (by exact rfl) m_len Ken.boot_len (pa_cons (pvM 0) pa_nil)) pe_int) pa_nil))) pa_nil)))))) pa_nil)))
 (pss_one (ps_ret (pe_tup (pa_cons (pvM 4) (pa_cons (pvM 5) (pa_cons (pe_op op_subM (pe_callB call_len_seq (by exact rfl) m_len Ken.boot_len (pa_cons (pvM 0) pa_nil)) pe_int) pa_nil))))))))))),?_⟩
 refine seq_then (fun σ' H'=>∃ pb,σ'=[some (.ref la),some (.ref ia),some (.ref pf),some (.ref ps),some (.ref pb),none]∧Same H H'∧IsT K H' (.ref pb) (.nd .one b1 b2)) ?_ ?_
 rotate_left
 ·intro C hC
  walk_at "rdx_1"
  refine⟨_,f1,_,rfl,_,s1,_,rfl,by decide,fun p hp=>?_⟩
  have e:=same_new hp (HO.tup [V.str (Str.ofString "one"),bv1,bv2])
  exact hC _ _ ⟨p,rfl,e,isT_nd.mpr ⟨p,_,_,rfl,.inl (.inl upd_same),f2.keep e.keepT,s2.keep e.keepT⟩⟩
 rintro σ1 H1 ⟨pb,rfl,e1,hb⟩
 refine seq_then (fun σ' H'=>∃ pa,σ'=[some (.ref la),some (.ref ia),some (.ref pf),some (.ref ps),some (.ref pb),some (.ref pa)]∧Same H H'∧IsT K H' (.ref pb) (.nd .one b1 b2)∧IsT K H' (.ref pa) (.nd .one a1 a2)) ?_ ?_
 rotate_left
 ·intro C hC
  walk_at "rdx_1"
  refine⟨_,e1.sqt f1,_,rfl,_,e1.sqt s1,_,rfl,by decide,fun p hp=>?_⟩
  have e:=same_new hp (HO.tup [V.str (Str.ofString "one"),av1,av2])
  exact hC _ _ ⟨p,rfl,e1.trans e,hb.keep e.keepT,isT_nd.mpr ⟨p,_,_,rfl,.inl (.inl upd_same),(f3.keep e1.keepT).keep e.keepT,(s3.keep e1.keepT).keep e.keepT⟩⟩
 rintro σ2 H2 ⟨pa,rfl,e2,hb,ha⟩
 have okB:Tm.ok (.nd .one b1 b2):=⟨ob1,ob2⟩
 have okA:Tm.ok (.nd .one a1 a2):=⟨oa1,oa2⟩
 have pB:Tm.parts (.nd .one b1 b2)≤110:=by show 1+_+_≤110;omega
 have pA:Tm.parts (.nd .one a1 a2)≤110:=by show 1+_+_≤110;omega
 have hL2:=hL.keep (e2.sb la) (e2 _ _ hL.h)
 have hI2:=hI.keep e2
 refine seq_then (fun σ' H'=>∃ us' y,σ'=[some (.ref la),some (.ref ia),some (.ref pf),some (.ref ps),some (.ref pb),some (.ref pa)]∧SB la H2 H'∧NF H2 H'∧LS K H' F la us' (xs++[y])∧y.1.ws=norm (ifs++[b1])∧y.1.g=.nd .one a1 a2) ?_ ?_
 rotate_left
 ·intro C hC
  walk_at "rdx_1"
  refine⟨.inl ⟨rfl,_,SqL.of hL2.h⟩,_,e2.sqt f1,_,rfl,by decide,fun p hp=>more_of hI2 iok hp (.cons (f2.keep e2.keepT) .nil) (okw1 ob1 (by omega)) (by simp) fun r H3 e3 fr hw=>⟨_,(e2.trans e3).sqt f1,_,rfl,by decide,fun a4 h4=>⟨by decide,fun p5 hp5=>?_⟩⟩⟩
  obtain⟨g1,g2,g3,g4⟩:=hL2.put (x:="first") (R:=some .first) (ls:=[(n1:Int)]) (on:=none) e3 rfl fr hw (ha.keep e3.keepT) rfl h4 hp5 (g_first ln1 (map_at1 f4) f6 f5) (iok.ln rfl (okw1 ob1 (by omega)) (by simp) okA pA (by simp))
  exact⟨us,g1,small1M (by omega),hC _ _ ⟨_,_,rfl,g3,g4,g2,rfl,rfl⟩⟩
 rintro σ3 H3 ⟨us3,y3,rfl,sb3,nf3,hL3,hw3,hg3⟩
 have k3:KeepT K H2 H3:=sb3.keepT hL2.h
 have hI3:IsW K H3 ia ifs:=by
  obtain⟨⟨zs,z1,z2⟩,z3⟩:=hI2
  exact⟨⟨zs,sb3 _ _ nia z1,paired_keepT k3 z2⟩,z3⟩
 have l3:=hL3.len
 rw[List.length_append,List.length_singleton] at l3
 have hb3:=hb.keep k3
 have ha3:=ha.keep k3
 have kk3:=e2.keepT (K:=K) |>.trans k3
 refine seq_then (fun σ' H'=>∃ us' y,σ'=[some (.ref la),some (.ref ia),some (.ref pf),some (.ref ps),some (.ref pb),some (.ref pa)]∧SB la H3 H'∧NF H3 H'∧LS K H' F la us' (xs++[y3]++[y])∧y.1.ws=norm (ifs++[b2])∧y.1.g=.nd .one a1 a2) ?_ ?_
 rotate_left
 ·intro C hC
  walk_at "rdx_1"
  refine⟨.inl ⟨rfl,_,SqL.of hL3.h⟩,_,kk3 _ _ s1,_,rfl,by decide,fun p hp=>more_of hI3 iok hp (.cons (s2.keep kk3) .nil) (okw1 ob2 (by omega)) (by simp) fun r H4 e4 fr hw=>⟨_,e4.sqt (kk3 _ _ s1),_,rfl,by decide,fun a5 h5=>⟨by decide,fun p6 hp6=>?_⟩⟩⟩
  obtain⟨g1,g2,g3,g4⟩:=hL3.put (x:="second") (R:=some .second) (ls:=[(n2:Int)]) (on:=none) e4 rfl fr hw (ha3.keep e4.keepT) rfl h5 hp6 (g_second (by rw[List.length_append];omega) (map_at1 (by rw[List.getElem?_append_left ln2];exact s4)) s6 s5) (iok.ln rfl (okw1 ob2 (by omega)) (by simp) okA pA (by simp))
  exact⟨us3,g1,small1M (by omega),hC _ _ ⟨_,_,rfl,g3,g4,g2,rfl,rfl⟩⟩
 rintro σ4 H4 ⟨us4,y4,rfl,sb4,nf4,hL4,hw4,hg4⟩
 have k4:KeepT K H3 H4:=sb4.keepT hL3.h
 have hI4:IsW K H4 ia ifs:=by
  obtain⟨⟨zs,z1,z2⟩,z3⟩:=hI3
  exact⟨⟨zs,sb4 _ _ nia z1,paired_keepT k4 z2⟩,z3⟩
 have l4:=hL4.len
 rw[List.length_append,List.length_append,List.length_singleton,List.length_singleton] at l4
 have hb4:=hb3.keep k4
 have ha4:=ha3.keep k4
 refine seq_then (fun σ' H'=>∃ us' y,σ'=[some (.ref la),some (.ref ia),some (.ref pf),some (.ref ps),some (.ref pb),some (.ref pa)]∧SB la H4 H'∧NF H4 H'∧LS K H' F la us' (xs++[y3]++[y4]++[y])∧y.1.ws=norm (ifs++[.nd .one b1 b2])∧y.1.g=.nd .one a1 a2) ?_ ?_
 rotate_left
 ·intro C hC
  walk_at "rdx_1"
  refine⟨.inl ⟨rfl,_,SqL.of hL4.h⟩,by decide,fun p hp=>more_of hI4 iok hp (.cons hb4 .nil) (okw1 okB pB) (by simp) fun r H5 e5 fr hw=>⟨us4,.inl (SqL.of (e5 _ _ hL4.h)),us4,.inl (SqL.of (e5 _ _ hL4.h)),by decide,fun a6 h6=>⟨by decide,fun p7 hp7=>?_⟩⟩⟩
  have el:((us4.length:Nat):Int) - 2=((xs.length:Nat):Int):=by omega
  have em:((us4.length:Nat):Int) - 1=((xs.length+1:Nat):Int):=by omega
  rw[el,em] at hp7 ⊢
  have lx:(xs++[y3]).length=xs.length+1:=by simp
  obtain⟨g1,g2,g3,g4⟩:=hL4.put (x:="cases") (R:=some .cases) (ls:=[((xs.length:Nat):Int),((xs.length+1:Nat):Int)]) (on:=some (.nd .one b1 b2)) e5 rfl fr hw (ha4.keep e5.keepT) ⟨hb4.keep e5.keepT,okB,pB⟩ h6 hp7 (g_cases (by simp) (map_at1 (by rw[List.append_assoc,List.getElem?_append_right (Nat.le_refl _),Nat.sub_self];rfl)) hg3 hw3 (by simp) (map_at1 (by rw[← lx];exact snoc_at _ _)) hg4 hw4) (iok.ln rfl (okw1 okB pB) (by simp) okA pA (by simp))
  exact⟨us4,g1,small1M (by omega),hC _ _ ⟨_,_,rfl,g3,g4,g2,rfl,rfl⟩⟩
 rintro σ5 H5 ⟨us5,y5,rfl,sb5,nf5,hL5,hw5,hg5⟩
 walk_at "rdx_1"
 refine⟨us5,.inl (SqL.of hL5.h),by decide,fun p hp=>?_⟩
 have k5:KeepT K H4 H5:=sb5.keepT hL4.h
 obtain⟨g1,g2⟩:=hL5.told hw5 hg5 (hb4.keep k5) (ha4.keep k5) hp rfl
 have sp:=same_new hp (HO.tup [.ref pb,.ref pa,V.int ((us5.length:Nat) - 1)])
 have ea:xs++[y3]++[y4]++[y5]=xs++[y3,y4,y5]:=by simp
 rw[ea] at g1 g2
 exact q _ _ us5 [y3,y4,y5] (xs++[y3]++[y4]).length (((((e2.sb la).trans sb3).trans sb4).trans sb5).trans (sp.sb la)) (((((Same.nf e2).trans nf3).trans nf4).trans nf5).trans (Same.nf sp)) g1 g2 (by simp) (by simp)
theorem ok_av0 {k:Nat} {f_av0:Addr} {fd_av0:FuncData} (F_av0:Fun K "by_then" "by_then" s_av0 f_av0 fd_av0) {f_ba0:Addr} {fd_ba0:FuncData} (G_ba0:FnOk P w K mg base CX0 k f_ba0 fd_ba0 ["wishes","some"] (sp_more K)) (m_ba0:mg "more"=some (.ref f_ba0)) (k_ba0:PySem.W.keepIn K (.ref f_ba0)=true) (b_ba0:Binds K fd_ba0 ["wishes","some"] []) (m_len:mg "len"=none):FnOk P w K mg base CX0 (k+1) f_av0 fd_av0 ["lines","ifs","first","second"] (sp_deed62 K .thn):=by
 refine F_av0.ok sc_av0 (fun vs H Q E h=>?_) (fun cdv A outer s H vs Q E hr h=>?_)
 ·obtain⟨F,la,ia,fv,sv,us,xs,ifs,b1,a1,b2,a2,n1,n2,rfl,_⟩:=h
  rfl
 obtain⟨F,la,ia,fv,sv,us,xs,ifs,b1,a1,b2,a2,n1,n2,rfl,hL,nia,hI,iok,hF,hS,ob1,oa1,ob2,oa2,p1,p2,p3,p4,hn,q⟩:=h
 obtain⟨pf,bv1,av1,y1,rfl,f1,f2,f3,f4,f5,f6⟩:=hF
 obtain⟨ps,bv2,av2,y2,rfl,s1,s2,s3,s4,s5,s6⟩:=hS
 have lu:=hL.len
 have ln1:n1 < xs.length:=(List.getElem?_eq_some_iff.mp f4).1
 have ln2:n2 < xs.length:=(List.getElem?_eq_some_iff.mp s4).1
 refine⟨_,(pss_cons (ps_set (i:=4) sc_av0.nd rfl (Or.inl rfl) (pe_tup (pa_cons pe_str (pa_cons (pe_ix ix_tup (pvM 2) pe_int (fun _ _=>rfl)) (pa_cons (pe_ix ix_tup (pvM 3) pe_int (fun _ _=>rfl)) pa_nil)))))
 (pss_cons (ps_set (i:=5) sc_av0.nd rfl (Or.inl rfl) (pe_tup (pa_cons pe_str (pa_cons (pe_ix ix_tup (pvM 2) pe_int (fun _ _=>rfl)) (pa_cons (pe_ix ix_tup (pvM 3) pe_int (fun _ _=>rfl)) pa_nil)))))
 (pss_cons (ps_expr (pe_bm PySem.F.plainAttrs_list PySem.F.slot_list_append PySem.F.type_list_append mt_append (pvM 0) (pa_cons (pe_tup (pa_cons pe_str (pa_cons (pe_call G_ba0 hr (by exact rfl) m_ba0 k_ba0 b_ba0 .nil pass0 (pa_cons (pvM 1) (pa_cons (pe_lst (pa_cons (pvM 4) (pa_cons (pe_ix ix_tup (pvM 2) pe_int (fun _ _=>rfl)) pa_nil))) pa_nil))) (pa_cons (pe_ix ix_tup (pvM 3) pe_int (fun _ _=>rfl)) (pa_cons (pvM 4) (pa_cons (pe_lst (pa_cons (pe_ix ix_tup (pvM 2) pe_int (fun _ _=>rfl)) (pa_cons (pe_ix ix_tup (pvM 3) pe_int (fun _ _=>rfl)) pa_nil))) pa_nil)))))) pa_nil)))
 (pss_cons (ps_expr (pe_bm PySem.F.plainAttrs_list PySem.F.slot_list_append PySem.F.type_list_append mt_append (pvM 0) (pa_cons (pe_tup (pa_cons pe_str (pa_cons (pe_call G_ba0 hr (by exact rfl) m_ba0 k_ba0 b_ba0 .nil pass0 (pa_cons (pvM 1) (pa_cons (pe_lst (pa_cons (pvM 4) pa_nil)) pa_nil))) (pa_cons (pvM 5) (pa_cons pe_non (pa_cons (pe_lst (pa_cons (pe_op op_subM (pe_callB call_len_seq (by exact rfl) m_len Ken.boot_len (pa_cons (pvM 0) pa_nil)) pe_int) pa_nil)) pa_nil)))))) pa_nil)))
 (pss_one (ps_ret (pe_tup (pa_cons (pvM 4) (pa_cons (pvM 5) (pa_cons (pe_op op_subM (pe_callB call_len_seq (by exact rfl) m_len Ken.boot_len (pa_cons (pvM 0) pa_nil)) pe_int) pa_nil)))))))))),?_⟩
 refine seq_then (fun σ' H'=>∃ pb,σ'=[some (.ref la),some (.ref ia),some (.ref pf),some (.ref ps),some (.ref pb),none]∧Same H H'∧IsT K H' (.ref pb) (.nd .thn a1 b2)) ?_ ?_
 rotate_left
 ·intro C hC
  walk_at "rdx_1"
  refine⟨_,f1,_,rfl,_,s1,_,rfl,by decide,fun p hp=>?_⟩
  have e:=same_new hp (HO.tup [V.str (Str.ofString "then"),av1,bv2])
  exact hC _ _ ⟨p,rfl,e,isT_nd.mpr ⟨p,_,_,rfl,.inl (.inl upd_same),f3.keep e.keepT,s2.keep e.keepT⟩⟩
 rintro σ1 H1 ⟨pb,rfl,e1,hb⟩
 refine seq_then (fun σ' H'=>∃ pa,σ'=[some (.ref la),some (.ref ia),some (.ref pf),some (.ref ps),some (.ref pb),some (.ref pa)]∧Same H H'∧IsT K H' (.ref pb) (.nd .thn a1 b2)∧IsT K H' (.ref pa) (.nd .thn b1 a2)) ?_ ?_
 rotate_left
 ·intro C hC
  walk_at "rdx_1"
  refine⟨_,e1.sqt f1,_,rfl,_,e1.sqt s1,_,rfl,by decide,fun p hp=>?_⟩
  have e:=same_new hp (HO.tup [V.str (Str.ofString "then"),bv1,av2])
  exact hC _ _ ⟨p,rfl,e1.trans e,hb.keep e.keepT,isT_nd.mpr ⟨p,_,_,rfl,.inl (.inl upd_same),(f2.keep e1.keepT).keep e.keepT,(s3.keep e1.keepT).keep e.keepT⟩⟩
 rintro σ2 H2 ⟨pa,rfl,e2,hb,ha⟩
 have okB:Tm.ok (.nd .thn a1 b2):=⟨oa1,ob2⟩
 have okA:Tm.ok (.nd .thn b1 a2):=⟨ob1,oa2⟩
 have pB:Tm.parts (.nd .thn a1 b2)≤110:=by show 1+_+_≤110;omega
 have pA:Tm.parts (.nd .thn b1 a2)≤110:=by show 1+_+_≤110;omega
 have hL2:=hL.keep (e2.sb la) (e2 _ _ hL.h)
 have hI2:=hI.keep e2
 refine seq_then (fun σ' H'=>∃ us' y,σ'=[some (.ref la),some (.ref ia),some (.ref pf),some (.ref ps),some (.ref pb),some (.ref pa)]∧SB la H2 H'∧NF H2 H'∧LS K H' F la us' (xs++[y])∧y.1.ws=norm (ifs++[.nd .thn a1 b2,b1])∧y.1.g=a2) ?_ ?_
 rotate_left
 ·intro C hC
  walk_at "rdx_1"
  refine⟨.inl ⟨rfl,_,SqL.of hL2.h⟩,_,e2.sqt f1,_,rfl,by decide,fun p hp=>more_of hI2 iok hp (.cons hb (.cons (f2.keep e2.keepT) .nil)) (okw2 okB pB ob1 (by omega)) (by simp) fun r H3 e3 fr hw=>⟨_,(e2.trans e3).sqt s1,_,rfl,_,(e2.trans e3).sqt f1,_,rfl,_,(e2.trans e3).sqt s1,_,rfl,by decide,fun a4 h4=>⟨by decide,fun p5 hp5=>?_⟩⟩⟩
  obtain⟨g1,g2,g3,g4⟩:=hL2.put (x:="use") (R:=some .use) (ls:=[(n1:Int),(n2:Int)]) (on:=some (.nd .thn a1 b2)) e3 rfl fr hw ((s3.keep e2.keepT).keep e3.keepT) ⟨hb.keep e3.keepT,okB,pB⟩ h4 hp5 (g_use ln1 (map_at1 f4) f6 f5 ln2 (map_at1 s4) s6 s5) (iok.ln rfl (okw2 okB pB ob1 (by omega)) (by simp) oa2 (by omega) (by simp))
  exact⟨us,g1,small1M (by omega),hC _ _ ⟨_,_,rfl,g3,g4,g2,rfl,rfl⟩⟩
 rintro σ3 H3 ⟨us3,y3,rfl,sb3,nf3,hL3,hw3,hg3⟩
 have k3:KeepT K H2 H3:=sb3.keepT hL2.h
 have hI3:IsW K H3 ia ifs:=by
  obtain⟨⟨zs,z1,z2⟩,z3⟩:=hI2
  exact⟨⟨zs,sb3 _ _ nia z1,paired_keepT k3 z2⟩,z3⟩
 have l3:=hL3.len
 rw[List.length_append,List.length_singleton] at l3
 have hb3:=hb.keep k3
 have ha3:=ha.keep k3
 refine seq_then (fun σ' H'=>∃ us' y,σ'=[some (.ref la),some (.ref ia),some (.ref pf),some (.ref ps),some (.ref pb),some (.ref pa)]∧SB la H3 H'∧NF H3 H'∧LS K H' F la us' (xs++[y3]++[y])∧y.1.ws=norm (ifs++[.nd .thn a1 b2])∧y.1.g=.nd .thn b1 a2) ?_ ?_
 rotate_left
 ·intro C hC
  walk_at "rdx_1"
  refine⟨.inl ⟨rfl,_,SqL.of hL3.h⟩,by decide,fun p hp=>more_of hI3 iok hp (.cons hb3 .nil) (okw1 okB pB) (by simp) fun r H4 e4 fr hw=>⟨us3,.inl (SqL.of (e4 _ _ hL3.h)),by decide,fun a5 h5=>⟨by decide,fun p6 hp6=>?_⟩⟩⟩
  have el:((us3.length:Nat):Int) - 1=((xs.length:Nat):Int):=by omega
  rw[el] at hp6 ⊢
  obtain⟨g1,g2,g3,g4⟩:=hL3.put (x:="then") (R:=some .thn) (ls:=[((xs.length:Nat):Int)]) (on:=none) e4 rfl fr hw (ha3.keep e4.keepT) rfl h5 hp6 (g_thn (b2':=b2) (by rw[List.length_append,List.length_singleton];omega) (map_at1 (snoc_at xs y3)) hg3 hw3) (iok.ln rfl (okw1 okB pB) (by simp) okA pA (by simp))
  exact⟨us3,g1,small1M (by omega),hC _ _ ⟨_,_,rfl,g3,g4,g2,rfl,rfl⟩⟩
 rintro σ4 H4 ⟨us4,y4,rfl,sb4,nf4,hL4,hw4,hg4⟩
 walk_at "rdx_1"
 refine⟨us4,.inl (SqL.of hL4.h),by decide,fun p hp=>?_⟩
 have k4:KeepT K H3 H4:=sb4.keepT hL3.h
 obtain⟨g1,g2⟩:=hL4.told hw4 hg4 (hb3.keep k4) (ha3.keep k4) hp rfl
 have sp:=same_new hp (HO.tup [.ref pb,.ref pa,V.int ((us4.length:Nat) - 1)])
 rw[List.append_assoc] at g1 g2
 exact q _ _ us4 ([y3]++[y4]) (xs++[y3]).length ((((e2.sb la).trans sb3).trans sb4).trans (sp.sb la)) ((((Same.nf e2).trans nf3).trans nf4).trans (Same.nf sp)) g1 g2 (by simp) (by simp)
end
noncomputable abbrev s_bg0:Stmt:=top 19
theorem sc_bg0:FnScope ["statement","word","one","other","ifs","lines","told","part","back","deed","first","second","with_one","with_other"] ["statement","word","one","other"] (defScope s_bg0):=⟨rfl,rfl,rfl,by decide +kernel,rfl,by decide +kernel,by decide +kernel⟩
noncomputable def InvS (K:PySem.W.Frag) (T:Addr) (v:V) (x:Str) (v1 v2:V) (ia la tl dr:Addr) (H4:Hp) (dus:List V) (t o1 o2:Tm) (i:Nat) (σ':St) (H':Hp):Prop:=∃ (x7 x8 x9 x10 x11 x12 x13:Option V) (us:List V) (xs:List LnA) (ts:List V) (fs:List (Tm×Bool)),σ'=[some v,some (.str x),some v1,some v2,some (.ref ia),some (.ref la),some (.ref tl),x7,x8,x9,x10,x11,x12,x13]∧KeepT K H4 H'∧TabOk H' T ds_placed∧LS K H' [tl,ia,dr] la us xs∧H' dr=some (.lst dus)∧IsW K H' ia (ifs62 o1 o2)∧H' tl=some (.lst ts)∧Paired (fun u s=>∃ n,Tld K H' xs (ifs62 o1 o2) u (bT x o1 o2 s) (aT x o1 o2 s) n) ts fs.reverse∧fs.flatMap dirsP=(t.dirs false).drop (dus.length - i)∧ts.length≤i∧xs.length≤3*i∧(∀ f fs',fs=f :: fs'→∃ xs' y,xs=xs'++[y]∧y.1.ws=norm (ifs62 o1 o2++[bT x o1 o2 f])∧y.1.g=aT x o1 o2 f)
section
variable {P:Program} {w:World} {K:PySem.W.Frag} {mg:Str→Option Value} {base:Heap}
theorem ok_bg0 {k:Nat} {fK:Kd→Addr} {fdK:Kd→FuncData} {T:Addr} {f_bg0:Addr} {fd_bg0:FuncData} (F_bg0:Fun K "swapped" "swapped" s_bg0 f_bg0 fd_bg0) {f_bb0:Addr} {fd_bb0:FuncData} (G_bb0:FnOk P w K mg base CX0 k f_bb0 fd_bb0 ["some"] (sp_once K)) (m_bb0:mg "once"=some (.ref f_bb0)) (k_bb0:PySem.W.keepIn K (.ref f_bb0)=true) (b_bb0:Binds K fd_bb0 ["some"] []) {f_ax0:Addr} {fd_ax0:FuncData} (G_ax0:FnOk P w K mg base CX0 k f_ax0 fd_ax0 ["statement"] (sp_directed K)) (m_ax0:mg "directed"=some (.ref f_ax0)) (k_ax0:PySem.W.keepIn K (.ref f_ax0)=true) (b_ax0:Binds K fd_ax0 ["statement"] []) {f_be0:Addr} {fd_be0:FuncData} (G_be0:FnOk P w K mg base CX0 k f_be0 fd_be0 ["statement","word","other"] (sp_placed K T ds_placed)) (m_be0:mg "placed"=some (.ref f_be0)) (k_be0:PySem.W.keepIn K (.ref f_be0)=true) (b_be0:Binds K fd_be0 ["statement","word","other"] []) {f_au0:Addr} {fd_au0:FuncData} (G_au0:FnOk P w K mg base CX0 k f_au0 fd_au0 ["lines","ifs","before","after"] (sp_leaf62 K)) (m_au0:mg "by_simple"=some (.ref f_au0)) (k_au0:PySem.W.keepIn K (.ref f_au0)=true) (b_au0:Binds K fd_au0 ["lines","ifs","before","after"] []) {aPAIRED:Addr} (m_PAIRED:mg "PAIRED"=some (.ref aPAIRED)) (t_PAIRED:∀ H,SqT K H aPAIRED [.str "both",.str "one",.str "then"])
  {aDEEDS:Addr} (m_DEEDS:mg "DEEDS"=some (.ref aDEEDS)) (D_DEEDS:KDict K w aDEEDS (tblK fK)) (G_DEEDS:∀ r,FnOk P w K mg base CX0 k (fK r) (fdK r) ["lines","ifs","first","second"] (sp_deed62 K r)) (k_DEEDS:∀ r,PySem.W.keepIn K (.ref (fK r))=true) (b_DEEDS:∀ r,Binds K (fdK r) ["lines","ifs","first","second"] []) (m_reversed:mg "reversed"=none):FnOk P w K mg base CX0 (k+1) f_bg0 fd_bg0 ["statement","word","one","other"] (sp_swapped K T ds_placed):=by
 refine F_bg0.ok sc_bg0 (fun vs H Q E h=>?_) (fun cdv A outer s H vs Q E hr h=>?_)
 ·obtain⟨v,t,x,v1,v2,o1,o2,rfl,_⟩:=h
  rfl
 obtain⟨v,t,x,v1,v2,o1,o2,rfl,hT,tok,tp,hx,h1,h2,k1,k2,tab,q⟩:=h
 refine⟨_,(pss_cons (ps_set (i:=4) sc_bg0.nd rfl (Or.inl rfl) (pe_call G_bb0 hr (by exact rfl) m_bb0 k_bb0 b_bb0 .nil pass0 (pa_cons (pe_lst (pa_cons (pe_tup (pa_cons pe_str (pa_cons (pvM 2) (pa_cons (pvM 3) pa_nil)))) (pa_cons (pe_tup (pa_cons pe_str (pa_cons (pvM 3) (pa_cons (pvM 2) pa_nil)))) pa_nil))) pa_nil)))
 (pss_cons (ps_set (i:=5) sc_bg0.nd rfl (Or.inl rfl) (pe_lst pa_nil))
 (pss_cons (ps_set (i:=6) sc_bg0.nd rfl (Or.inl rfl) (pe_lst pa_nil))
 (pss_cons (ps_for PassesOwn.never rfl (pi_rev rfl m_reversed (pa_cons (pe_call G_ax0 hr (by exact rfl) m_ax0 k_ax0 b_ax0 .nil pass0 (pa_cons (pvM 0) pa_nil)) pa_nil)) (pg_tup rfl (pgs_cons (pg_name (i:=7) sc_bg0.nd rfl (Or.inl rfl)) (pgs_cons (pg_name (i:=8) sc_bg0.nd rfl (Or.inl rfl)) pgs_nil)))
  (pss_one (ps_if (pt_cmpRM (op_in_seq) (pe_ix ix_tup (pvM 7) pe_int (fun _ _=>rfl)) (pe_glob (v:=.ref aPAIRED) (by exact rfl) m_PAIRED (by exact rfl)) (by with_unfolding_all rfl))
  (pss_cons (ps_set (i:=9) sc_bg0.nd rfl (Or.inl rfl) (pe_kdget D_DEEDS rfl m_DEEDS (pe_ix ix_tup (pvM 7) pe_int (fun _ _=>rfl))))
 (pss_cons (ps_set (i:=10) sc_bg0.nd rfl (Or.inl rfl) (pe_bm0 PySem.F.plainAttrs_list PySem.F.slot_list_pop PySem.F.type_list_pop mt_pop (pvM 6)))
 (pss_cons (ps_set (i:=11) sc_bg0.nd rfl (Or.inl rfl) (pe_bm0 PySem.F.plainAttrs_list PySem.F.slot_list_pop PySem.F.type_list_pop mt_pop (pvM 6)))
 (pss_one (ps_expr (pe_bm PySem.F.plainAttrs_list PySem.F.slot_list_append PySem.F.type_list_append mt_append (pvM 6) (pa_cons (pe_callT (i:=9) G_DEEDS hr rfl k_DEEDS b_DEEDS (pa_cons (pvM 5) (pa_cons (pvM 4) (pa_cons (pvM 10) (pa_cons (pvM 11) pa_nil))))) pa_nil)))))))
  (pss_cons (ps_par (i:=12) (j:=13) rfl sc_bg0.nd rfl rfl (by decide) rfl rfl (pa_cons (pe_call G_be0 hr (by exact rfl) m_be0 k_be0 b_be0 .nil pass0 (pa_cons (pvM 7) (pa_cons (pvM 1) (pa_cons (pvM 2) pa_nil)))) (pa_cons (pe_call G_be0 hr (by exact rfl) m_be0 k_be0 b_be0 .nil pass0 (pa_cons (pvM 7) (pa_cons (pvM 1) (pa_cons (pvM 3) pa_nil)))) pa_nil)) rfl)
 (pss_one (ps_expr (pe_bm PySem.F.plainAttrs_list PySem.F.slot_list_append PySem.F.type_list_append mt_append (pvM 6) (pa_cons (pe_ifExp (pt_val (pvM 8)) (pe_call G_au0 hr (by exact rfl) m_au0 k_au0 b_au0 .nil pass0 (pa_cons (pvM 5) (pa_cons (pvM 4) (pa_cons (pvM 13) (pa_cons (pvM 12) pa_nil))))) (pe_call G_au0 hr (by exact rfl) m_au0 k_au0 b_au0 .nil pass0 (pa_cons (pvM 5) (pa_cons (pvM 4) (pa_cons (pvM 12) (pa_cons (pvM 13) pa_nil)))))) pa_nil))))))))
 (pss_one (ps_ret (pvM 5))))))),?_⟩
 refine seq_then (fun σ' H'=>∃ ia,σ'=[some v,some (.str x),some v1,some v2,some (.ref ia),none,none,none,none,none,none,none,none,none]∧Same H H'∧IsW K H' ia (ifs62 o1 o2)) ?_ ?_
 rotate_left
 ·intro C hC
  walk_at "rdx_1"
  refine⟨by decide,fun p hp=>⟨by decide,fun p1 hp1=>⟨by decide,fun p2 hp2=>?_⟩⟩⟩
  have s1:=same_new hp (HO.tup [V.str (Str.ofString "then"),v1,v2])
  have s2:=same_new hp1 (HO.tup [V.str (Str.ofString "then"),v2,v1])
  have s3:=same_new hp2 (HO.lst [V.ref p,V.ref p1])
  have S:=s1.trans (s2.trans s3)
  have kp1:=k1.p
  have kp2:=k2.p
  have a1:IsT K _ (.ref p) (.nd .thn o1 o2):=isT_nd.mpr ⟨p,v1,v2,rfl,(s2.trans s3).sqt (.inl (.inl upd_same)),h1.keep S.keepT,h2.keep S.keepT⟩
  have a2:IsT K _ (.ref p1) (.nd .thn o2 o1):=isT_nd.mpr ⟨p1,v2,v1,rfl,s3.sqt (.inl (.inl upd_same)),h2.keep S.keepT,h1.keep S.keepT⟩
  refine⟨p2,_,[.nd .thn o1 o2,.nd .thn o2 o1],rfl,SqL.of upd_same,.cons a1 (.cons a2 .nil),by simp,fun t' ht'=>?_,fun r H' us os e f hr hu _ hm hso=>?_⟩
  ·simp only[List.mem_cons,List.not_mem_nil,or_false] at ht'
   rcases ht' with rfl | rfl
   ·show 1+o1.parts+o2.parts≤400;omega
   ·show 1+o2.parts+o1.parts≤400;omega
  ·have eo:os=ifs62 o1 o2:=norm_uniq hso hm
   subst eo
   exact hC _ _ ⟨r,rfl,S.trans e,⟨us,hr,hu⟩,hso⟩
 rintro σ1 H1 ⟨ia,rfl,e1,hI⟩
 refine seq_then (fun σ' H'=>∃ la,σ'=[some v,some (.str x),some v1,some v2,some (.ref ia),some (.ref la),none,none,none,none,none,none,none,none]∧Same H H'∧IsW K H' ia (ifs62 o1 o2)∧H' la=some (.lst [])∧la≠ia) ?_ ?_
 rotate_left
 ·intro C hC
  walk_at "rdx_1"
  refine⟨by decide,fun la hla=>?_⟩
  have s1:=same_new hla (HO.lst [])
  obtain⟨⟨zs,z1,z2⟩,z3⟩:=id hI
  exact hC _ _ ⟨la,rfl,e1.trans s1,hI.keep s1,upd_same,fun z=>by rw[z,z1] at hla;cases hla⟩
 rintro σ2 H2 ⟨la,rfl,e2,hI2,hl2,n2⟩
 refine seq_then (fun σ' H'=>∃ tl,σ'=[some v,some (.str x),some v1,some v2,some (.ref ia),some (.ref la),some (.ref tl),none,none,none,none,none,none,none]∧Same H H'∧IsW K H' ia (ifs62 o1 o2)∧H' la=some (.lst [])∧H' tl=some (.lst [])∧la≠ia∧tl≠la∧tl≠ia) ?_ ?_
 rotate_left
 ·intro C hC
  walk_at "rdx_1"
  refine⟨by decide,fun tl htl=>?_⟩
  have s1:=same_new htl (HO.lst [])
  obtain⟨⟨zs,z1,z2⟩,z3⟩:=id hI2
  exact hC _ _ ⟨tl,rfl,e2.trans s1,hI2.keep s1,s1 _ _ hl2,upd_same,n2,(fun z=>by rw[z,hl2] at htl;cases htl),fun z=>by rw[z,z1] at htl;cases htl⟩
 rintro σ3 H3 ⟨tl,rfl,e3,hI3,hl3,ht3,n3,n4,n5⟩
 refine seq_then (fun σ' H'=>∃ x7 x8 x9 x10 x11 x12 x13 F us xs y,σ'=[some v,some (.str x),some v1,some v2,some (.ref ia),some (.ref la),some (.ref tl),x7,x8,x9,x10,x11,x12,x13]∧KeepT K H H'∧TabOk H' T ds_placed∧LS K H' F la us (xs++[y])∧y.1.ws=norm (ifs62 o1 o2++[t.sub x o1])∧y.1.g=t.sub x o2∧(xs++[y]).length≤3*t.parts) ?_ ?_
 rotate_left
 ·intro C hC
  walk_at "rdx_2"
  refine⟨v,t,rfl,hT.keep e3.keepT,by omega,fun dr H4 dus e4 fdr h4 hdu=>⟨dr,rfl,dus,SqL.of h4,?_⟩⟩
  have ld:dus.length=t.parts:=by rw[Paired.length hdu,dirs_len]
  have E4:=e3.trans e4
  have hI4:=hI3.keep e4
  obtain⟨⟨zi,zi1,zi2⟩,zi3⟩:=id hI3
  have iok:=ifs62_ok k1 k2
  have ndr:dr≠la∧dr≠tl∧dr≠ia:=⟨(fun z=>by rw[z,hl3] at fdr;cases fdr),(fun z=>by rw[z,ht3] at fdr;cases fdr),(fun z=>by rw[z,zi1] at fdr;cases fdr)⟩
  have hL4:LS K H4 [tl,ia,dr] la [] []:=⟨e4 _ _ hl3,.nil,fun i hi=>absurd hi (Nat.not_lt_zero _),fun y hy=>absurd hy (by simp),by
   show [la,tl,ia,dr].Nodup
   simp only[List.nodup_cons,List.mem_cons,List.not_mem_nil,or_false,not_or]
   exact⟨⟨fun z=>n4 z.symm,n3,fun z=>ndr.1 z.symm⟩,⟨n5,fun z=>ndr.2.1 z.symm⟩,fun z=>ndr.2.2 z.symm,fun z=>z.elim,List.nodup_nil⟩,fun a ha=>by
   simp only[List.mem_cons,List.not_mem_nil,or_false] at ha
   rcases ha with rfl | rfl | rfl
   ·exact⟨_,e4 _ _ ht3⟩
   ·exact⟨_,e4 _ _ zi1⟩
   ·exact⟨_,h4⟩⟩
  refine for_rev (D:={ nx:=C,rt:=Q }) (xs:=dus) (InvS K T v x v1 v2 ia la tl dr H4 dus t o1 o2)
   ⟨none,none,none,none,none,none,none,[],[],[],[],rfl,fun _ _ z=>z,tab.keep E4,hL4,h4,hI4,e4 _ _ ht3,.nil,?_,Nat.le_refl _,Nat.zero_le _,fun f fs' z=>nomatch z⟩ (fun i σ' H' _ ⟨_,_,_,_,_,_,_,_,_,_,_,_,_,_,_,h,_⟩=>SqL.of h) (fun i u σ' H' hi hu hI=>?_) (fun σ' H' hI=>?_)
  ·rw[Nat.sub_zero,ld,← dirs_len t false,List.drop_length];rfl
  ·obtain⟨x7,x8,x9,x10,x11,x12,x13,us,xs,ts,fs,rfl,kk,tb,hL,hdr,hI',htl,hp',hf,hts,hxs,hlast⟩:=hI
   obtain⟨sd,hsd,hxD⟩:=paired_get hdu hu
   have hj:dus.length - 1 - i < (t.dirs false).length:=by rw[dirs_len];omega
   obtain⟨s2,rest,g1,g2,g3⟩:=dirs_drop t false _ hj
   rw[hsd] at g1
   cases g1
   obtain⟨pt,d⟩:=sd
   obtain⟨pp,tv,rfl,hs,hTv⟩:=hxD.keep kk
   have okp:pt.ok:=Tm.pre_ok tok pt g3
   have ppt:pt.parts≤t.parts:=mem_pre_parts g3
   have ej:dus.length - i=dus.length - 1 - i+1:=by omega
   have dr':(t.dirs false).drop (dus.length - i)=(kidsD (pt,d)).flatMap dirsP++rest:=by
    have:=congrArg List.tail g2
    rw[List.tail_drop,← ej,dirs_eq (pt,d),List.cons_append,List.tail_cons] at this
    exact this
   rw[dr'] at hf
   have eu:dus.length - (i+1)=dus.length - 1 - i:=by omega
   have lus:=hL.len
   have hv1:=(h1.keep E4.keepT).keep kk
   have hv2:=(h2.keep E4.keepT).keep kk
   have nla:tl≠la:=n4
   have fin:∀ (x7 x8 x9 x10 x11 x12 x13:Option V) (H7 H8:Hp) (us8:List V) (ts8:List V) (fs8:List (Tm×Bool)) (ys:List LnA) (r:V) (n:Nat),KeepT K H4 H7→TabOk H7 T ds_placed→LS K H7 [tl,ia,dr] la us8 (xs++ys)→H7 dr=some (.lst dus)→IsW K H7 ia (ifs62 o1 o2)→H7 tl=some (.lst ts8)→Paired (fun u s=>∃ n,Tld K H7 (xs++ys) (ifs62 o1 o2) u (bT x o1 o2 s) (aT x o1 o2 s) n) ts8 fs8.reverse→fs8.flatMap dirsP=rest→ts8.length≤i→ys.length≤3 →
     Tld K H7 (xs++ys) (ifs62 o1 o2) r (bT x o1 o2 (pt,d)) (aT x o1 o2 (pt,d)) n→n+1=(xs++ys).length→H8=upd H7 tl (.lst (ts8++[r])) →
     InvS K T v x v1 v2 ia la tl dr H4 dus t o1 o2 (i+1) [some v,some (.str x),some v1,some v2,some (.ref ia),some (.ref la),some (.ref tl),x7,x8,x9,x10,x11,x12,x13] H8:=fun x7 x8 x9 x10 x11 x12 x13 H7 H8 us8 ts8 fs8 ys r n c1 c2 c3 c4 c5 c6 c7 c8 c9 c10 c11 c12 c13=>by
    subst c13
    have kt:KeepT K H7 (upd H7 tl (.lst (ts8++[r]))):=keepT_lst c6
    have wb:SB tl H7 (upd H7 tl (.lst (ts8++[r]))):=(SB.refl tl H7).write _
    refine⟨x7,x8,x9,x10,x11,x12,x13,us8,xs++ys,ts8++[r],(pt,d) :: fs8,rfl,c1.trans kt,c2.sb wb c6,c3.other List.mem_cons_self _,wb _ _ ndr.2.1 c4,?_,upd_same,?_,?_,?_,?_,?_⟩
    ·obtain⟨⟨zs,z1,z2⟩,z3⟩:=c5
     exact⟨⟨zs,wb _ _ (fun z=>n5 z.symm) z1,paired_keepT kt z2⟩,z3⟩
    ·rw[List.reverse_cons]
     have up:∀ {u s m},Tld K H7 (xs++ys) (ifs62 o1 o2) u (bT x o1 o2 s) (aT x o1 o2 s) m→Tld K (upd H7 tl (.lst (ts8++[r]))) (xs++ys) (ifs62 o1 o2) u (bT x o1 o2 s) (aT x o1 o2 s) m:=fun {u s m} z=>by
      have:=z.keep kt (ys:=[])
      rw[List.append_nil] at this
      exact this
     exact paired_app (Paired.mapP c7 fun _ _ ⟨m,z⟩=>⟨m,up z⟩) (.cons ⟨n,up c11⟩ .nil)
    ·rw[List.flatMap_cons,c8,eu,g2]
    ·rw[List.length_append,List.length_singleton];omega
    ·rw[List.length_append];omega
    ·intro f fs' z
     cases z
     obtain⟨_,_,_,y,_,_,_,_,z1,z2,z3⟩:=c11
     have hl:n < (xs++ys).length:=by omega
     rw[List.getElem?_eq_getElem hl] at z1
     cases z1
     have en:n=(xs++ys).length - 1:=by omega
     subst en
     refine⟨(xs++ys).dropLast,_,?_,z2,z3⟩
     have hne:xs++ys≠[]:=fun z=>by rw[z] at hl;exact absurd hl (Nat.not_lt_zero _)
     rw[← List.getLast_eq_getElem hne,List.dropLast_concat_getLast hne]
   show gTup K _ _ _ _ _ _
   generalize InvS K T v x v1 v2 ia la tl dr H4 dus t o1 o2 (i+1)=N at fin ⊢
   walk_at "rdx_3"
   refine⟨_,hs,rfl,_,_,rfl,_,_,rfl,rfl,?_⟩
   have hcase:(∃ kd a b,pt=.nd kd a b)∨(pt.kids=[]∧kidsD (pt,d)=[]∧pt.parts=1∧∃ pa c zs,tv=.ref pa∧SqT K H' pa (.str c :: zs)∧inV (.str c) [.str "both",.str "one",.str "then"]=false):=by
    cases pt with
    | nd kd a b=>exact .inl ⟨kd,a,b,rfl⟩
    | low =>
     obtain⟨pa,rfl,hsa⟩:=isT_low.mp hTv
     exact .inr ⟨rfl,rfl,rfl,pa,_,_,rfl,hsa,by decide⟩
    | ltr y =>
     obtain⟨pa,rfl,hsa⟩:=isT_ltr.mp hTv
     exact .inr ⟨rfl,rfl,rfl,pa,_,_,rfl,hsa,by decide⟩
   have hia:ia≠la:=fun z=>n3 z.symm
   have li:i < 25:=by omega
   obtain⟨ob,oa,pb,pa'⟩:=bT_ok (x:=x) k1 k2 (s:=(pt,d)) okp
   rcases hcase with ⟨kd,a,b,rfl⟩ | ⟨hk0,hk1,hk2,pa,c,zs,rfl,hsa,hin⟩
   ·obtain⟨pa,va,vb,rfl,hsa,ha,hb⟩:=isT_nd.mp hTv
    refine⟨pa,rfl,_,hsa,_,rfl,_,.inr (t_PAIRED H'),rfl,rfl,?_⟩
    rw[if_pos (by cases kd<;>decide)]
    walk_at "rdx_1"
    generalize hd1:(if kd=Kd.thn then !d else d)=d1
    have hf':fs.flatMap dirsP=dirsP (a,d1)++(dirsP (b,d)++rest):=by
     rw[hf]
     show (dirsP (a,if kd=Kd.thn then !d else d)++(dirsP (b,d)++[]))++rest=_
     rw[hd1,List.append_nil,List.append_assoc]
    obtain⟨fs1,rfl,hf1⟩:=dirsF_head hf'
    obtain⟨fs2,rfl,hf2⟩:=dirsF_head hf1
    rw[List.reverse_cons,List.reverse_cons] at hp'
    obtain⟨ts1,u1,rfl,hp1,m1,T1⟩:=paired_snocK hp'
    obtain⟨ts2,u2,rfl,hp2,m2,T2⟩:=paired_snocK hp1
    rw[List.length_append,List.length_append,List.length_singleton,List.length_singleton] at hts
    refine⟨_,hsa,_,rfl,_,rfl,_,tblK_at fK kd,.inl ⟨rfl,_,SqL.of htl⟩,_,htl,u1,by simp,?_⟩
    rw[List.dropLast_concat]
    refine⟨.inl ⟨rfl,_,SqL.of upd_same⟩,_,upd_same,u2,by simp,?_⟩
    rw[List.dropLast_concat,upd_upd]
    have kt5:KeepT K H' (upd H' tl (.lst ts2)):=keepT_lst htl
    have wb:SB tl H' (upd H' tl (.lst ts2)):=(SB.refl tl H').write _
    have hL5:=hL.other (d:=tl) List.mem_cons_self ts2
    have tb5:=tb.sb wb htl
    have hdr5:=wb _ _ ndr.2.1 hdr
    have hI5:IsW K (upd H' tl (.lst ts2)) ia (ifs62 o1 o2):=by
     obtain⟨⟨zs,z1,z2⟩,z3⟩:=hI'
     exact⟨⟨zs,wb _ _ (fun z=>n5 z.symm) z1,paired_keepT kt5 z2⟩,z3⟩
    have ht5:upd H' tl (.lst ts2) tl=some (.lst ts2):=upd_same
    have keep0:∀ {u s m},Tld K H' xs (ifs62 o1 o2) u (bT x o1 o2 s) (aT x o1 o2 s) m→Tld K (upd H' tl (.lst ts2)) xs (ifs62 o1 o2) u (bT x o1 o2 s) (aT x o1 o2 s) m:=fun {u s m} z=>by
     have:=z.keep kt5 (ys:=[])
     rw[List.append_nil] at this
     exact this
    have T1':=keep0 T1
    have T2':=keep0 T2
    generalize upd H' tl (.lst ts2)=H5 at kt5 hL5 tb5 hdr5 hI5 ht5 T1' T2' ⊢
    obtain⟨ob1,oa1,pb1,pa1⟩:=bT_ok (x:=x) k1 k2 (s:=(a,d1)) okp.1
    obtain⟨ob2,oa2,pb2,pa2⟩:=bT_ok (x:=x) k1 k2 (s:=(b,d)) okp.2
    have pn:1+a.parts+b.parts≤25:=Nat.le_trans ppt tp
    dsimp only at pb1 pa1 pb2 pa2
    refine⟨.inl ⟨rfl,_,SqL.of ht5⟩,kd,rfl,[tl,ia,dr],la,ia,u1,u2,us,xs,ifs62 o1 o2,_,_,_,_,m1,m2,rfl,hL5,hia,hI5,iok,T1',T2',ob1,oa1,ob2,oa2,by omega,by omega,by omega,by omega,by omega,fun r H7 us7 ys n sb nf hL7 hT7 hn7 hy=>?_⟩
    subst hd1
    rw[bef_nd,aft_nd] at hT7
    have k7:KeepT K H5 H7:=sb.keepT hL5.h
    have ht7:=sb _ _ n4 ht5
    refine⟨ts2,ht7,small1M (by omega),fin _ _ _ _ _ _ _ H7 _ us7 ts2 fs2 ys r n ((kk.trans kt5).trans k7) (tb5.sb sb hL5.h) hL7 (sb _ _ ndr.1 hdr5) ?_ ht7 (Paired.mapP hp2 fun _ _ ⟨m,z⟩=>⟨m,z.keep (kt5.trans k7)⟩) hf2 (by omega) hy hT7 hn7 rfl⟩
    obtain⟨⟨zs,z1,z2⟩,z3⟩:=hI5
    exact⟨⟨zs,sb _ _ hia z1,paired_keepT k7 z2⟩,z3⟩
   ·refine⟨pa,rfl,_,hsa,_,at0 _ _,_,.inr (t_PAIRED H'),rfl,rfl,?_⟩
    rw[if_neg (by rw[if_neg Bool.false_ne_true,hin];exact Bool.false_ne_true)]
    rw[hk1] at hf
    walk_at "rdx_1"
    refine⟨.ref pa,pt,x,v1,o1,rfl,hTv,hv1,okp,hx,by omega,tb,fun r1 H5 e5 tb5 hr1=>⟨.ref pa,pt,x,v2,o2,rfl,hTv.keep (SameT.keepT e5),hv2.keep (SameT.keepT e5),okp,hx,by omega,tb5,fun r2 H6 e6 tb6 hr2=>?_⟩⟩
    have e56:=e5.trans e6
    have k56:KeepT K H' H6:=SameT.keepT e56
    have nt:∀ (zs:List V) (ps:Array Value),HO.lst zs≠HO.tbl ps:=fun _ _ z=>nomatch z
    have hL6:=hL.keepw (SameT.sb la e56) (e56 _ _ (nt _) hL.h)
    have ht6:=e56 _ _ (nt _) htl
    have hdr6:=e56 _ _ (nt _) hdr
    have hI6:IsW K H6 ia (ifs62 o1 o2):=by
     obtain⟨⟨zs,z1,z2⟩,z3⟩:=hI'
     exact⟨⟨zs,e56 _ _ (nt _) z1,paired_keepT k56 z2⟩,z3⟩
    have hr1':=hr1.keep (SameT.keepT e6)
    have done:∀ (bv av:V),IsT K H6 bv (bT x o1 o2 (pt,d))→IsT K H6 av (aT x o1 o2 (pt,d))→sp_leaf62 K [.ref la,.ref ia,bv,av] H6 (fun x_3 H1=>∃ x_4,H1 tl=some (.lst x_4)∧x_4.length < sizeLine∧N [some v,some (.str x),some v1,some v2,some (.ref ia),some (.ref la),some (.ref tl),some (.ref pa),some (.bl d),x9,x10,x11,some r1,some r2] (upd H1 tl (.lst (x_4++[x_3])))) E0:=fun bv av hbv hav=>by
     dsimp only at pb pa'
     refine⟨[tl,ia,dr],la,ia,bv,av,us,xs,ifs62 o1 o2,_,_,rfl,hL6,hia,hI6,iok,hbv,hav,ob,oa,by omega,by omega,leaf_in hk0,by omega,fun r H7 us7 ys n sb nf hL7 hT7 hn7 hy=>?_⟩
     have k7:KeepT K H6 H7:=sb.keepT hL6.h
     have ht7:=sb _ _ n4 ht6
     refine⟨ts,ht7,small1M (by omega),fin _ _ _ _ _ _ _ H7 _ us7 ts fs ys r n ((kk.trans k56).trans k7) (tb6.sb sb hL6.h) hL7 (sb _ _ ndr.1 hdr6) ?_ ht7 (Paired.mapP hp' fun _ _ ⟨m,z⟩=>⟨m,z.keep (k56.trans k7)⟩) hf hts (by omega) hT7 hn7 rfl⟩
     obtain⟨⟨zs,z1,z2⟩,z3⟩:=hI6
     exact⟨⟨zs,sb _ _ hia z1,paired_keepT k7 z2⟩,z3⟩
    refine⟨.inl ⟨rfl,_,SqL.of ht6⟩,?_⟩
    cases d with
    | true =>
     rw[if_pos rfl]
     exact done r2 r1 hr2 hr1'
    | false =>
     rw[if_neg Bool.false_ne_true]
     exact done r1 r2 hr1' hr2
  ·obtain⟨x7,x8,x9,x10,x11,x12,x13,us,xs,ts,fs,rfl,kk,tb,hL,_,_,_,hp,hf,_,hn,hlast⟩:=hI
   rw[Nat.sub_self,List.drop_zero,← List.append_nil (t.dirs false)] at hf
   obtain⟨fs',rfl,hf'⟩:=dirsF_head (a:=(t,false)) hf
   obtain⟨xs',y,rfl,y1,y2⟩:=hlast _ _ rfl
   exact hC _ _ ⟨x7,x8,x9,x10,x11,x12,x13,_,us,xs',y,rfl,E4.keepT.trans kk,tb,hL,y1,y2,by rw[ld] at hn;exact hn⟩
 rintro σ4 H4 ⟨x7,x8,x9,x10,x11,x12,x13,F,us,xs,y,rfl,kk,tb,hL,hw,hg,hn⟩
 walk_at "rdx_1"
 exact q la H4 F us xs y kk tb hL hw hg hn
end
noncomputable abbrev s_ag0:Stmt:=top 34
theorem sc_ag0:FnScope ["_law_found"] ["_law_found"] (defScope s_ag0):=⟨rfl,rfl,rfl,by decide +kernel,rfl,by decide +kernel,by decide +kernel⟩
noncomputable def sp_isst (K:PySem.W.Frag) (n:Nat):Sp:=fun vs H Q _=>∃ (v:V) (t:Tm),vs=[v]∧IsT K H v t∧t.deep < n∧∀ H',Same H H'→Q (.bl true) H'
section
variable {P:Program} {w:World} {K:PySem.W.Frag} {mg:Str→Option Value} {base:Heap}
theorem ok_ag0 {k n:Nat} {f_ag0:Addr} {fd_ag0:FuncData} (F_ag0:Fun K "_law_is_statement" "_law_is_statement" s_ag0 f_ag0 fd_ag0) (G_ag0:FnOk P w K mg base CX0 k f_ag0 fd_ag0 ["_law_found"] (sp_isst K n)) (m_ag0:mg "_law_is_statement"=some (.ref f_ag0)) (k_ag0:PySem.W.keepIn K (.ref f_ag0)=true) (b_ag0:Binds K fd_ag0 ["_law_found"] []) (m_isinstance:mg "isinstance"=none) (m_tuple:mg "tuple"=none) (m_str:mg "str"=none) (m_len:mg "len"=none):FnOk P w K mg base CX0 (k+1) f_ag0 fd_ag0 ["_law_found"] (sp_isst K (n+1)):=by
 refine F_ag0.ok sc_ag0 (fun vs H Q E h=>?_) (fun cdv A outer s H vs Q E hr h=>?_)
 ·obtain⟨v,t,rfl,_⟩:=h
  rfl
 obtain⟨v,t,rfl,hT,hd,q⟩:=h
 refine⟨_,(pss_cons (ps_if ((pw_or (pt_not (pt_val (pe_callB call_isi (by exact rfl) m_isinstance Ken.boot_isinstance (pa_cons (pvM 0) (pa_cons (pe_bltn (v:=.ty "tuple") (by exact rfl) m_tuple Ken.boot_tuple (by exact rfl)) pa_nil))))) (pw_or (pt_cmpRM (op_ltM) (pe_callB call_len_seq (by exact rfl) m_len Ken.boot_len (pa_cons (pvM 0) pa_nil)) pe_int (nomark _)) (pw_or1 (pt_not (pt_val (pe_callB call_isi (by exact rfl) m_isinstance Ken.boot_isinstance (pa_cons (pe_ix ix_tup (pvM 0) pe_int (fun _ _=>rfl)) (pa_cons (pe_bltn (v:=.ty "str") (by exact rfl) m_str Ken.boot_str (by exact rfl)) pa_nil))))))))).pt
  (pss_one (ps_ret pe_bl))
  pss_nil)
 (pss_cons (ps_if (pt_cmpRM (op_eq) (pe_ix ix_tup (pvM 0) pe_int (fun _ _=>rfl)) pe_str (nomark _))
  (pss_one (ps_ret (pe_cmpR (op_eq) (pe_callB call_len_seq (by exact rfl) m_len Ken.boot_len (pa_cons (pvM 0) pa_nil)) pe_int (nomark _))))
  pss_nil)
 (pss_cons (ps_if (pt_cmpRM (op_eq) (pe_ix ix_tup (pvM 0) pe_int (fun _ _=>rfl)) pe_str (nomark _))
  (pss_one (ps_ret (pe_and (pe_cmpR (op_eq) (pe_callB call_len_seq (by exact rfl) m_len Ken.boot_len (pa_cons (pvM 0) pa_nil)) pe_int (nomark _)) (pe_one (pe_callB call_isi (by exact rfl) m_isinstance Ken.boot_isinstance (pa_cons (pe_ix ix_tup (pvM 0) pe_int (fun _ _=>rfl)) (pa_cons (pe_bltn (v:=.ty "str") (by exact rfl) m_str Ken.boot_str (by exact rfl)) pa_nil)))))))
  pss_nil)
 (pss_cons (ps_if ((pw_or (pt_cmpRM (op_notIn_seq) (pe_ix ix_tup (pvM 0) pe_int (fun _ _=>rfl)) (pe_lst (pa_cons pe_str (pa_cons pe_str (pa_cons pe_str pa_nil)))) (by with_unfolding_all rfl)) (pw_or1 (pt_cmpRM (op_ne) (pe_callB call_len_seq (by exact rfl) m_len Ken.boot_len (pa_cons (pvM 0) pa_nil)) pe_int (nomark _))))).pt
  (pss_one (ps_ret pe_bl))
  pss_nil)
 (pss_one (ps_ret (pe_and (pe_call G_ag0 hr (by exact rfl) m_ag0 k_ag0 b_ag0 .nil pass0 (pa_cons (pe_ix ix_tup (pvM 0) pe_int (fun _ _=>rfl)) pa_nil)) (pe_one (pe_call G_ag0 hr (by exact rfl) m_ag0 k_ag0 b_ag0 .nil pass0 (pa_cons (pe_ix ix_tup (pvM 0) pe_int (fun _ _=>rfl)) pa_nil)))))))))),?_⟩
 obtain⟨p,zs,rfl,hs⟩:=isT_headS hT
 refine seq_then (fun σ' H'=>σ'=[some (.ref p)]∧H'=H) ?_ ?_
 rotate_left
 ·intro C hC
  walk_at "rdx_1"
  refine⟨_,.tupK hs,_,rfl,?_⟩
  rw[if_neg (by decide)]
  refine⟨_,.inr hs,?_⟩
  rw[if_neg (by show ¬ ((zs.length+1:Nat):Int) < 1;omega)]
  refine⟨_,hs,_,at0 _ _,_,.of (.str _),_,rfl,?_⟩
  rw[if_neg (by decide)]
  exact hC _ _ ⟨rfl,rfl⟩
 rintro σ1 H1 ⟨rfl,rfl⟩
 refine seq_then (fun σ' H'=>σ'=[some (.ref p)]∧H'=H1∧t≠.low) ?_ ?_
 rotate_left
 ·intro C hC
  walk_at "rdx_1"
  refine⟨_,hs,_,at0 _ _,rfl,?_⟩
  cases t with
  | low =>
   obtain⟨p',e,hs'⟩:=isT_low.mp hT
   cases e
   rw[if_pos (by rfl)]
   exact⟨_,.inr hs',q _ (Same.refl _)⟩
  | ltr y=>rw[if_neg (by intro z;exact absurd (show ("letter":Str)="low" from V.str.inj z) (by decide))];exact hC _ _ ⟨rfl,rfl,fun z=>nomatch z⟩
  | nd kd a b=>rw[if_neg (by intro z;exact absurd (show kd.str="low" from V.str.inj z) (by cases kd<;>decide))];exact hC _ _ ⟨rfl,rfl,fun z=>nomatch z⟩
 rintro σ2 H2 ⟨rfl,rfl,n1⟩
 refine seq_then (fun σ' H'=>σ'=[some (.ref p)]∧H'=H2∧∃ kd a b,t=.nd kd a b) ?_ ?_
 rotate_left
 ·intro C hC
  walk_at "rdx_1"
  refine⟨_,hs,_,at0 _ _,rfl,?_⟩
  cases t with
  | low=>exact absurd rfl n1
  | ltr y =>
   obtain⟨p',e,hs'⟩:=isT_ltr.mp hT
   cases e
   rw[if_pos (by rfl)]
   refine⟨_,.inr hs',?_⟩
   rw[if_pos (by rfl)]
   exact⟨_,hs',_,rfl,_,.of (.str _),_,rfl,q _ (Same.refl _)⟩
  | nd kd a b=>rw[if_neg (by intro z;exact absurd (show kd.str="letter" from V.str.inj z) (by cases kd<;>decide))];exact hC _ _ ⟨rfl,rfl,kd,a,b,rfl⟩
 rintro σ3 H3 ⟨rfl,rfl,kd,a,b,rfl⟩
 obtain⟨p',va,vb,e,hs',ha,hb⟩:=isT_nd.mp hT
 cases e
 have hdd:1+max a.deep b.deep≤n:=by have:(Tm.nd kd a b).deep=1+max a.deep b.deep:=rfl;omega
 refine seq_then (fun σ' H'=>σ'=[some (.ref p)]∧Same H3 H') ?_ ?_
 rotate_left
 ·intro C hC
  walk_at "rdx_1"
  refine⟨_,hs',_,rfl,by decide,fun p4 hp4=>?_⟩
  have s4:=same_new hp4 (HO.lst [V.str (Str.ofString "both"),V.str (Str.ofString "one"),V.str (Str.ofString "then")])
  refine⟨_,.inl (SqL.of upd_same),rfl,rfl,?_⟩
  rw[if_neg (by rw[if_pos trivial];cases kd<;>decide)]
  refine⟨_,.inr (s4.sqt hs'),?_⟩
  rw[if_neg (by show ¬ (!decide ((3:Int)=3))=true;decide)]
  exact hC _ _ ⟨rfl,s4⟩
 rintro σ4 H4 ⟨rfl,e4⟩
 walk_at "rdx_1"
 refine⟨_,e4.sqt hs',_,rfl,va,a,rfl,ha.keep e4.keepT,by omega,fun H5 e5=>⟨_,rfl,?_⟩⟩
 rw[if_pos rfl]
 have e45:=e4.trans e5
 exact⟨_,e45.sqt hs',_,rfl,vb,b,rfl,hb.keep e45.keepT,by omega,fun H6 e6=>q _ (e45.trans e6)⟩
theorem isst_zero {f:Addr} {fd:FuncData} {ps:List Str} {k:Nat}:FnOk P w K mg base CX0 k f fd ps (sp_isst K 0):=by
 have no:∀ vs H Q E,¬ sp_isst K 0 vs H Q E:=fun vs H Q E h=>by
  obtain⟨v,t,_,_,hd,_⟩:=h
  omega
 exact⟨fun vs H Q E h=>absurd h (no vs H Q E),fun A outer s H args us vs Q E _ _ _ _ h=>absurd h (no vs H Q E)⟩
theorem all_ag0 {f_ag0:Addr} {fd_ag0:FuncData} (F_ag0:Fun K "_law_is_statement" "_law_is_statement" s_ag0 f_ag0 fd_ag0) (m_ag0:mg "_law_is_statement"=some (.ref f_ag0)) (b_ag0:Binds K fd_ag0 ["_law_found"] []) (m_isinstance:mg "isinstance"=none) (m_tuple:mg "tuple"=none) (m_str:mg "str"=none) (m_len:mg "len"=none) :
  ∀ n:Nat,FnOk P w K mg base CX0 (n+1) f_ag0 fd_ag0 ["_law_found"] (sp_isst K n)
 | 0=>isst_zero
 | n+1=>ok_ag0 F_ag0 (all_ag0 F_ag0 m_ag0 b_ag0 m_isinstance m_tuple m_str m_len n) m_ag0 F_ag0.kp b_ag0 m_isinstance m_tuple m_str m_len
end
noncomputable abbrev s_aq0:Stmt:=top 23
theorem sc_aq0:FnScope ["_law_found"] ["_law_found"] (defScope s_aq0):=⟨rfl,rfl,rfl,by decide +kernel,rfl,by decide +kernel,by decide +kernel⟩
section
variable {P:Program} {w:World} {K:PySem.W.Frag} {mg:Str→Option Value} {base:Heap}
theorem ok_aq0 {k:Nat} {f_aq0:Addr} {fd_aq0:FuncData} (F_aq0:Fun K "_law_whole" "_law_whole" s_aq0 f_aq0 fd_aq0) (m_isinstance:mg "isinstance"=none) (m_int:mg "int"=none) (m_bool:mg "bool"=none):FnOk P w K mg base CX0 (k+1) f_aq0 fd_aq0 ["_law_found"] sp_whole:=by
 refine F_aq0.ok sc_aq0 (fun vs H Q E h=>?_) (fun cdv A outer s H vs Q E hr h=>?_)
 ·obtain⟨i,rfl,_⟩:=h
  rfl
 obtain⟨i,rfl,q⟩:=h
 refine⟨_,(pss_one (ps_ret (pe_and (pe_callB call_isi (by exact rfl) m_isinstance Ken.boot_isinstance (pa_cons (pvM 0) (pa_cons (pe_bltn (v:=.ty "int") (by exact rfl) m_int Ken.boot_int (by exact rfl)) pa_nil))) (pe_one (pe_not (pe_callB call_isi (by exact rfl) m_isinstance Ken.boot_isinstance (pa_cons (pvM 0) (pa_cons (pe_bltn (v:=.ty "bool") (by exact rfl) m_bool Ken.boot_bool (by exact rfl)) pa_nil)))))))),?_⟩
 walk_at "rdx_1"
 refine⟨_,.of (.int _),_,kit_same K "int",?_⟩
 rw[if_pos rfl]
 refine⟨_,.of (.int _),_,rfl,?_⟩
 exact q
end
noncomputable abbrev s_ah0:Stmt:=top 35
theorem sc_ah0:FnScope ["_law_line"] ["_law_line"] (defScope s_ah0):=⟨rfl,rfl,rfl,by decide +kernel,rfl,by decide +kernel,by decide +kernel⟩
noncomputable def sp_lform (K:PySem.W.Frag):Sp:=fun vs H Q _=>∃ (v:V) (l:Ln),vs=[v]∧IsLn K H v l∧OkLn l∧∀ H',Same H H'→Q (.bl true) H'
section
variable {P:Program} {w:World} {K:PySem.W.Frag} {mg:Str→Option Value} {base:Heap}
theorem ok_ah0 {k:Nat} {f_ah0:Addr} {fd_ah0:FuncData} (F_ah0:Fun K "_law_line_form" "_law_line_form" s_ah0 f_ah0 fd_ah0) {f_ag0:Addr} {fd_ag0:FuncData} (G_ag0:FnOk P w K mg base CX0 k f_ag0 fd_ag0 ["_law_found"] (sp_isst K 111)) (m_ag0:mg "_law_is_statement"=some (.ref f_ag0)) (k_ag0:PySem.W.keepIn K (.ref f_ag0)=true) (b_ag0:Binds K fd_ag0 ["_law_found"] []) {f_aq0:Addr} {fd_aq0:FuncData} (G_aq0:FnOk P w K mg base CX0 k f_aq0 fd_aq0 ["_law_found"] (sp_whole)) (m_aq0:mg "_law_whole"=some (.ref f_aq0)) (k_aq0:PySem.W.keepIn K (.ref f_aq0)=true) (b_aq0:Binds K fd_aq0 ["_law_found"] []) (m_isinstance:mg "isinstance"=none) (m_tuple:mg "tuple"=none) (m_str:mg "str"=none) (m_list:mg "list"=none) (m_len:mg "len"=none):FnOk P w K mg base CX0 (k+1) f_ah0 fd_ah0 ["_law_line"] (sp_lform K):=by
 refine F_ah0.ok sc_ah0 (fun vs H Q E h=>?_) (fun cdv A outer s H vs Q E hr h=>?_)
 ·obtain⟨v,l,rfl,_⟩:=h
  rfl
 obtain⟨v,l,rfl,hl,ok,q⟩:=h
 obtain⟨p,wa,la,gv,ov,us,rfl,h1,h2,h3,h4,h5,h6⟩:=hl
 have dp:∀ t:Tm,t.parts≤110→t.deep < 111:=fun t ht=>by have:=deep_parts t;omega
 refine⟨_,(pss_cons (ps_if ((pw_or (pt_not (pt_val (pe_callB call_isi (by exact rfl) m_isinstance Ken.boot_isinstance (pa_cons (pvM 0) (pa_cons (pe_bltn (v:=.ty "tuple") (by exact rfl) m_tuple Ken.boot_tuple (by exact rfl)) pa_nil))))) (pw_or (pt_cmpRM (op_ne) (pe_callB call_len_seq (by exact rfl) m_len Ken.boot_len (pa_cons (pvM 0) pa_nil)) pe_int (nomark _)) (pw_or1 (pt_not (pt_val (pe_callB call_isi (by exact rfl) m_isinstance Ken.boot_isinstance (pa_cons (pe_ix ix_tup (pvM 0) pe_int (fun _ _=>rfl)) (pa_cons (pe_bltn (v:=.ty "str") (by exact rfl) m_str Ken.boot_str (by exact rfl)) pa_nil))))))))).pt
  (pss_one (ps_ret pe_bl))
  pss_nil)
 (pss_cons (ps_if ((pw_or (pt_not (pt_val (pe_callB call_isi (by exact rfl) m_isinstance Ken.boot_isinstance (pa_cons (pe_ix ix_tup (pvM 0) pe_int (fun _ _=>rfl)) (pa_cons (pe_bltn (v:=.ty "list") (by exact rfl) m_list Ken.boot_list (by exact rfl)) pa_nil))))) (pw_or (pt_not (pt_val (pe_callB call_isi (by exact rfl) m_isinstance Ken.boot_isinstance (pa_cons (pe_ix ix_tup (pvM 0) pe_int (fun _ _=>rfl)) (pa_cons (pe_bltn (v:=.ty "list") (by exact rfl) m_list Ken.boot_list (by exact rfl)) pa_nil))))) (pw_or1 (pt_not (pt_val (pe_call G_ag0 hr (by exact rfl) m_ag0 k_ag0 b_ag0 .nil pass0 (pa_cons (pe_ix ix_tup (pvM 0) pe_int (fun _ _=>rfl)) pa_nil)))))))).pt
  (pss_one (ps_ret pe_bl))
  pss_nil)
 (pss_cons (ps_if ((pw_and (pt_cmpRM (op_notN) (pe_ix ix_tup (pvM 0) pe_int (fun _ _=>rfl)) pe_non (nomark _)) (pw_and1 (pt_not (pt_val (pe_call G_ag0 hr (by exact rfl) m_ag0 k_ag0 b_ag0 .nil pass0 (pa_cons (pe_ix ix_tup (pvM 0) pe_int (fun _ _=>rfl)) pa_nil))))))).pt
  (pss_one (ps_ret pe_bl))
  pss_nil)
 (pss_cons (ps_if (pt_cmpRM (op_neD (hu_150 hr)) (pe_lcG (blk0 (N':=["_law_wish"]) (by decide +kernel) (by decide +kernel) rfl (by decide +kernel)) rfl (pi_list (pe_ix ix_tup (pvM 0) pe_int (fun _ _=>rfl))) (fun _ _ _ _=>(pg_name (i:=0) (show (["_law_wish"]:List Str).Nodup from by decide +kernel) rfl (Or.inl rfl))) (fun _ _=>turn_L1 (tg2:=(.Name "" ⟨0,0,0,0⟩)) (iter2:=(.Name "" ⟨0,0,0,0⟩))) (fun _ _ _ _ _=>(pk_test (pt_not (pt_val (pe_call G_ag0 hr (by exact rfl) m_ag0 k_ag0 b_ag0 .nil pass0 (pa_cons (pvM 0) pa_nil)))) (pk_emitL (pvM 0))))) (pe_lst pa_nil) (nomark _))
  (pss_one (ps_ret pe_bl))
  pss_nil)
 (pss_one (ps_ret (pe_cmpR (op_eqD (hu_150 hr)) (pe_lcG (blk0 (N':=["_law_lean"]) (by decide +kernel) (by decide +kernel) rfl (by decide +kernel)) rfl (pi_list (pe_ix ix_tup (pvM 0) pe_int (fun _ _=>rfl))) (fun _ _ _ _=>(pg_name (i:=0) (show (["_law_lean"]:List Str).Nodup from by decide +kernel) rfl (Or.inl rfl))) (fun _ _=>turn_L1 (tg2:=(.Name "" ⟨0,0,0,0⟩)) (iter2:=(.Name "" ⟨0,0,0,0⟩))) (fun _ _ _ _ _=>(pk_test (pt_not (pt_val (pe_call G_aq0 hr (by exact rfl) m_aq0 k_aq0 b_aq0 .nil pass0 (pa_cons (pvM 0) pa_nil)))) (pk_emitL (pvM 0))))) (pe_lst pa_nil) (nomark _)))))))),?_⟩
 refine seq_then (fun σ' H'=>σ'=[some (.ref p)]∧H'=H) ?_ ?_
 rotate_left
 ·intro C hC
  walk_at "rdx_1"
  refine⟨_,.tupK h1,_,rfl,?_⟩
  rw[if_neg (by decide)]
  refine⟨_,.inr h1,?_⟩
  rw[if_neg (by show ¬ (!decide ((5:Int)=5))=true;decide)]
  refine⟨_,h1,_,rfl,_,.of (.str _),_,rfl,?_⟩
  rw[if_neg (by decide)]
  exact hC _ _ ⟨rfl,rfl⟩
 rintro σ1 H1 ⟨rfl,rfl⟩
 refine seq_then (fun σ' H'=>σ'=[some (.ref p)]∧Same H1 H') ?_ ?_
 rotate_left
 ·intro C hC
  walk_at "rdx_1"
  refine⟨_,h1,_,rfl,_,.lstK (SqL.of h2),_,rfl,?_⟩
  rw[if_neg (by decide)]
  refine⟨_,h1,_,rfl,_,.lstK (SqL.of h6),_,rfl,?_⟩
  rw[if_neg (by decide)]
  refine⟨_,h1,_,rfl,gv,l.g,rfl,h4,dp _ ok.gp,fun H2 e2=>⟨_,rfl,?_⟩⟩
  rw[if_neg (by decide)]
  exact hC _ _ ⟨rfl,e2⟩
 rintro σ2 H2 ⟨rfl,e2⟩
 refine seq_then (fun σ' H'=>σ'=[some (.ref p)]∧Same H1 H') ?_ ?_
 rotate_left
 ·intro C hC
  walk_at "rdx_1"
  refine⟨_,e2.sqt h1,_,rfl,?_⟩
  cases ho:l.on with
  | none =>
   rw[ho] at h5
   have e:ov=.non:=h5
   rw[e,if_neg (by decide),if_neg (by decide)]
   exact hC _ _ ⟨rfl,e2⟩
  | some o =>
   rw[ho] at h5
   obtain⟨h5,o5,p5⟩:=h5
   obtain⟨po,_,eo,_⟩:=isT_headS h5
   rw[if_pos (by rw[eo];rfl)]
   refine⟨_,e2.sqt h1,_,rfl,ov,o,rfl,h5.keep e2.keepT,dp _ p5,fun H3 e3=>⟨_,rfl,?_⟩⟩
   rw[if_neg (by decide)]
   exact hC _ _ ⟨rfl,e2.trans e3⟩
 rintro σ3 H3 ⟨rfl,e3⟩
 refine seq_then (fun σ' H'=>σ'=[some (.ref p)]∧Same H1 H') ?_ ?_
 rotate_left
 ·intro C hC
  walk_at "rdx_1"
  refine⟨_,e3.sqt h1,_,rfl,wa,rfl,⟨_,SqL.of (e3 _ _ h2)⟩,fun acc hacc=>?_⟩
  refine comp_none (e3 _ _ h2) hacc (fun v'=>wk_set (i:=0) rfl) (fun v' H' N hv e hN=>?_) (fun H' e h=>⟨by decide,fun p5 hp5=>?_⟩)
  ·obtain⟨t,ht,hT⟩:=paired_memR h3 v' hv
   walk_at "rdx_1"
   refine⟨v',t,rfl,hT.keep (e3.trans e).keepT,dp _ (ok.w t ht).2,fun H6 e6=>⟨_,rfl,?_⟩⟩
   rw[if_neg (by decide)]
   exact hN _ e6
  ·have s5:=same_new hp5 (HO.lst [])
   refine⟨.list [],dn_nil (s5 _ _ h),.list [],dn_nil upd_same,rfl,rfl,by decide,?_⟩
   rw[if_neg (by decide)]
   exact hC _ _ ⟨rfl,(e3.trans e).trans s5⟩
 rintro σ4 H4 ⟨rfl,e4⟩
 walk_at "rdx_1"
 refine⟨_,e4.sqt h1,_,rfl,la,rfl,⟨_,SqL.of (e4 _ _ h6)⟩,fun acc hacc=>?_⟩
 refine comp_none (e4 _ _ h6) hacc (fun v'=>wk_set (i:=0) rfl) (fun v' H' N hv e hN=>?_) (fun H' e h=>⟨by decide,fun p5 hp5=>?_⟩)
 ·obtain⟨i,_,rfl⟩:=List.mem_map.mp hv
  walk_at "rdx_1"
  refine⟨i,rfl,_,rfl,?_⟩
  rw[if_neg (by decide)]
  exact hN _ (Same.refl _)
 ·have s5:=same_new hp5 (HO.lst [])
  exact⟨.list [],dn_nil (s5 _ _ h),.list [],dn_nil upd_same,rfl,rfl,by decide,q _ ((e4.trans e).trans s5)⟩
end
noncomputable abbrev s_al0:Stmt:=top 27
theorem sc_al0:FnScope ["_law_some","_law_found","_law_one"] ["_law_some"] (defScope s_al0):=⟨rfl,rfl,rfl,by decide +kernel,rfl,by decide +kernel,by decide +kernel⟩
noncomputable abbrev s_ab0:Stmt:=top 28
theorem sc_ab0:FnScope ["_law_wishes","_law_on","_law_more"] ["_law_wishes","_law_on","_law_more"] (defScope s_ab0):=⟨rfl,rfl,rfl,by decide +kernel,rfl,by decide +kernel,by decide +kernel⟩
section
variable {P:Program} {w:World} {K:PySem.W.Frag} {mg:Str→Option Value} {base:Heap}
theorem ok_al0 {k:Nat} {f_al0:Addr} {fd_al0:FuncData} (F_al0:Fun K "_law_once" "_law_once" s_al0 f_al0 fd_al0) (m_sorted:mg "sorted"=none):FnOk P w K mg base CX0 (k+1) f_al0 fd_al0 ["_law_some"] (sp_onceL K):=by
 refine F_al0.ok sc_al0 (fun vs H Q E h=>?_) (fun cdv A outer s H vs Q E hr h=>?_)
 ·obtain⟨a,us,ts,rfl,_⟩:=h
  rfl
 obtain⟨a,us,ts,rfl,ha,hT,hok,hl,q⟩:=h
 refine⟨_,(pss_cons (ps_set (i:=1) sc_al0.nd rfl (Or.inl rfl) (pe_lst pa_nil))
 (pss_cons (ps_for PassesOwn.never rfl (pi_list (pe_callB (call_sortedM rfl (hu_150 hr)) (by exact rfl) m_sorted Ken.boot_sorted (pa_cons (pvM 0) pa_nil))) (pg_name (i:=2) sc_al0.nd rfl (Or.inl rfl))
  (pss_one (ps_if (pt_cmpRM (op_notInT (hu_150 hr)) (pvM 2) (pe_slice sl_list (pvM 1) (po_some (pe_un un_neg pe_int)) po_none) (by with_unfolding_all rfl))
  (pss_one (ps_expr (pe_bm PySem.F.plainAttrs_list PySem.F.slot_list_append PySem.F.type_list_append mt_append (pvM 1) (pa_cons (pvM 2) pa_nil))))
  pss_nil)))
 (pss_one (ps_ret (pvM 1))))),?_⟩
 refine seq_then (fun σ' H'=>∃ d,σ'=[some (.ref a),some (.ref d),none]∧Same H H'∧H d=none∧H' d=some (.lst [])) ?_ ?_
 rotate_left
 ·intro C hC
  walk_at "rdx_1"
  exact⟨by decide,fun p hp=>hC _ _ ⟨p,rfl,same_new hp _,hp,upd_same⟩⟩
 rintro σ1 H1 ⟨d,rfl,e1,f1,h1⟩
 refine seq_then (fun σ' H'=>∃ x2,σ'=[some (.ref a),some (.ref d),x2]∧Same H H'∧IsW K H' d (norm ts)) ?_ ?_
 rotate_left
 ·intro C hC
  walk_at "rdx_2"
  have hT1:Paired (IsT K H1) us ts:=Paired.mapP hT fun _ _ z=>z.keep e1.keepT
  refine⟨us,e1 _ _ ha,ts,hT1,fun t ht=>⟨(hok t ht).1,by have:=(hok t ht).2;have:=deep_parts t;omega⟩,hl,fun l ws os hl' hws hpm hpw=>⟨⟨_,SqL.of upd_same⟩,?_⟩⟩
  have s1:=same_new hl' (HO.lst ws)
  have nld:l≠d:=fun z=>by rw[z,h1] at hl';cases hl'
  have lw:=Paired.length hws
  have lo:os.length=ts.length:=hpm.length_eq
  have hoo:∀ t∈os,t.ok∧t.parts≤110:=fun t ht=>hok t (hpm.mem_iff.mp ht)
  refine for_list (D:={ nx:=C,rt:=Q }) (xs:=ws) (fun i σ' H'=>∃ (x2:Option V) (vs:List V) (fs:List Tm),σ'=[some (.ref a),some (.ref d),x2]∧Same H H'∧KeepT K (upd H1 l (HO.lst ws)) H'∧H' l=some (.lst ws)∧H' d=some (.lst vs)∧Paired (IsT K H') vs fs∧sortedT fs∧(∀ x,x∈fs↔x∈os.take i)∧fs.getLast?=(os.take i).getLast?∧fs.length≤i) ⟨none,[],[],rfl,e1.trans s1,fun _ _ z=>z,upd_same,s1 _ _ h1,.nil,.nil,fun x=>by simp,by simp,Nat.le_refl _⟩ (fun i σ' H' _ ⟨_,_,_,_,_,_,h,_⟩=>SqL.of h) (fun i v σ' H' hv hp=>?_) (fun σ' H' ⟨x2,vs,fs,g1,g2,g3,g4,g5,g6,g7,g8,g9,g10⟩=>hC _ _ ⟨x2,g1,g2,?_⟩)
  ·obtain⟨x2,vs,fs,rfl,e,kk,hll,hd,hV,hS,hm,hlast,hfl⟩:=hp
   obtain⟨t,ht,htT⟩:=paired_get hws hv
   have htT':IsT K H' v t:=(htT.keep s1.keepT).keep kk
   have mt:=List.mem_of_getElem? ht
   have hi:i < os.length:=(List.getElem?_eq_some_iff.mp ht).1
   have lv:=Paired.length hV
   walk_at "rdx_1"
   refine⟨vs,SqL.of hd,fun p hp=>?_⟩
   rw[cut_last]
   have s2:=same_new hp (HO.lst (vs.drop (vs.length - 1)))
   have h2d:=s2 _ _ hd
   have h2l:=s2 _ _ hll
   have kk2:=kk.trans s2.keepT
   have tk:os.take (i+1)=os.take i++[t]:=take_snoc ht
   have hgl:(os.take (i+1)).getLast?=some t:=by rw[tk,List.getLast?_append];simp
   have hV2:=paired_keepT s2.keepT hV
   refine⟨t,htT'.keep s2.keepT,_,SqL.of upd_same,fs.drop (fs.length - 1),lv▸paired_drop hV2 (vs.length - 1),(hoo t mt).1,fun s hs=>(hoo s (List.mem_of_mem_take ((hm s).mp (List.mem_of_mem_drop hs)))).1,by have:=(hoo t mt).2;have:=deep_parts t;omega,?_⟩
   by_cases hin:fs.getLast?=some t
   ·have hmt:t∈fs.drop (fs.length - 1):=mem_last.mpr hin
    rw[if_neg (by rw[if_pos trivial,decide_eq_true hmt];exact Bool.false_ne_true)]
    refine⟨e.trans s2,kk2,h2l,vs,h2d,fs,hV2,hS,fun x=>?_,by rw[hin,hgl],by omega⟩
    rw[hm x,tk,List.mem_append,List.mem_singleton]
    exact⟨.inl,fun h=>h.elim id fun z=>z▸(hm t).mp (List.mem_of_mem_drop hmt)⟩
   ·have hmt:¬ t∈fs.drop (fs.length - 1):=fun z=>hin (mem_last.mp z)
    rw[if_pos (by rw[if_pos trivial,decide_eq_false hmt];rfl)]
    have kk3:KeepT K _ _:=keepT_lst (K:=K) (o:=HO.lst (vs++[v])) h2d
    refine⟨.inl ⟨rfl,_,SqL.of h2d⟩,vs,h2d,small1000 (by omega),(e.trans s2).write f1,kk2.trans kk3,by rw[upd_ne nld];exact h2l,_,upd_same,fs++[t],paired_app (paired_keepT kk3 hV2) (.cons ((htT'.keep s2.keepT).keep kk3) .nil),?_,fun x=>?_,?_,by rw[List.length_append,List.length_singleton];omega⟩
    ·have wk:∀ y∈os.take i,ltT t y=false:=fun y hy=>by
      have hpw2:List.Pairwise (fun a b=>ltT b a=false) (os.take (i+1)):=hpw.sublist (List.take_sublist _ _)
      rw[tk] at hpw2
      exact (List.pairwise_append.mp hpw2).2.2 y hy t (List.mem_singleton.mpr rfl)
     refine List.pairwise_append.mpr ⟨hS,List.pairwise_singleton _ _,fun y hy z hz=>?_⟩
     rw[List.mem_singleton.mp hz]
     by_cases hyt:y=t
     ·subst hyt
      obtain⟨l',hl'⟩:∃ l',fs.getLast?=some l':=by
       cases hg:fs.getLast? with
       | none=>rw[List.getLast?_eq_none_iff.mp hg] at hy;cases hy
       | some l'=>exact⟨l',rfl⟩
      have ml:l'∈os.take i:=List.mem_of_getLast? (hlast▸hl')
      rcases last_or hS hy hl' with z | z
      ·exact absurd (z▸hl') hin
      ·rw[wk l' ml] at z;cases z
     ·exact (ltT_tot hyt).elim id fun z=>by rw[wk y ((hm y).mp hy)] at z;cases z
    ·rw[List.mem_append,hm x,tk,List.mem_append]
    ·rw[hgl,List.getLast?_append];simp
  ·have hd2:fs=norm ts:=norm_uniq g7 fun x=>by rw[g8 x,lw,List.take_length,hpm.mem_iff]
   rw[← hd2]
   exact⟨⟨vs,g5,g6⟩,g7⟩
 rintro σ2 H2 ⟨x2,rfl,e2,hW⟩
 walk_at "rdx_1"
 exact q _ _ e2 f1 hW
theorem ok_ab0 {k:Nat} {f_ab0:Addr} {fd_ab0:FuncData} (F_ab0:Fun K "_law_changed" "_law_changed" s_ab0 f_ab0 fd_ab0) {f_al0:Addr} {fd_al0:FuncData} (G_al0:FnOk P w K mg base CX0 k f_al0 fd_al0 ["_law_some"] (sp_onceL K)) (m_al0:mg "_law_once"=some (.ref f_al0)) (k_al0:PySem.W.keepIn K (.ref f_al0)=true) (b_al0:Binds K fd_al0 ["_law_some"] []):FnOk P w K mg base CX0 (k+1) f_ab0 fd_ab0 ["_law_wishes","_law_on","_law_more"] (sp_changedL K):=by
 refine F_ab0.ok sc_ab0 (fun vs H Q E h=>?_) (fun cdv A outer s H vs Q E hr h=>?_)
 ·obtain⟨a,b,ov,o,ws,us,ts,rfl,_⟩:=h
  rfl
 obtain⟨a,b,ov,o,ws,us,ts,rfl,hW,hO,ook,op,hb,hT,hok,hok2,hl,q⟩:=h
 refine⟨_,(pss_one (ps_ret (pe_call G_al0 hr (by exact rfl) m_al0 k_al0 b_al0 .nil pass0 (pa_cons (pe_op op_cat (pe_lcG (blkC (N':=["_law_wish","_law_on"]) (nt:=1) (ci:=[1]) ["_law_wishes","_law_on","_law_more"] (defScope s_ab0) rfl rfl (by decide +kernel) rfl (by decide +kernel) (by decide +kernel) rfl (by decide +kernel)) rfl (pi_list (pvM 0)) (fun _ _ _ _=>(pg_name (i:=0) (show (["_law_wish","_law_on"]:List Str).Nodup from by decide +kernel) rfl (Or.inl rfl))) (fun _ _=>turn_L1 (tg2:=(.Name "" ⟨0,0,0,0⟩)) (iter2:=(.Name "" ⟨0,0,0,0⟩))) (fun _ _ _ _ _=>(pk_test (pt_cmpRM (op_neDK (K:=K) rfl (hu_150 hr)) (pvM 0) (pvM 1) (nomark _)) (pk_emitL (pvM 0))))) (pvM 2)) pa_nil)))),?_⟩
 walk_at "rdx_1"
 obtain⟨⟨as,ha,hA⟩,hS⟩:=hW
 have la:=Paired.length hA
 refine⟨⟨_,SqL.of ha⟩,fun acc hacc=>?_⟩
 refine comp_list (xs:=as) (fun i H'=>Same H H'∧∃ ys,H' acc=some (.lst ys)∧Paired (IsT K H') ys (rem (ws.take i) o)) ⟨same_new hacc _,[],upd_same,.nil⟩ (fun i H' _ ⟨e,_⟩=>SqL.of (e _ _ ha)) (fun i v H' N hv ⟨e,ys,h,hP⟩ hN=>?_) (fun H' ⟨e,ys,h,hP⟩=>?_)
 ·obtain⟨t,ht,hT1⟩:=paired_get hA hv
  have hT2:=hT1.keep (K:=K) e.keepT
  have tin:=List.mem_of_getElem? ht
  have hi:i < ws.length:=(List.getElem?_eq_some_iff.mp ht).1
  have et:rem (ws.take (i+1)) o=rem (ws.take i) o++rem [t] o:=by rw[take_snoc ht];unfold rem;rw[List.filter_append]
  have lr:(rem (ws.take i) o).length≤i:=by
   have h1:(rem (ws.take i) o).length≤(ws.take i).length:=List.length_filter_le _ _
   rw[List.length_take] at h1;omega
  have ly:=Paired.length hP
  walk_at "rdx_1"
  refine⟨wk_set (i:=0) rfl,t.data,hT2,o.data,hO.keep e.keepT,t.lay (hok t tin).1,o.lay ook,by rw[Tm.depth];have:=(hok t tin).2;have:=deep_parts t;omega,?_⟩
  rw[Tm.eqv]
  by_cases hto:t=o
  ·rw[if_neg (by rw[if_pos trivial,decide_eq_true hto];exact Bool.false_ne_true)]
   refine hN _ ⟨e,ys,h,?_⟩
   rw[et,show rem [t] o=[] by unfold rem;simp[hto],List.append_nil]
   exact hP
  ·rw[if_pos (by rw[if_pos trivial,decide_eq_false hto];rfl)]
   have kk:KeepT K H' (upd H' acc (.lst (ys++[v]))):=keepT_lst h
   refine⟨ys,h,small1000 (by omega),hN _ ⟨e.write hacc,_,upd_same,?_⟩⟩
   rw[et,show rem [t] o=[t] by unfold rem;simp[hto]]
   exact paired_app (paired_keepT kk hP) (.cons (hT2.keep kk) .nil)
 ·rw[la,List.take_length] at hP
  have lt:=Paired.length hT
  have ly:=Paired.length hP
  have lr:(rem ws o).length≤ws.length:=List.length_filter_le _ _
  refine⟨ys,h,us,e _ _ hb,Nat.le_of_lt (small1000 (by omega)),fun p hp=>?_⟩
  have s1:=same_new hp (HO.lst (ys++us))
  refine⟨p,_,rem ws o++ts,rfl,upd_same,paired_app (paired_keepT s1.keepT hP) (paired_keepT (e.trans s1).keepT hT),fun t ht=>(List.mem_append.mp ht).elim (fun z=>hok t (mem_rem.mp z).1) (hok2 t),by rw[List.length_append];omega,fun r H2 e2 hr hw=>q r H2 ((e.trans s1).trans e2) (((e.trans s1)).free hr) hw⟩
end
noncomputable abbrev s_ac0:Stmt:=top 32
theorem sc_ac0:FnScope ["_law_line","_law_wishes","_law_need"] ["_law_line","_law_wishes","_law_need"] (defScope s_ac0):=⟨rfl,rfl,rfl,by decide +kernel,rfl,by decide +kernel,by decide +kernel⟩
noncomputable abbrev s_ae0:Stmt:=top 33
theorem sc_ae0:FnScope ["_law_lines_here","_law_k","_law_rule","_law_wishes","_law_goal","_law_on","_law_leans","_law_told_here","_law_lean","_law_need"] ["_law_lines_here","_law_k"] (defScope s_ae0):=⟨rfl,rfl,rfl,by decide +kernel,rfl,by decide +kernel,by decide +kernel⟩
section
variable {P:Program} {w:World} {K:PySem.W.Frag} {mg:Str→Option Value} {base:Heap}
theorem eqv_nilL (ts:List Tm):PyData.eqv (.list (ts.map Tm.data)) (.list [])=ts.isEmpty:=by
 cases ts<;>rfl
theorem all_filt (ns ws:List Tm):∀ ts:List Tm,(ts.all fun t=>decide (t∈ns)||decide (t∈ws))=(ts.filter fun t=>!decide (t∈ns)&&!decide (t∈ws)).isEmpty
 | []=>rfl
 | t :: ts=>by
  rw[List.all_cons,List.filter_cons,all_filt ns ws ts]
  cases decide (t∈ns)<;>cases decide (t∈ws)<;>simp
theorem ok_ac0 {k:Nat} {f_ac0:Addr} {fd_ac0:FuncData} (F_ac0:Fun K "_law_does" "_law_does" s_ac0 f_ac0 fd_ac0):FnOk P w K mg base CX0 (k+1) f_ac0 fd_ac0 ["_law_line","_law_wishes","_law_need"] (sp_serves K):=by
 refine F_ac0.ok sc_ac0 (fun vs H Q E h=>?_) (fun cdv A outer s H vs Q E hr h=>?_)
 ·obtain⟨v,nv,wa,m,ws,o,rfl,_⟩:=h
  rfl
 obtain⟨v,nv,wa,m,ws,o,rfl,hv,okm,hW,okw,lw,hN,okn,ln,gok,q⟩:=h
 refine⟨_,(pss_cons (ps_if (pt_cmpRM (op_neD (hu_150 hr)) (pe_ix ix_tup (pvM 0) pe_int (fun _ _=>rfl)) (pe_ix ix_tup (pvM 2) pe_int (fun _ _=>rfl)) (nomark _))
  (pss_one (ps_ret pe_bl))
  pss_nil)
 (pss_one (ps_ret (pe_cmpR (op_eqD (hu_150 hr)) (pe_lcG (blkC (N':=["_law_wish","_law_wishes","_law_need"]) (nt:=1) (ci:=[1,2]) ["_law_line","_law_wishes","_law_need"] (defScope s_ac0) rfl rfl (by decide +kernel) rfl (by decide +kernel) (by decide +kernel) rfl (by decide +kernel)) rfl (pi_list (pe_ix ix_tup (pvM 0) pe_int (fun _ _=>rfl))) (fun _ _ _ _=>(pg_name (i:=0) (show (["_law_wish","_law_wishes","_law_need"]:List Str).Nodup from by decide +kernel) rfl (Or.inl rfl))) (fun _ _=>turn_L1 (tg2:=(.Name "" ⟨0,0,0,0⟩)) (iter2:=(.Name "" ⟨0,0,0,0⟩))) (fun _ _ _ _ _=>(pk_test (PW.pt (pw_and (pt_cmpRM (op_notInTK (K:=K) rfl (hu_150 hr)) (pvM 0) (pe_ix (ix_tupK (K:=K) rfl) (pvM 2) pe_int (fun _ _=>rfl)) (by with_unfolding_all rfl)) (pw_and1 (pt_cmpRM (op_notInTK (K:=K) rfl (hu_150 hr)) (pvM 0) (pvM 1) (by with_unfolding_all rfl))))) (pk_emitL (pvM 0))))) (pe_lst pa_nil) (nomark _))))),?_⟩
 obtain⟨p,wb,la,gv,ov,us,rfl,h1,h2,h3,h4,h5,h6⟩:=hv
 obtain⟨pn,gn,rfl,n1,n2,n3⟩:=hN
 refine seq_then (fun σ' H'=>σ'=[some (.ref p),some (.ref wa),some (.ref pn)]∧H'=H∧m.g=o.2.2) ?_ ?_
 rotate_left
 ·intro C hC
  walk_at "rdx_1"
  refine⟨_,h1,_,rfl,_,n1,_,rfl,m.g.data,h4,o.2.2.data,n3,m.g.lay okm.g,o.2.2.lay gok,Nat.le_trans (Nat.min_le_left _ _) (by rw[Tm.depth];have:=okm.gp;have:=deep_parts m.g;omega),?_⟩
  rw[Tm.eqv]
  by_cases hc:m.g=o.2.2
  ·rw[if_neg (by rw[if_pos trivial,decide_eq_true hc];exact Bool.false_ne_true)]
   exact hC _ _ ⟨rfl,rfl,hc⟩
  ·rw[if_pos (by rw[if_pos trivial,decide_eq_false hc];rfl)]
   have:=q _ (Same.refl _)
   unfold servB at this
   rw[decide_eq_false hc] at this
   exact this
 rintro σ1 H1 ⟨rfl,rfl,hg⟩
 obtain⟨⟨zs,w1,w2⟩,w3⟩:=hW
 obtain⟨⟨ks,k1,k2⟩,k3⟩:=n2
 have lu:=okm.wl
 walk_at "rdx_1"
 refine⟨_,h1,_,rfl,wb,rfl,⟨_,SqL.of h2⟩,fun acc hacc=>?_⟩
 refine comp_filt (fun t=>!decide (t∈o.2.1)&&!decide (t∈ws)) h2 h3 (by omega) hacc (fun v'=>wk_set (i:=0) rfl) (fun v' t H' ys N htm e hT h hlen hy' hn=>?_) (fun H' ys e h hP=>?_)
 ·have okt:=okm.w t htm
  have dp:t.deep≤140:=by have:=okt.2;have:=deep_parts t;omega
  walk_at "rdx_1"
  refine⟨_,e.sqt n1,_,rfl,t,hT,o.1,rfl,ks,SqL.of (e _ _ k1),o.2.1,paired_keepT e.keepT k2,okt.1,fun s hs=>(okn s hs).1,dp,?_⟩
  by_cases hc:t∈o.2.1
  ·rw[if_neg (by rw[if_pos trivial,decide_eq_true hc];exact Bool.false_ne_true),if_neg Bool.false_ne_true]
   exact hn (by rw[decide_eq_true hc];rfl) _ (Same.refl _)
  ·rw[if_pos (by rw[if_pos trivial,decide_eq_false hc];rfl)]
   refine⟨t,hT,zs,SqL.of (e _ _ w1),ws,paired_keepT e.keepT w2,okt.1,fun s hs=>(okw s hs).1,dp,?_⟩
   by_cases hc2:t∈ws
   ·rw[if_neg (by rw[if_pos trivial,decide_eq_true hc2];exact Bool.false_ne_true)]
    exact hn (by rw[decide_eq_false hc,decide_eq_true hc2];rfl) _ (Same.refl _)
   ·rw[if_pos (by rw[if_pos trivial,decide_eq_false hc2];rfl)]
    exact⟨ys,h,small1000 (by omega),hy' (by rw[decide_eq_false hc,decide_eq_false hc2];rfl) _ (Same.refl _) h⟩
 ·refine⟨by decide,fun p2 hp2=>?_⟩
  have sp:=same_new hp2 (HO.lst [])
  refine⟨.list ((m.ws.filter fun t=>!decide (t∈o.2.1)&&!decide (t∈ws)).map Tm.data),?_,.list [],?_,tms_lay fun t ht=>(okm.w t (List.mem_filter.mp ht).1).1,rfl,Nat.le_trans (Nat.min_le_right _ _) (by decide),?_⟩
  ·rw[Dn];exact⟨acc,ys,rfl,SqL.of (sp _ _ h),tms_dn (paired_keepT sp.keepT hP)⟩
  ·rw[Dn];exact⟨p2,[],rfl,SqL.of upd_same,by rw[DnAll]⟩
  rw[if_neg Bool.false_ne_true]
  have:=q _ (e.trans sp)
  have eb:servB m ws o.2=PyData.eqv (.list ((m.ws.filter fun t=>!decide (t∈o.2.1)&&!decide (t∈ws)).map Tm.data)) (.list []):=by
   unfold servB
   rw[decide_eq_true hg,Bool.true_and,eqv_nilL]
   exact all_filt _ _ _
  rw[← eb];exact this
theorem ndsA_o {K:PySem.W.Frag} {d:Addr} {H:Hp} {vs:List V} {ns:List Nd} (h:Paired (IsNdA K d H) vs ns):∃ os:List ONd,Paired (IsNdO K H) vs os∧os.map (·.2)=ns:=by
 induction h with
 | nil=>exact⟨[],.nil,rfl⟩
 | cons h t ih =>
  obtain⟨os,h1,h2⟩:=ih
  obtain⟨p,wl,gv,e,a1,a2,a3,_⟩:=h
  exact⟨(wl,_) :: os,.cons ⟨p,gv,e,a1,a2,a3⟩ h1,by rw[List.map_cons,h2]⟩
theorem eqv_tmsL:∀ (ts us:List Tm),PyData.eqv (.list (ts.map Tm.data)) (.list (us.map Tm.data))=decide (ts=us)
 | [],[]=>rfl
 | [],_ :: _=>rfl
 | _ :: _,[]=>rfl
 | t :: ts,u :: us=>by
  have ih:=eqv_tmsL ts us
  have e:PyData.eqv (.list ((t :: ts).map Tm.data)) (.list ((u :: us).map Tm.data))=(PyData.eqv t.data u.data&&PyData.eqv (.list (ts.map Tm.data)) (.list (us.map Tm.data))):=rfl
  rw[e,ih,Tm.eqv]
  by_cases h1:t=u
  ·by_cases h2:ts=us
   ·rw[decide_eq_true h1,decide_eq_true h2,decide_eq_true (by rw[h1,h2])];rfl
   ·rw[decide_eq_false h2,decide_eq_false (fun z=>h2 (List.cons.inj z).2),Bool.and_false]
  ·rw[decide_eq_false h1,decide_eq_false (fun z=>h1 (List.cons.inj z).1),Bool.false_and]
theorem ok_ae0 {k:Nat} {f_ae0:Addr} {fd_ae0:FuncData} (F_ae0:Fun K "_law_good" "_law_good" s_ae0 f_ae0 fd_ae0) {f_al0:Addr} {fd_al0:FuncData} (G_al0:FnOk P w K mg base CX0 k f_al0 fd_al0 ["_law_some"] (sp_onceL K)) (m_al0:mg "_law_once"=some (.ref f_al0)) (k_al0:PySem.W.keepIn K (.ref f_al0)=true) (b_al0:Binds K fd_al0 ["_law_some"] []) {f_ak0:Addr} {fd_ak0:FuncData} (G_ak0:FnOk P w K mg base CX0 k f_ak0 fd_ak0 ["_law_rule","_law_wishes","_law_goal","_law_on"] (sp_needsX K)) (m_ak0:mg "_law_needs"=some (.ref f_ak0)) (k_ak0:PySem.W.keepIn K (.ref f_ak0)=true) (b_ak0:Binds K fd_ak0 ["_law_rule","_law_wishes","_law_goal","_law_on"] []) {f_ac0:Addr} {fd_ac0:FuncData} (G_ac0:FnOk P w K mg base CX0 k f_ac0 fd_ac0 ["_law_line","_law_wishes","_law_need"] (sp_serves K)) (m_ac0:mg "_law_does"=some (.ref f_ac0)) (k_ac0:PySem.W.keepIn K (.ref f_ac0)=true) (b_ac0:Binds K fd_ac0 ["_law_line","_law_wishes","_law_need"] []) (m_len:mg "len"=none) (m_zip:mg "zip"=none):FnOk P w K mg base CX0 (k+1) f_ae0 fd_ae0 ["_law_lines_here","_law_k"] (sp_isgood K):=by
 refine F_ae0.ok sc_ae0 (fun vs H Q E h=>?_) (fun cdv A outer s H vs Q E hr h=>?_)
 ·obtain⟨a,us,L,i,rfl,_⟩:=h
  rfl
 obtain⟨a,us,L,i,rfl,ha,hL,hok,hi,hn,q⟩:=h
 have lu:us.length=L.length:=Paired.length hL
 have hiu:i < us.length:=by omega
 obtain⟨l,hl,hvl⟩:=paired_get hL (List.getElem?_eq_getElem hiu)
 have okl:=hok l (List.mem_of_getElem? hl)
 have eg:lineB L i=goodL L i l:=by unfold lineB;rw[hl]
 rw[eg] at q
 have hvl0:=hvl
 obtain⟨p,wa,la,gv,ov,ys,hv,h1,h2,h3,h4,h5,h6⟩:=hvl
 refine⟨_,(pss_cons (ps_asg (pe_ix ix_list (pvM 0) (pvM 1) (fun _ _=>rfl)) (pg_tup rfl (pgs_cons (pg_name (i:=2) sc_ae0.nd rfl (Or.inl rfl)) (pgs_cons (pg_name (i:=3) sc_ae0.nd rfl (Or.inl rfl)) (pgs_cons (pg_name (i:=4) sc_ae0.nd rfl (Or.inl rfl)) (pgs_cons (pg_name (i:=5) sc_ae0.nd rfl (Or.inl rfl)) (pgs_cons (pg_name (i:=6) sc_ae0.nd rfl (Or.inl rfl)) pgs_nil)))))))
 (pss_cons (ps_if (pt_cmpRM (op_neD (hu_150 hr)) (pvM 3) (pe_call G_al0 hr (by exact rfl) m_al0 k_al0 b_al0 .nil pass0 (pa_cons (pvM 3) pa_nil)) (nomark _))
  (pss_one (ps_ret pe_bl))
  pss_nil)
 (pss_cons (ps_set (i:=7) sc_ae0.nd rfl (Or.inl rfl) (pe_call G_ak0 hr (by exact rfl) m_ak0 k_ak0 b_ak0 .nil pass0 (pa_cons (pvM 2) (pa_cons (pvM 3) (pa_cons (pvM 4) (pa_cons (pvM 5) pa_nil))))))
 (pss_cons (ps_if ((pw_or (pt_cmpRM (op_isN) (pvM 7) pe_non (nomark _)) (pw_or1 (pt_cmpRM (op_ne) (pe_callB call_len_seq (by exact rfl) m_len Ken.boot_len (pa_cons (pvM 7) pa_nil)) (pe_callB call_len_seq (by exact rfl) m_len Ken.boot_len (pa_cons (pvM 6) pa_nil)) (nomark _))))).pt
  (pss_one (ps_ret pe_bl))
  pss_nil)
 (pss_cons (ps_for PassesOwn.never rfl (pi_zip rfl m_zip (pa_cons (pvM 6) (pa_cons (pvM 7) pa_nil))) (pg_tup rfl (pgs_cons (pg_name (i:=8) sc_ae0.nd rfl (Or.inl rfl)) (pgs_cons (pg_name (i:=9) sc_ae0.nd rfl (Or.inl rfl)) pgs_nil)))
  (pss_one (ps_if ((pw_or (pt_cmpRM (op_ltM) (pvM 8) pe_int (nomark _)) (pw_or (pt_cmpRM (op_geM) (pvM 8) (pvM 1) (nomark _)) (pw_or1 (pt_not (pt_val (pe_call G_ac0 hr (by exact rfl) m_ac0 k_ac0 b_ac0 .nil pass0 (pa_cons (pe_ix ix_list (pvM 0) (pvM 8) (fun _ _=>rfl)) (pa_cons (pvM 3) (pa_cons (pvM 9) pa_nil)))))))))).pt
  (pss_one (ps_ret pe_bl))
  pss_nil)))
 (pss_one (ps_ret pe_bl))))))),?_⟩
 refine seq_then (fun σ' H'=>σ'=[some (.ref a),some (.int (i:Nat)),some (.str l.x),some (.ref wa),some gv,some ov,some (.ref la),none,none,none]∧H'=H) ?_ ?_
 rotate_left
 ·intro C hC
  walk_at "rdx_1"
  exact⟨us,SqL.of ha,_,atI_nat (List.getElem?_eq_getElem hiu),p,hv,_,h1,rfl,_,_,rfl,_,_,rfl,_,_,rfl,_,_,rfl,_,_,rfl,rfl,hC _ _ ⟨rfl,rfl⟩⟩
 rintro σ1 H1 ⟨rfl,rfl⟩
 refine seq_then (fun σ' H'=>σ'=[some (.ref a),some (.int (i:Nat)),some (.str l.x),some (.ref wa),some gv,some ov,some (.ref la),none,none,none]∧Same H1 H'∧adjB l.ws=true∧∃ d,d≠wa∧H' d≠none) ?_ ?_
 rotate_left
 ·intro C hC
  have dw:(PyData.list (l.ws.map Tm.data)).depth≤141:=tms_depth (n:=140) fun t ht=>by have:=(okl.w t ht).2;have:=deep_parts t;omega
  walk_at "rdx_1"
  refine⟨wa,ys,l.ws,rfl,h2,h3,okl.w,by have:=okl.wl;omega,fun r H' e fr hw=>?_⟩
  obtain⟨⟨zs,z1,z2⟩,z3⟩:=hw
  refine⟨.list (l.ws.map Tm.data),?_,.list ((norm l.ws).map Tm.data),?_,tms_lay fun t ht=>(okl.w t ht).1,tms_lay fun t ht=>(okl.w t (mem_norm.mp ht)).1,Nat.le_trans (Nat.min_le_left _ _) (by omega),?_⟩
  ·rw[Dn];exact⟨wa,ys,rfl,SqL.of (e _ _ h2),tms_dn (paired_keepT e.keepT h3)⟩
  ·rw[Dn];exact⟨r,zs,rfl,SqL.of z1,tms_dn z2⟩
  rw[eqv_tmsL]
  by_cases hc:l.ws=norm l.ws
  ·rw[if_neg (by rw[if_pos trivial,decide_eq_true hc];exact Bool.false_ne_true)]
   exact hC _ _ ⟨rfl,e,adjB_iff.mpr (by rw[hc];exact sorted_norm _),r,(fun z=>by rw[z,h2] at fr;cases fr),by rw[z1];intro z;cases z⟩
  ·rw[if_pos (by rw[if_pos trivial,decide_eq_false hc];rfl)]
   have:=q _ e
   unfold goodL at this
   have hb:adjB l.ws=false:=by
    cases h:adjB l.ws with
    | false=>rfl
    | true=>exact absurd (norm_uniq (adjB_iff.mp h) fun _=>Iff.rfl) hc
   rw[hb] at this
   exact this
 rintro σ2 H2 ⟨rfl,e2,hadj,d0,d1,d2⟩
 refine seq_then (fun σ' H'=>∃ nv,σ'=[some (.ref a),some (.int (i:Nat)),some (.str l.x),some (.ref wa),some gv,some ov,some (.ref la),some nv,none,none]∧Same H1 H'∧((needX l.R l.ws l.g l.on=none∧nv=.non)∨∃ nds na os,needX l.R l.ws l.g l.on=some nds∧nv=.ref na∧IsNds K H' na os∧os.map (·.2)=nds)) ?_ ?_
 rotate_left
 ·intro C hC
  walk_at "rdx_1"
  refine⟨l.x,l.R,wa,gv,ov,l.ws,l.g,l.on,rfl,okl.r,⟨⟨ys,e2 _ _ h2,paired_keepT e2.keepT h3⟩,adjB_iff.mp hadj⟩,h4.keep e2.keepT,h5.keep e2.keepT,okl.w,okl.g,okl.gp,okl.wl,fun hn H' e=>hC _ _ ⟨_,rfl,e2.trans e,.inl ⟨hn,rfl⟩⟩,fun nds hn v H' e hA=>?_⟩
  obtain⟨na,vs,rfl,z1,z2,_⟩:=hA d0 d1 d2
  obtain⟨os,z3,z4⟩:=ndsA_o z2
  exact hC _ _ ⟨_,rfl,e2.trans e,.inr ⟨nds,na,os,hn,rfl,⟨vs,z1,z3⟩,z4⟩⟩
 rintro σ3 H3 ⟨nv,rfl,e3,hcase⟩
 refine seq_then (fun σ' H'=>H'=H3∧∃ nds na os,needX l.R l.ws l.g l.on=some nds∧nds.length=l.ls.length∧σ'=[some (.ref a),some (.int (i:Nat)),some (.str l.x),some (.ref wa),some gv,some ov,some (.ref la),some (.ref na),none,none]∧IsNds K H' na os∧os.map (·.2)=nds) ?_ ?_
 rotate_left
 ·intro C hC
  walk_at "rdx_1"
  rcases hcase with ⟨hn0,rfl⟩ | ⟨nds,na,os,hX,rfl,hNs,hos⟩
  ·rw[if_pos rfl,if_pos trivial]
   have:=q _ e3
   unfold goodL at this
   rw[hadj,hn0] at this
   exact this
  ·obtain⟨zs,hz,hZ⟩:=hNs
   have lz:zs.length=nds.length:=by rw[← hos,List.length_map];exact Paired.length hZ
   rw[if_neg (fun z=>nomatch z)]
   refine⟨na,rfl,zs,.inl (SqL.of hz),_,.inl (SqL.of (e3 _ _ h6)),?_⟩
   rw[List.length_map]
   by_cases hc:nds.length=l.ls.length
   ·rw[decide_eq_true (show ((zs.length:Nat):Int)=((l.ls.length:Nat):Int) by omega),if_neg (by decide)]
    exact hC _ _ ⟨rfl,nds,na,os,hX,hc,rfl,⟨zs,hz,hZ⟩,hos⟩
   ·rw[decide_eq_false (show ¬ ((zs.length:Nat):Int)=((l.ls.length:Nat):Int) by omega),if_pos (by rfl)]
    have:=q _ e3
    unfold goodL at this
    rw[hadj,hX] at this
    dsimp only at this
    rw[decide_eq_false hc] at this
    exact this
 rintro σ4 H4 ⟨rfl,nds,na,os,hX,hlen,rfl,hNs,hos⟩
 refine seq_then (fun σ' H'=>∃ x8 x9,σ'=[some (.ref a),some (.int (i:Nat)),some (.str l.x),some (.ref wa),some gv,some ov,some (.ref la),some (.ref na),x8,x9]∧Same H1 H'∧(l.ls.all fun j=>decide (0≤j)&&decide (j < (i:Int)))=true∧(List.zipWith (leanB L l.ws) l.ls nds).all id=true) ?_ ?_
 rotate_left
 ·intro C hC
  walk_at "rdx_2"
  obtain⟨zs,hz,hZ⟩:=hNs
  have lz:zs.length=l.ls.length:=by rw[← hlen,← hos,List.length_map];exact Paired.length hZ
  have hnk:=needX_ok (adjB_iff.mp hadj) okl.w ⟨okl.g,okl.gp⟩ hX
  have bad:∀ H',Same H1 H'→((l.ls.all fun j=>decide (0≤j)&&decide (j < (i:Int)))&&(List.zipWith (leanB L l.ws) l.ls nds).all id)=false→Q (.bl false) H':=fun H' e hb=>by
   have:=q _ e
   unfold goodL at this
   rw[hadj,hX] at this
   dsimp only at this
   rw[decide_eq_true hlen,hb] at this
   exact this
  refine⟨⟨_,SqL.of (e3 _ _ h6)⟩,⟨_,SqL.of hz⟩,?_⟩
  refine for_zip (D:={ nx:=C,rt:=Q }) (xs:=l.ls.map V.int) (ys:=zs) (fun j σ' H'=>∃ x8 x9,σ'=[some (.ref a),some (.int (i:Nat)),some (.str l.x),some (.ref wa),some gv,some ov,some (.ref la),some (.ref na),x8,x9]∧Same H4 H'∧∀ n,n < j→∀ y nd,l.ls[n]?=some y→nds[n]?=some nd→0≤y∧y < (i:Int)∧leanB L l.ws y nd=true) (by rw[List.length_map];omega) ⟨none,none,rfl,Same.refl _,fun n hn=>absurd hn (Nat.not_lt_zero _)⟩ (fun j σ' H' _ ⟨_,_,_,e,_⟩=>⟨SqL.of ((e3.trans e) _ _ h6),SqL.of (e _ _ hz)⟩) (fun j x y σ' H' T hx hy hT0 hp=>?_) (fun σ' H' ⟨x8,x9,z1,z2,z3⟩=>hC _ _ ⟨x8,x9,z1,e3.trans z2,?_,?_⟩)
  ·obtain⟨x8,x9,rfl,e,hb⟩:=hp
   rw[List.getElem?_map] at hx
   cases hj:l.ls[j]? with
   | none=>rw[hj] at hx;cases hx
   | some z =>
   rw[hj] at hx
   cases hx
   obtain⟨o,ho,hyo⟩:=paired_get hZ hy
   have hnd:nds[j]?=some o.2:=by rw[← hos,List.getElem?_map,ho];rfl
   have okn:=hnk o.2 (List.mem_of_getElem? hnd)
   have eT:Same H4 (upd H' T (.tup [V.int z,y])):=e.trans (same_new hT0 _)
   have badR:∀ H'',Same H4 H''→¬ (0≤z∧z < (i:Int))→Q (.bl false) H'':=fun H'' e' hc=>bad _ (e3.trans e') (by
    have:(l.ls.all fun j=>decide (0≤j)&&decide (j < (i:Int)))=false:=by
     rw[List.all_eq_false]
     exact⟨z,List.mem_of_getElem? hj,by simpa using hc⟩
    rw[this];rfl)
   walk_at "rdx_1"
   refine⟨_,.inl (.inl upd_same),rfl,_,_,rfl,_,_,rfl,rfl,z,rfl,?_⟩
   by_cases c1:z < 0
   ·rw[if_pos c1,if_pos trivial]
    exact badR _ eT fun h=>by omega
   rw[if_neg c1]
   refine⟨z,rfl,?_⟩
   by_cases c2:(i:Int)≤z
   ·rw[if_pos c2,if_pos trivial]
    exact badR _ eT fun h=>by omega
   rw[if_neg c2]
   obtain⟨n,rfl⟩:=Int.eq_ofNat_of_zero_le (show 0≤z by omega)
   have hnu:n < us.length:=by omega
   obtain⟨m,hm,hvm⟩:=paired_get hL (List.getElem?_eq_getElem hnu)
   have eq1:=e3.trans eT
   refine⟨us,_,rfl,SqL.of (eq1 _ _ ha),us[n],atI_nat (List.getElem?_eq_getElem hnu),us[n],y,wa,m,l.ws,o,rfl,hvm.keep eq1,hok m (List.mem_of_getElem? hm),⟨⟨_,eq1 _ _ h2,paired_keepT eq1.keepT h3⟩,adjB_iff.mp hadj⟩,okl.w,by have:=okl.wl;omega,hyo.keep eT,okn.ok,by have:=okn.len;have:=okl.wl;omega,okn.gok.1,fun H6 e6=>⟨_,rfl,?_⟩⟩
   have hzi:leanB L l.ws ((n:Nat):Int) o.2=servB m l.ws o.2:=by
    unfold leanB
    rw[Int.toNat_natCast,hm]
   cases hs:servB m l.ws o.2 with
   | true =>
    rw[if_neg (by decide)]
    refine⟨eT.trans e6,fun n' hn' y' nd' g1 g2=>?_⟩
    rcases Nat.lt_or_ge n' j with zz | zz
    ·exact hb n' zz y' nd' g1 g2
    ·have en:n'=j:=by omega
     subst en
     rw[hj] at g1
     rw[hnd] at g2
     cases g1
     cases g2
     exact⟨by omega,by omega,by rw[hzi,hs]⟩
   | false =>
    rw[if_pos (by decide)]
    refine bad _ ((e3.trans eT).trans e6) ?_
    have:(List.zipWith (leanB L l.ws) l.ls nds).all id=false:=by
     rw[List.all_eq_false]
     refine⟨false,List.mem_of_getElem? (i:=j) ?_,by decide⟩
     rw[List.getElem?_zipWith,hj,hnd]
     show some (leanB L l.ws ((n:Nat):Int) o.2)=_
     rw[hzi,hs]
    rw[this,Bool.and_false]
  ·rw[List.all_eq_true]
   intro y hy
   obtain⟨n,hn,rfl⟩:=List.getElem_of_mem hy
   have hn2:n < nds.length:=by omega
   have:=z3 n (by rw[List.length_map];exact hn) _ _ (List.getElem?_eq_getElem hn) (List.getElem?_eq_getElem hn2)
   rw[decide_eq_true this.1,decide_eq_true this.2.1];rfl
  ·rw[List.all_eq_true]
   intro b hb
   obtain⟨n,hn,rfl⟩:=List.getElem_of_mem hb
   rw[List.length_zipWith] at hn
   have hn1:n < l.ls.length:=by omega
   have hn2:n < nds.length:=by omega
   have:=z3 n (by rw[List.length_map];exact hn1) _ _ (List.getElem?_eq_getElem hn1) (List.getElem?_eq_getElem hn2)
   rw[List.getElem_zipWith];exact this.2.2
 rintro σ5 H5 ⟨x8,x9,rfl,e5,hall,hz⟩
 walk_at "rdx_1"
 have:=q _ e5
 unfold goodL at this
 rw[hadj,hX] at this
 dsimp only at this
 rw[decide_eq_true hlen,hall,hz] at this
 exact this
end
noncomputable abbrev s_ai0:Stmt:=top 36
theorem sc_ai0:FnScope ["_law_found","_law_wishes","_law_goal","_law_k"] ["_law_found","_law_wishes","_law_goal"] (defScope s_ai0):=⟨rfl,rfl,rfl,by decide +kernel,rfl,by decide +kernel,by decide +kernel⟩
noncomputable def sp_llines (K:PySem.W.Frag):Sp:=fun vs H Q _=>∃ (a wa:Addr) (gv:V) (us:List V) (L:List Ln) (y:Ln),vs=[.ref a,.ref wa,gv]∧H a=some (.lst us)∧IsLns K H us (L++[y])∧(∀ l∈L++[y],OkLn l)∧(L++[y]).length≤200∧(∀ i,i < (L++[y]).length→lineB (L++[y]) i=true)∧IsW K H wa y.ws∧IsT K H gv y.g∧∀ H',Same H H'→Q (.bl true) H'
section
variable {P:Program} {w:World} {K:PySem.W.Frag} {mg:Str→Option Value} {base:Heap}
theorem ok_ai0 {k:Nat} {f_ai0:Addr} {fd_ai0:FuncData} (F_ai0:Fun K "_law_lines" "_law_lines" s_ai0 f_ai0 fd_ai0) {f_ah0:Addr} {fd_ah0:FuncData} (G_ah0:FnOk P w K mg base CX0 k f_ah0 fd_ah0 ["_law_line"] (sp_lform K)) (m_ah0:mg "_law_line_form"=some (.ref f_ah0)) (k_ah0:PySem.W.keepIn K (.ref f_ah0)=true) (b_ah0:Binds K fd_ah0 ["_law_line"] []) {f_ae0:Addr} {fd_ae0:FuncData} (G_ae0:FnOk P w K mg base CX0 k f_ae0 fd_ae0 ["_law_lines_here","_law_k"] (sp_isgood K)) (m_ae0:mg "_law_good"=some (.ref f_ae0)) (k_ae0:PySem.W.keepIn K (.ref f_ae0)=true) (b_ae0:Binds K fd_ae0 ["_law_lines_here","_law_k"] []) (m_isinstance:mg "isinstance"=none) (m_list:mg "list"=none) (m_len:mg "len"=none) (m_range:mg "range"=none):FnOk P w K mg base CX0 (k+1) f_ai0 fd_ai0 ["_law_found","_law_wishes","_law_goal"] (sp_llines K):=by
 refine F_ai0.ok sc_ai0 (fun vs H Q E h=>?_) (fun cdv A outer s H vs Q E hr h=>?_)
 ·obtain⟨a,wa,gv,us,L,y,rfl,_⟩:=h
  rfl
 obtain⟨a,wa,gv,us,L,y,rfl,ha,hL,ok,hn,good,hW,hG,q⟩:=h
 have lu:=Paired.length hL
 have oky:=ok y (by simp)
 refine⟨_,(pss_cons (ps_if ((pw_or (pt_not (pt_val (pe_callB call_isi (by exact rfl) m_isinstance Ken.boot_isinstance (pa_cons (pvM 0) (pa_cons (pe_bltn (v:=.ty "list") (by exact rfl) m_list Ken.boot_list (by exact rfl)) pa_nil))))) (pw_or (pt_cmpRM (op_eqD (hu_150 hr)) (pvM 0) (pe_lst pa_nil) (nomark _)) (pw_or1 (pt_cmpRM (op_gtM) (pe_callB call_len_seq (by exact rfl) m_len Ken.boot_len (pa_cons (pvM 0) pa_nil)) pe_int (nomark _)))))).pt
  (pss_one (ps_ret pe_bl))
  pss_nil)
 (pss_cons (ps_for PassesOwn.never rfl (pi_range1 rfl m_range (pa_cons (pe_callB call_len_seq (by exact rfl) m_len Ken.boot_len (pa_cons (pvM 0) pa_nil)) pa_nil)) (pg_name (i:=3) sc_ai0.nd rfl (Or.inl rfl))
  (pss_one (ps_if ((pw_or (pt_not (pt_val (pe_call G_ah0 hr (by exact rfl) m_ah0 k_ah0 b_ah0 .nil pass0 (pa_cons (pe_ix ix_list (pvM 0) (pvM 3) (fun _ _=>rfl)) pa_nil)))) (pw_or1 (pt_not (pt_val (pe_call G_ae0 hr (by exact rfl) m_ae0 k_ae0 b_ae0 .nil pass0 (pa_cons (pvM 0) (pa_cons (pvM 3) pa_nil)))))))).pt
  (pss_one (ps_ret pe_bl))
  pss_nil)))
 (pss_one (ps_ret (pe_and (pe_cmpR (op_eqD (hu_150 hr)) (pe_ix ix_tup (pe_ix ix_list (pvM 0) (pe_un un_neg pe_int) (fun _ _=>rfl)) pe_int (fun _ _=>rfl)) (pvM 1) (nomark _)) (pe_one (pe_cmpR (op_eqD (hu_150 hr)) (pe_ix ix_tup (pe_ix ix_list (pvM 0) (pe_un un_neg pe_int) (fun _ _=>rfl)) pe_int (fun _ _=>rfl)) (pvM 2) (nomark _)))))))),?_⟩
 refine seq_then (fun σ' H'=>σ'=[some (.ref a),some (.ref wa),some gv,none]∧Same H H') ?_ ?_
 rotate_left
 ·intro C hC
  walk_at "rdx_1"
  refine⟨_,.lstK (SqL.of ha),_,rfl,?_⟩
  rw[if_neg (by decide)]
  refine⟨by decide,fun p hp=>?_⟩
  have s1:=same_new hp (HO.lst [])
  refine⟨.list ((L++[y]).map lnD),by rw[Dn];exact⟨a,us,rfl,SqL.of (s1 _ _ ha),lns_dn (hL.keep s1)⟩,.list [],dn_nil upd_same,lns_lay (hL.keep s1) ok,rfl,Nat.le_trans (Nat.min_le_right _ _) (by decide),?_⟩
  rw[if_neg (by rw[if_neg Bool.false_ne_true];cases L<;>exact Bool.false_ne_true)]
  refine⟨us,.inl (SqL.of (s1 _ _ ha)),?_⟩
  rw[if_neg (by omega)]
  exact hC _ _ ⟨rfl,s1⟩
 rintro σ1 H1 ⟨rfl,e1⟩
 refine seq_then (fun σ' H'=>∃ x3,σ'=[some (.ref a),some (.ref wa),some gv,x3]∧Same H H') ?_ ?_
 rotate_left
 ·intro C hC
  walk_at "rdx_2"
  refine⟨us,.inl (SqL.of (e1 _ _ ha)),by omega,by omega,?_⟩
  refine for_range (D:={ nx:=C,rt:=Q }) (n:=((us.length:Nat):Int).toNat) (lo:=0) (fun i σ' H'=>∃ x3,σ'=[some (.ref a),some (.ref wa),some gv,x3]∧Same H H') ⟨none,rfl,e1⟩ (fun i σ' H' hlt hp=>?_) (fun σ' H' ⟨x3,h1,h2⟩=>hC _ _ ⟨x3,h1,h2⟩)
  obtain⟨x3,rfl,e⟩:=hp
  have hi:i < us.length:=by omega
  obtain⟨l,hl,hv⟩:=paired_get hL (List.getElem?_eq_getElem hi)
  walk_at "rdx_1"
  rw[show (0:Int)+(i:Int)=((i:Nat):Int) by omega]
  refine⟨us,SqL.of (e _ _ ha),us[i],atI_nat (List.getElem?_eq_getElem hi),us[i],l,rfl,hv.keep e,ok l (List.mem_of_getElem? hl),fun H3 e3=>⟨_,rfl,?_⟩⟩
  rw[if_neg (by decide)]
  refine⟨a,us,L++[y],i,rfl,(e.trans e3) _ _ ha,hL.keep (e.trans e3),ok,by omega,hn,fun H4 e4=>⟨_,rfl,?_⟩⟩
  rw[good i (by omega),if_neg (by decide)]
  exact (e.trans e3).trans e4
 rintro σ2 H2 ⟨x3,rfl,e2⟩
 walk_at "rdx_1"
 obtain⟨us',u,rfl,hL',hu⟩:=paired_snocK hL
 obtain⟨p,wb,la,gv',ov,ys,rfl,h1,h2,h3,h4,h5,h6⟩:=hu.keep e2
 obtain⟨⟨zs,z1,z2⟩,z3⟩:=hW.keep e2
 have lay:=tms_lay (ts:=y.ws) fun t ht=>(oky.w t ht).1
 have dw:(PyData.list (y.ws.map Tm.data)).depth≤141:=tms_depth (n:=140) fun t ht=>by have:=(oky.w t ht).2;have:=deep_parts t;omega
 refine⟨_,SqL.of (e2 _ _ ha),_,atI_last _ _,p,rfl,_,h1,_,rfl,.list (y.ws.map Tm.data),by rw[Dn];exact⟨wb,ys,rfl,SqL.of h2,tms_dn h3⟩,.list (y.ws.map Tm.data),by rw[Dn];exact⟨wa,zs,rfl,SqL.of z1,tms_dn z2⟩,lay,lay,Nat.le_trans (Nat.min_le_left _ _) (by omega),?_⟩
 rw[if_pos (by rw[if_neg Bool.false_ne_true,eqv_tmsL];exact decide_eq_true rfl)]
 refine⟨_,SqL.of (e2 _ _ ha),_,atI_last _ _,p,rfl,_,h1,_,rfl,y.g.data,h4,y.g.data,hG.keep e2.keepT,y.g.lay oky.g,y.g.lay oky.g,Nat.le_trans (Nat.min_le_left _ _) (by rw[Tm.depth];have:=oky.gp;have:=deep_parts y.g;omega),?_⟩
 rw[if_neg Bool.false_ne_true,Tm.eqv,decide_eq_true rfl]
 exact q _ e2
end
noncomputable abbrev s_an0:Stmt:=top 37
theorem sc_an0:FnScope ["_law_statement_here","_law_word","_law_other","_law_form","_law_one","_law_two"] ["_law_statement_here","_law_word","_law_other"] (defScope s_an0):=⟨rfl,rfl,rfl,by decide +kernel,rfl,by decide +kernel,by decide +kernel⟩
noncomputable def sp_lplaced (K:PySem.W.Frag) (n:Nat):Sp:=fun vs H Q _=>∃ (v:V) (t:Tm) (x:Str) (ov:V) (o:Tm),vs=[v,.str x,ov]∧IsT K H v t∧IsT K H ov o∧t.ok∧Word x∧t.deep < n∧n≤100∧∀ (r:V) (H':Hp),Same H H'→IsT K H' r (t.sub x o)→Q r H'
section
variable {P:Program} {w:World} {K:PySem.W.Frag} {mg:Str→Option Value} {base:Heap}
theorem ok_an0 {k n:Nat} {f_an0:Addr} {fd_an0:FuncData} (F_an0:Fun K "_law_placed" "_law_placed" s_an0 f_an0 fd_an0) (G_an0:FnOk P w K mg base CX0 k f_an0 fd_an0 ["_law_statement_here","_law_word","_law_other"] (sp_lplaced K n)) (m_an0:mg "_law_placed"=some (.ref f_an0)) (k_an0:PySem.W.keepIn K (.ref f_an0)=true) (b_an0:Binds K fd_an0 ["_law_statement_here","_law_word","_law_other"] []) (m_len:mg "len"=none):FnOk P w K mg base CX0 (k+1) f_an0 fd_an0 ["_law_statement_here","_law_word","_law_other"] (sp_lplaced K (n+1)):=by
 refine F_an0.ok sc_an0 (fun vs H Q E h=>?_) (fun cdv A outer s H vs Q E hr h=>?_)
 ·obtain⟨v,t,x,ov,o,rfl,_⟩:=h
  rfl
 obtain⟨v,t,x,ov,o,rfl,hT,hO,tok,hx,hd,hn,q⟩:=h
 refine⟨_,(pss_cons (ps_if (pt_cmpRM (op_eqD (hu_150 hr)) (pvM 0) (pe_tup (pa_cons pe_str (pa_cons (pvM 1) pa_nil))) (nomark _))
  (pss_one (ps_ret (pvM 2)))
  pss_nil)
 (pss_cons (ps_if (pt_cmpRM (op_ltM) (pe_callB call_len_seq (by exact rfl) m_len Ken.boot_len (pa_cons (pvM 0) pa_nil)) pe_int (nomark _))
  (pss_one (ps_ret (pvM 0)))
  pss_nil)
 (pss_cons (ps_asg (pvM 0) (pg_tup rfl (pgs_cons (pg_name (i:=3) sc_an0.nd rfl (Or.inl rfl)) (pgs_cons (pg_name (i:=4) sc_an0.nd rfl (Or.inl rfl)) (pgs_cons (pg_name (i:=5) sc_an0.nd rfl (Or.inl rfl)) pgs_nil)))))
 (pss_one (ps_ret (pe_tup (pa_cons (pvM 3) (pa_cons (pe_call G_an0 hr (by exact rfl) m_an0 k_an0 b_an0 .nil pass0 (pa_cons (pvM 4) (pa_cons (pvM 1) (pa_cons (pvM 2) pa_nil)))) (pa_cons (pe_call G_an0 hr (by exact rfl) m_an0 k_an0 b_an0 .nil pass0 (pa_cons (pvM 5) (pa_cons (pvM 1) (pa_cons (pvM 2) pa_nil)))) pa_nil))))))))),?_⟩
 refine seq_then (fun σ' H'=>σ'=[some v,some (.str x),some ov,none,none,none]∧Same H H'∧t≠.ltr x) ?_ ?_
 rotate_left
 ·intro C hC
  walk_at "rdx_1"
  refine⟨by decide,fun p hp=>?_⟩
  have s1:Same H (upd H p (.tup [.str "letter",.str x])):=same_new hp _
  have hl:IsT K (upd H p (.tup [.str "letter",.str x])) (.ref p) (.ltr x):=isT_ltr.mpr ⟨p,rfl,.inl (.inl upd_same)⟩
  refine⟨t.data,hT.keep s1.keepT,(Tm.ltr x).data,hl,t.lay tok,(Tm.ltr x).lay hx,by rw[Tm.depth,Tm.depth];show min _ 1≤150;omega,?_⟩
  rw[if_neg Bool.false_ne_true,Tm.eqv]
  by_cases e:t=.ltr x
  ·subst e
   rw[if_pos (decide_eq_true rfl)]
   refine q _ _ s1 ?_
   show IsT K _ ov (if x=x then o else .ltr x)
   rw[if_pos rfl]
   exact hO.keep s1.keepT
  ·rw[if_neg (by rw[decide_eq_false e];exact Bool.false_ne_true)]
   exact hC _ _ ⟨rfl,s1,e⟩
 rintro σ1 H1 ⟨rfl,e1,hne⟩
 refine seq_then (fun σ' H'=>σ'=[some v,some (.str x),some ov,none,none,none]∧H'=H1∧∃ kd a b,t=.nd kd a b) ?_ ?_
 rotate_left
 ·intro C hC
  walk_at "rdx_1"
  cases t with
  | low =>
   obtain⟨p,rfl,hs⟩:=isT_low.mp (hT.keep e1.keepT)
   refine⟨p,rfl,_,.inr hs,?_⟩
   rw[if_pos (by decide)]
   exact q _ _ e1 (hT.keep e1.keepT)
  | ltr y =>
   have hyx:y≠x:=fun z=>hne (by rw[z])
   obtain⟨p,rfl,hs⟩:=isT_ltr.mp (hT.keep e1.keepT)
   refine⟨p,rfl,_,.inr hs,?_⟩
   rw[if_pos (by show (2:Int) < 3;decide)]
   refine q _ _ e1 ?_
   show IsT K _ _ (if y=x then o else .ltr y)
   rw[if_neg hyx]
   exact hT.keep e1.keepT
  | nd kd a b =>
   obtain⟨p,va,vb,rfl,hs,_,_⟩:=isT_nd.mp (hT.keep e1.keepT)
   refine⟨p,rfl,_,.inr hs,?_⟩
   rw[if_neg (by show ¬ (3:Int) < 3;decide)]
   exact hC _ _ ⟨rfl,rfl,kd,a,b,rfl⟩
 rintro σ2 H2 ⟨rfl,rfl,kd,a,b,rfl⟩
 have hdd:1+max a.deep b.deep≤n:=by have:(Tm.nd kd a b).deep=1+max a.deep b.deep:=rfl;omega
 obtain⟨p,va,vb,rfl,hs,ha,hb⟩:=isT_nd.mp (hT.keep e1.keepT)
 walk_at "rdx_1"
 have hO1:=hO.keep e1.keepT
 refine⟨_,hs,rfl,_,_,rfl,_,_,rfl,_,_,rfl,rfl,va,a,x,ov,o,rfl,ha,hO1,tok.1,hx,by omega,by omega,fun r1 H3 e3 h3=>⟨vb,b,x,ov,o,rfl,hb.keep e3.keepT,hO1.keep e3.keepT,tok.2,hx,by omega,by omega,fun r2 H4 e4 h4=>⟨by decide,fun p5 hp5=>?_⟩⟩⟩
 have s5:=same_new hp5 (HO.tup [V.str kd.str,r1,r2])
 exact q _ _ (((e1.trans e3).trans e4).trans s5) (isT_nd.mpr ⟨p5,r1,r2,rfl,.inl (.inl upd_same),(h3.keep e4.keepT).keep s5.keepT,h4.keep s5.keepT⟩)
theorem lplaced_zero {f:Addr} {fd:FuncData} {ps:List Str} {k:Nat}:FnOk P w K mg base CX0 k f fd ps (sp_lplaced K 0):=by
 have no:∀ vs H Q E,¬ sp_lplaced K 0 vs H Q E:=fun vs H Q E h=>by
  obtain⟨v,t,_,_,_,_,_,_,_,_,hd,_⟩:=h
  omega
 exact⟨fun vs H Q E h=>absurd h (no vs H Q E),fun A outer s H args us vs Q E _ _ _ _ h=>absurd h (no vs H Q E)⟩
theorem all_an0 {f_an0:Addr} {fd_an0:FuncData} (F_an0:Fun K "_law_placed" "_law_placed" s_an0 f_an0 fd_an0) (m_an0:mg "_law_placed"=some (.ref f_an0)) (b_an0:Binds K fd_an0 ["_law_statement_here","_law_word","_law_other"] []) (m_len:mg "len"=none) :
  ∀ n:Nat,FnOk P w K mg base CX0 (n+1) f_an0 fd_an0 ["_law_statement_here","_law_word","_law_other"] (sp_lplaced K n)
 | 0=>lplaced_zero
 | n+1=>ok_an0 F_an0 (all_an0 F_an0 m_an0 b_an0 m_len n) m_an0 F_an0.kp b_an0 m_len
end
noncomputable abbrev s_am0:Stmt:=top 26
theorem sc_am0:FnScope ["_law_statement_here"] ["_law_statement_here"] (defScope s_am0):=⟨rfl,rfl,rfl,by decide +kernel,rfl,by decide +kernel,by decide +kernel⟩
section
variable {P:Program} {w:World} {K:PySem.W.Frag} {mg:Str→Option Value} {base:Heap}
theorem ok_am0 {k n:Nat} {f_am0:Addr} {fd_am0:FuncData} (F_am0:Fun K "_law_parts" "_law_parts" s_am0 f_am0 fd_am0) (G_am0:FnOk P w K mg base CX0 k f_am0 fd_am0 ["_law_statement_here"] (sp_partsL K n)) (m_am0:mg "_law_parts"=some (.ref f_am0)) (k_am0:PySem.W.keepIn K (.ref f_am0)=true) (b_am0:Binds K fd_am0 ["_law_statement_here"] []) (m_len:mg "len"=none):FnOk P w K mg base CX0 (k+1) f_am0 fd_am0 ["_law_statement_here"] (sp_partsL K (n+1)):=by
 refine F_am0.ok sc_am0 (fun vs H Q E h=>?_) (fun cdv A outer s H vs Q E hr h=>?_)
 ·obtain⟨v,t,rfl,_⟩:=h
  rfl
 obtain⟨v,t,rfl,hT,hd,q⟩:=h
 refine⟨_,(pss_cons (ps_if (pt_cmpRM (op_ltM) (pe_callB call_len_seq (by exact rfl) m_len Ken.boot_len (pa_cons (pvM 0) pa_nil)) pe_int (nomark _))
  (pss_one (ps_ret pe_int))
  pss_nil)
 (pss_one (ps_ret (pe_op op_addM (pe_op op_addM pe_int (pe_call G_am0 hr (by exact rfl) m_am0 k_am0 b_am0 .nil pass0 (pa_cons (pe_ix ix_tup (pvM 0) pe_int (fun _ _=>rfl)) pa_nil))) (pe_call G_am0 hr (by exact rfl) m_am0 k_am0 b_am0 .nil pass0 (pa_cons (pe_ix ix_tup (pvM 0) pe_int (fun _ _=>rfl)) pa_nil)))))),?_⟩
 walk_at "rdx_1"
 cases t with
 | low =>
  obtain⟨p,rfl,hs⟩:=isT_low.mp hT
  refine⟨p,rfl,_,.inr hs,?_⟩
  rw[if_pos (by decide)]
  exact q _ (Same.refl _)
 | ltr y =>
  obtain⟨p,rfl,hs⟩:=isT_ltr.mp hT
  refine⟨p,rfl,_,.inr hs,?_⟩
  rw[if_pos (by show (2:Int) < 3;decide)]
  exact q _ (Same.refl _)
 | nd kk c d =>
  obtain⟨p,x,y,rfl,hs,hx,hy⟩:=isT_nd.mp hT
  have hdd:1+max c.deep d.deep≤n:=by have:(Tm.nd kk c d).deep=1+max c.deep d.deep:=rfl;omega
  refine⟨p,rfl,_,.inr hs,?_⟩
  rw[if_neg (by show ¬ (3:Int) < 3;decide)]
  refine⟨p,rfl,_,hs,_,rfl,x,c,rfl,hx,by omega,fun H1 e1=>⟨_,rfl,p,rfl,_,e1.sqt hs,_,rfl,y,d,rfl,hy.keep e1.keepT,by omega,fun H2 e2=>?_⟩⟩
  have:=q _ (e1.trans e2)
  have ep:(((Tm.nd kk c d).parts:Nat):Int)=1+(c.parts:Int)+(d.parts:Int):=by
   show (((1+c.parts+d.parts:Nat)):Int)=_
   omega
  rw[ep] at this
  exact⟨_,rfl,this⟩
theorem parts_zero {f:Addr} {fd:FuncData} {ps:List Str} {k:Nat}:FnOk P w K mg base CX0 k f fd ps (sp_partsL K 0):=by
 have no:∀ vs H Q E,¬ sp_partsL K 0 vs H Q E:=fun vs H Q E h=>by
  obtain⟨v,t,_,_,hd,_⟩:=h
  omega
 exact⟨fun vs H Q E h=>absurd h (no vs H Q E),fun A outer s H args us vs Q E _ _ _ _ h=>absurd h (no vs H Q E)⟩
theorem all_am0 {f_am0:Addr} {fd_am0:FuncData} (F_am0:Fun K "_law_parts" "_law_parts" s_am0 f_am0 fd_am0) (m_am0:mg "_law_parts"=some (.ref f_am0)) (b_am0:Binds K fd_am0 ["_law_statement_here"] []) (m_len:mg "len"=none) :
  ∀ n:Nat,FnOk P w K mg base CX0 (n+1) f_am0 fd_am0 ["_law_statement_here"] (sp_partsL K n)
 | 0=>parts_zero
 | n+1=>ok_am0 F_am0 (all_am0 F_am0 m_am0 b_am0 m_len n) m_am0 F_am0.kp b_am0 m_len
end
noncomputable abbrev s_ap0:Stmt:=top 38
theorem sc_ap0:FnScope ["_law_statement_here","_law_word","_law_one","_law_other","_law_found","_law_wishes","_law_due"] ["_law_statement_here","_law_word","_law_one","_law_other"] (defScope s_ap0):=⟨rfl,rfl,rfl,by decide +kernel,rfl,by decide +kernel,by decide +kernel⟩
noncomputable def sp_told62 (K:PySem.W.Frag) (T:Addr) (ds:List (Pos×Str)):Sp:=fun vs H Q _=>∃ (v:V) (t:Tm) (x:Str) (v1 v2:V) (o1 o2:Tm),vs=[v,.str x,v1,v2]∧IsT K H v t∧t.ok∧t.parts≤25∧Word x∧IsT K H v1 o1∧IsT K H v2 o2∧O7 o1∧O7 o2∧TabOk H T ds ∧
 ∀ (H':Hp),KeepT K H H'→TabOk H' T ds→Q (.bl true) H'
section
variable {P:Program} {w:World} {K:PySem.W.Frag} {mg:Str→Option Value} {base:Heap}
theorem ok_ap0 {k:Nat} {T:Addr} {f_ap0:Addr} {fd_ap0:FuncData} (F_ap0:Fun K "_law_told" "_law_told" s_ap0 f_ap0 fd_ap0) {f_bg0:Addr} {fd_bg0:FuncData} (G_bg0:FnOk P w K mg base CX0 k f_bg0 fd_bg0 ["statement","word","one","other"] (sp_swapped K T ds_placed)) (m_bg0:mg "swapped"=some (.ref f_bg0)) (k_bg0:PySem.W.keepIn K (.ref f_bg0)=true) (b_bg0:Binds K fd_bg0 ["statement","word","one","other"] []) {f_an0:Addr} {fd_an0:FuncData} (G_an0:FnOk P w K mg base CX0 k f_an0 fd_an0 ["_law_statement_here","_law_word","_law_other"] (sp_lplaced K 27)) (m_an0:mg "_law_placed"=some (.ref f_an0)) (k_an0:PySem.W.keepIn K (.ref f_an0)=true) (b_an0:Binds K fd_an0 ["_law_statement_here","_law_word","_law_other"] []) {f_al0:Addr} {fd_al0:FuncData} (G_al0:FnOk P w K mg base CX0 k f_al0 fd_al0 ["_law_some"] (sp_onceL K)) (m_al0:mg "_law_once"=some (.ref f_al0)) (k_al0:PySem.W.keepIn K (.ref f_al0)=true) (b_al0:Binds K fd_al0 ["_law_some"] []) {f_ai0:Addr} {fd_ai0:FuncData} (G_ai0:FnOk P w K mg base CX0 k f_ai0 fd_ai0 ["_law_found","_law_wishes","_law_goal"] (sp_llines K)) (m_ai0:mg "_law_lines"=some (.ref f_ai0)) (k_ai0:PySem.W.keepIn K (.ref f_ai0)=true) (b_ai0:Binds K fd_ai0 ["_law_found","_law_wishes","_law_goal"] []) {f_am0:Addr} {fd_am0:FuncData} (G_am0:FnOk P w K mg base CX0 k f_am0 fd_am0 ["_law_statement_here"] (sp_partsL K 27)) (m_am0:mg "_law_parts"=some (.ref f_am0)) (k_am0:PySem.W.keepIn K (.ref f_am0)=true) (b_am0:Binds K fd_am0 ["_law_statement_here"] []) (m_len:mg "len"=none) (m_list:mg "list"=none):FnOk P w K mg base CX0 (k+1) f_ap0 fd_ap0 ["_law_statement_here","_law_word","_law_one","_law_other"] (sp_told62 K T ds_placed):=by
 refine F_ap0.ok sc_ap0 (fun vs H Q E h=>?_) (fun cdv A outer s H vs Q E hr h=>?_)
 ·obtain⟨v,t,x,v1,v2,o1,o2,rfl,_⟩:=h
  rfl
 obtain⟨v,t,x,v1,v2,o1,o2,rfl,hT,tok,tp,hx,h1,h2,k1,k2,tab,q⟩:=h
 have dt:t.deep < 27:=by have:=deep_parts t;omega
 have okb:∀ o,O7 o→(t.sub x o).ok∧(t.sub x o).parts≤110:=fun o ho=>⟨Tm.sub_ok ho.ok tok,by have:=sub7 (x:=x) ho t;omega⟩
 refine⟨_,(pss_cons (ps_set (i:=4) sc_ap0.nd rfl (Or.inl rfl) (pe_call G_bg0 hr (by exact rfl) m_bg0 k_bg0 b_bg0 .nil pass0 (pa_cons (pvM 0) (pa_cons (pvM 1) (pa_cons (pvM 2) (pa_cons (pvM 3) pa_nil))))))
 (pss_cons (ps_set (i:=5) sc_ap0.nd rfl (Or.inl rfl) (pe_lst (pa_cons (pe_tup (pa_cons pe_str (pa_cons (pvM 2) (pa_cons (pvM 3) pa_nil)))) (pa_cons (pe_tup (pa_cons pe_str (pa_cons (pvM 3) (pa_cons (pvM 2) pa_nil)))) (pa_cons (pe_call G_an0 hr (by exact rfl) m_an0 k_an0 b_an0 .nil pass0 (pa_cons (pvM 0) (pa_cons (pvM 1) (pa_cons (pvM 2) pa_nil)))) pa_nil)))))
 (pss_cons (ps_if (pt_not (pt_val (pe_call G_ai0 hr (by exact rfl) m_ai0 k_ai0 b_ai0 .nil pass0 (pa_cons (pvM 4) (pa_cons (pe_call G_al0 hr (by exact rfl) m_al0 k_al0 b_al0 .nil pass0 (pa_cons (pvM 5) pa_nil)) (pa_cons (pe_call G_an0 hr (by exact rfl) m_an0 k_an0 b_an0 .nil pass0 (pa_cons (pvM 0) (pa_cons (pvM 1) (pa_cons (pvM 3) pa_nil)))) pa_nil))))))
  (pss_one (ps_ret pe_bl))
  pss_nil)
 (pss_cons (ps_if (pt_cmpRM (op_gtM) (pe_callB call_len_seq (by exact rfl) m_len Ken.boot_len (pa_cons (pvM 4) pa_nil)) (pe_op op_mulM pe_int (pe_call G_am0 hr (by exact rfl) m_am0 k_am0 b_am0 .nil pass0 (pa_cons (pvM 0) pa_nil))) (nomark _))
  (pss_one (ps_ret pe_bl))
  pss_nil)
 (pss_cons (ps_setLC (i:=6) sc_ap0.nd rfl (Or.inl rfl) (blk0 (N':=["_law_line"]) (by decide +kernel) (by decide +kernel) rfl (by decide +kernel)) rfl (pi_list (pvM 4)) (fun _ _ _ _=>(pg_name (i:=0) (show (["_law_line"]:List Str).Nodup from by decide +kernel) rfl (Or.inl rfl))) (fun _ _ _ _=>(pe_lst (pa_cons (pe_callTy (call_list_ofK (K:=K) rfl) (by exact rfl) m_list Ken.boot_list (pa_cons (pe_ix (ix_tupK (K:=K) rfl) (pvM 0) pe_int (fun _ _=>rfl)) pa_nil)) (pa_cons (pe_callTy (call_list_ofK (K:=K) rfl) (by exact rfl) m_list Ken.boot_list (pa_cons (pe_ix (ix_tupK (K:=K) rfl) (pvM 0) pe_int (fun _ _=>rfl)) pa_nil)) pa_nil)))) rfl)
 (pss_cons (ps_expr (pe_bm PySem.F.plainAttrs_list PySem.F.slot_list_append PySem.F.type_list_append mt_append (pe_ix ix_list (pe_ix ix_list (pvM 6) (pe_un un_neg pe_int) (fun _ _=>rfl)) pe_int (fun _ _=>rfl)) (pa_cons (pvM 2) pa_nil)))
 (pss_cons (ps_expr (pe_bm PySem.F.plainAttrs_list PySem.F.slot_list_append PySem.F.type_list_append mt_append (pe_ix ix_list (pe_ix ix_list (pvM 6) (pe_un un_neg pe_int) (fun _ _=>rfl)) pe_int (fun _ _=>rfl)) (pa_cons pe_int pa_nil)))
 (pss_cons (ps_expr (pe_bm PySem.F.plainAttrs_list PySem.F.slot_list_append PySem.F.type_list_append mt_append (pe_ix ix_tup (pe_ix ix_list (pvM 4) (pe_un un_neg pe_int) (fun _ _=>rfl)) pe_int (fun _ _=>rfl)) (pa_cons (pvM 2) pa_nil)))
 (pss_cons (ps_expr (pe_bm PySem.F.plainAttrs_list PySem.F.slot_list_append PySem.F.type_list_append mt_append (pe_ix ix_tup (pe_ix ix_list (pvM 4) (pe_un un_neg pe_int) (fun _ _=>rfl)) pe_int (fun _ _=>rfl)) (pa_cons pe_int pa_nil)))
 (pss_cons (ps_if (pt_cmpRM (op_neD (hu_150 hr)) (pe_lc (blk0 (N':=["_law_line"]) (by decide +kernel) (by decide +kernel) rfl (by decide +kernel)) rfl (pi_list (pvM 4)) (fun _ _ _ _=>(pg_name (i:=0) (show (["_law_line"]:List Str).Nodup from by decide +kernel) rfl (Or.inl rfl))) (fun _ _ _ _=>(pe_lst (pa_cons (pe_ix (ix_tupK (K:=K) rfl) (pvM 0) pe_int (fun _ _=>rfl)) (pa_cons (pe_ix (ix_tupK (K:=K) rfl) (pvM 0) pe_int (fun _ _=>rfl)) pa_nil))))) (pvM 6) (nomark _))
  (pss_one (ps_ret pe_bl))
  pss_nil)
 (pss_cons (ps_expr (pe_bm0 PySem.F.plainAttrs_list PySem.F.slot_list_pop PySem.F.type_list_pop mt_pop (pvM 4)))
 (pss_one (ps_ret pe_bl))))))))))))),?_⟩
 refine seq_then (fun σ' H'=>∃ fa F us xs y,σ'=[some v,some (.str x),some v1,some v2,some (.ref fa),none,none]∧KeepT K H H'∧TabOk H' T ds_placed∧LS K H' F fa us (xs++[y])∧y.1.ws=norm (ifs62 o1 o2++[t.sub x o1])∧y.1.g=t.sub x o2∧(xs++[y]).length≤3*t.parts) ?_ ?_
 rotate_left
 ·intro C hC
  walk_at "rdx_1"
  exact⟨v,t,x,v1,v2,o1,o2,rfl,hT,tok,tp,hx,h1,h2,k1,k2,tab,fun r H' F us xs y a1 a2 a3 a4 a5 a6=>hC _ _ ⟨r,F,us,xs,y,rfl,a1,a2,a3,a4,a5,a6⟩⟩
 rintro σ1 H1 ⟨fa,F,us,xs,y,rfl,kk,tb,hL,hyw,hyg,hlen⟩
 have hT1:=hT.keep kk
 have h11:=h1.keep kk
 have h21:=h2.keep kk
 refine seq_then (fun σ' H'=>∃ wl ws,σ'=[some v,some (.str x),some v1,some v2,some (.ref fa),some (.ref wl),none]∧Same H1 H'∧H' wl=some (.lst ws)∧Paired (IsT K H') ws [.nd .thn o1 o2,.nd .thn o2 o1,t.sub x o1]) ?_ ?_
 rotate_left
 ·intro C hC
  walk_at "rdx_1"
  refine⟨by decide,fun p hp=>⟨by decide,fun p1 hp1=>?_⟩⟩
  have s1:=same_new hp (HO.tup [V.str (Str.ofString "then"),v1,v2])
  have s2:=same_new hp1 (HO.tup [V.str (Str.ofString "then"),v2,v1])
  have S:=s1.trans s2
  refine⟨v,t,x,v1,o1,rfl,hT1.keep S.keepT,h11.keep S.keepT,tok,hx,dt,by decide,fun r H3 e3 hr3=>⟨by decide,fun p2 hp2=>?_⟩⟩
  have s3:=same_new hp2 (HO.lst [V.ref p,V.ref p1,r])
  have S3:=(S.trans e3).trans s3
  exact hC _ _ ⟨p2,_,rfl,S3,upd_same,.cons (isT_nd.mpr ⟨p,v1,v2,rfl,((s2.trans e3).trans s3).sqt (.inl (.inl upd_same)),h11.keep S3.keepT,h21.keep S3.keepT⟩) (.cons (isT_nd.mpr ⟨p1,v2,v1,rfl,(e3.trans s3).sqt (.inl (.inl upd_same)),h21.keep S3.keepT,h11.keep S3.keepT⟩) (.cons (hr3.keep s3.keepT) .nil))⟩
 rintro σ2 H2 ⟨wl,ws,rfl,e2,hwl,hws⟩
 refine seq_then (fun σ' H'=>σ'=[some v,some (.str x),some v1,some v2,some (.ref fa),some (.ref wl),none]∧Same H1 H') ?_ ?_
 rotate_left
 ·intro C hC
  walk_at "rdx_1"
  have kp1:=k1.p
  have kp2:=k2.p
  have okW:Okw [.nd .thn o1 o2,.nd .thn o2 o1,t.sub x o1]:=fun u hu=>by
   simp only[List.mem_cons,List.not_mem_nil,or_false] at hu
   rcases hu with rfl | rfl | rfl
   ·exact⟨⟨k1.ok,k2.ok⟩,by show 1+o1.parts+o2.parts≤110;omega⟩
   ·exact⟨⟨k2.ok,k1.ok⟩,by show 1+o2.parts+o1.parts≤110;omega⟩
   ·exact okb o1 k1
  refine⟨wl,ws,_,rfl,hwl,hws,okW,by simp,fun r H3 e3 fr hr3=>⟨v,t,x,v2,o2,rfl,hT1.keep (e2.trans e3).keepT,h21.keep (e2.trans e3).keepT,tok,hx,dt,by decide,fun r2 H4 e4 hr4=>?_⟩⟩
  have S:=(e2.trans e3).trans e4
  have hLn:IsLns K H4 us (xs.map (·.1)++[y.1]):=by
   have:=paired_mapR (G:=fun v l=>IsLn K H4 v l) (f:=fun z:LnA=>z.1) (fun _ _ z=>IsLn.keep S z.ln) hL.p
   rw[List.map_append] at this
   exact this
  have ew:norm [.nd .thn o1 o2,.nd .thn o2 o1,t.sub x o1]=y.1.ws:=by
   rw[hyw]
   refine norm_congr fun u=>?_
   unfold ifs62
   rw[List.mem_append,mem_norm]
   simp
   constructor
   ·rintro (z | z | z)
    ·exact .inl (.inl z)
    ·exact .inl (.inr z)
    ·exact .inr z
   ·rintro ((z | z) | z)
    ·exact .inl z
    ·exact .inr (.inl z)
    ·exact .inr (.inr z)
  have lm:(xs.map (·.1)++[y.1]).length=(xs++[y]).length:=by simp
  have em:(xs++[y]).map (·.1)=xs.map (·.1)++[y.1]:=by simp
  refine⟨fa,r,r2,us,xs.map (·.1),y.1,rfl,S _ _ hL.h,hLn,fun l hl=>?_,by omega,fun i hi=>?_,ew▸hr3.keep e4,hyg▸hr4,fun H5 e5=>⟨_,rfl,?_⟩⟩
  ·rw[← em] at hl
   obtain⟨z,hz,rfl⟩:=List.mem_map.mp hl
   exact hL.ok z hz
  ·rw[← em];exact hL.good i (by omega)
  ·rw[if_neg (by decide)]
   exact hC _ _ ⟨rfl,S.trans e5⟩
 rintro σ3 H3 ⟨rfl,e3⟩
 refine seq_then (fun σ' H'=>σ'=[some v,some (.str x),some v1,some v2,some (.ref fa),some (.ref wl),none]∧Same H1 H') ?_ ?_
 rotate_left
 ·intro C hC
  walk_at "rdx_1"
  refine⟨us,.inl (SqL.of (e3 _ _ hL.h)),v,t,rfl,hT1.keep e3.keepT,dt,fun H4 e4=>⟨_,rfl,mul_left (by decide) (by decide),?_⟩⟩
  rw[if_neg (by have:=hL.len;omega)]
  exact hC _ _ ⟨rfl,e3.trans e4⟩
 rintro σ4 H4 ⟨rfl,e4⟩
 have hL4:=hL.keep (e4.sb fa) (e4 _ _ hL.h)
 have h14:=h11.keep e4.keepT
 obtain⟨us0,ul,rfl,hP0,hPl⟩:=paired_snocK hL4.p
 obtain⟨pl,gv,ov,wv,rfl,l1,l2,l3,l4,l5,l6⟩:=hPl
 have hln4:IsLns K H4 (us0++[.ref pl]) (xs.map (·.1)++[y.1]):=paired_app (paired_mapR (G:=fun v l=>IsLn K H4 v l) (f:=fun z:LnA=>z.1) (fun _ _ z=>z.ln) hP0) (.cons ⟨pl,y.2.1,y.2.2,gv,ov,wv,rfl,l1,l2,l3,l4,l5,l6⟩ .nil)
 have nny:=List.nodup_cons.mp hL4.nd
 refine seq_then (fun σ' H'=>∃ da,σ'=[some v,some (.str x),some v1,some v2,some (.ref fa),some (.ref wl),some (.ref da)]∧Same H4 H'∧H4 da=none∧∃ ys,H' da=some (.lst ys)∧LastRow K H4 [da,y.2.1,y.2.2] H' ys (xs.map (·.1)++[y.1])) ?_ ?_
 rotate_left
 ·intro C hC
  unfold tAsg tLC
  walk_at "rdx_1"
  refine⟨⟨_,SqL.of hL4.h⟩,fun acc hacc=>?_⟩
  have lu:=Paired.length hln4
  have hz1:=hL4.len
  have lx:(xs.map (·.1)++[y.1]).length=(xs++[y]).length:=by simp
  refine lcW_list (xs:=us0++[.ref pl]) (fun i ys H'=>Same H4 H'∧H' acc=some (.lst ys)∧Paired (IsRow K [acc,y.2.1,y.2.2] H') ys ((xs.map (·.1)++[y.1]).take i)∧(i=0∨LastRow K H4 [acc,y.2.1,y.2.2] H' ys ((xs.map (·.1)++[y.1]).take i))) ⟨same_new hacc _,upd_same,.nil,.inl rfl⟩ (fun i ys H' hi ⟨e,h,hy,_⟩=>⟨h,?_,SqL.of (e _ _ hL4.h)⟩) (fun i u ys H' hu ⟨e,h,hy,_⟩ C' hC'=>?_) (fun ys H' ⟨e,h,hy,hlr⟩=>?_)
  ·have:=Paired.length hy
   rw[List.length_take] at this
   exact small1M (by omega)
  ·obtain⟨l,hl,hvl⟩:=paired_get hln4 hu
   obtain⟨p,wb,lb,gv',ov',zs,rfl,m1,m2,m3,m4,m5,m6⟩:=hvl.keep e
   walk_at "rdx_1"
   refine⟨wk_set (i:=0) rfl,_,m1,_,rfl,wb,rfl,zs,.inl (SqL.of m2),fun c hc=>?_⟩
   have s1:=same_new hc (HO.lst zs)
   refine⟨_,s1.sqt m1,_,rfl,lb,rfl,_,.inl (SqL.of (s1 _ _ m6)),fun f hf=>⟨by decide,fun e3 he3=>?_⟩⟩
   have s2:=same_new hf (HO.lst (l.ls.map V.int))
   have s3:=same_new he3 (HO.lst [V.ref c,V.ref f])
   have S:=(s1.trans s2).trans s3
   have hf':H' f=none:=s1.free hf
   have he':H' e3=none:=(s1.trans s2).free he3
   have hw':=e _ _ l2
   have hl':=e _ _ l6
   have out:∀ {a},H' a=none→a ∉ [acc,y.2.1,y.2.2]:=fun {a} q z=>by
    simp only[List.mem_cons,List.not_mem_nil,or_false] at z
    rcases z with rfl | rfl | rfl
    ·rw[h] at q;cases q
    ·rw[hw'] at q;cases q
    ·rw[hl'] at q;cases q
   have na:∀ {a},H' a=none→a≠acc:=fun {a} q z=>by rw[z,h] at q;cases q
   have ha3:=S _ _ h
   have f1:upd (upd (upd (upd H' c (.lst zs)) f (.lst (l.ls.map V.int))) e3 (.lst [V.ref c,V.ref f])) acc (.lst (ys++[.ref e3])) e3=some (.lst [.ref c,.ref f]):=by rw[upd_ne (na he'),upd_same]
   have f2:upd (upd (upd (upd H' c (.lst zs)) f (.lst (l.ls.map V.int))) e3 (.lst [V.ref c,V.ref f])) acc (.lst (ys++[.ref e3])) c=some (.lst zs):=by rw[upd_ne (na hc)];exact (s2.trans s3) _ _ upd_same
   have f3:upd (upd (upd (upd H' c (.lst zs)) f (.lst (l.ls.map V.int))) e3 (.lst [V.ref c,V.ref f])) acc (.lst (ys++[.ref e3])) f=some (.lst (l.ls.map V.int)):=by rw[upd_ne (na hf')];exact s3 _ _ upd_same
   have kA:KeepT K H' (upd (upd (upd (upd H' c (.lst zs)) f (.lst (l.ls.map V.int))) e3 (.lst [V.ref c,V.ref f])) acc (.lst (ys++[.ref e3]))):=S.keepT.trans (keepT_lst ha3)
   have f4:=paired_keepT kA m3
   have c1:e3≠c:=fun z=>by rw[z,s2 _ _ (show upd H' c (.lst zs) c=some (.lst zs) from upd_same)] at he3;cases he3
   have c2:e3≠f:=fun z=>by rw[z,upd_same] at he3;cases he3
   have c3:c≠f:=fun z=>by rw[← z,upd_same] at hf;cases hf
   refine hC' _ _ ha3 ⟨(e.trans S).write hacc,upd_same,?_,.inr ⟨ys,e3,c,f,zs,_,l,rfl,take_snocL hl,f1,f2,f4,f3,out he',out hc,out hf',c1,c2,c3,e.free hc,e.free hf',?_⟩⟩
   ·rw[take_snocL hl]
    exact paired_app (Paired.mapP hy fun _ _ z=>(z.keep S).write List.mem_cons_self ha3) (.cons ⟨e3,c,f,zs,rfl,f1,f2,f4,f3,out he',out hc,out hf'⟩ .nil)
   ·exact Paired.mapP hy fun _ _ z=>((z.more hc hf').keep S).write (by simp) ha3
  ·rw[lu,List.take_length] at hlr
   rcases hlr with z | z
   ·simp at z
   ·exact hC _ _ ⟨acc,rfl,e,hacc,ys,h,z⟩
 rintro σ5 H5 ⟨da,rfl,e5,fda,ys,h5,ys',e,c,f,cs,L0,l0,rfl,eL,r1,r2,r3,r4,r5,r6,r7,r8,r9,r10,r11,r12,r13⟩
 obtain⟨rfl,eL2⟩:=List.append_inj' eL rfl
 cases eL2
 have adY:y.2.1≠y.2.2∧(∀ z∈xs,z.2.1≠y.2.1∧z.2.1≠y.2.2∧z.2.2≠y.2.1∧z.2.2≠y.2.2):=by
  have q1:=(List.nodup_append.mp nny.2).2.1
  have ea:adrs (xs++[y])=adrs xs++[y.2.1,y.2.2]:=by unfold adrs;rw[List.flatMap_append];rfl
  rw[ea,List.nodup_append] at q1
  refine⟨by simpa using q1.2.1,fun z hz=>?_⟩
  have g1:=q1.2.2 z.2.1 (List.mem_flatMap.mpr ⟨z,hz,by simp⟩)
  have g2:=q1.2.2 z.2.2 (List.mem_flatMap.mpr ⟨z,hz,by simp⟩)
  exact⟨g1 _ (by simp),g1 _ (by simp),g2 _ (by simp),g2 _ (by simp)⟩
 have nfa:=hL4.ne (x:=y) (by simp)
 have prs:∀ {a o},H4 a=some o→a≠c∧a≠f:=fun {a o} q=>⟨(fun z=>by rw[z,r11] at q;cases q),(fun z=>by rw[z,r12] at q;cases q)⟩
 have r6':c≠da∧c≠y.2.1∧c≠y.2.2:=by simpa [not_or] using r6
 have r7':f≠da∧f≠y.2.1∧f≠y.2.2:=by simpa [not_or] using r7
 have r5':e≠da∧e≠y.2.1∧e≠y.2.2:=by simpa [not_or] using r5
 have pfa:=prs hL4.h
 have dy1:da≠y.2.1:=fun z=>by rw[z,l2] at fda;cases fda
 have dy2:da≠y.2.2:=fun z=>by rw[z,l6] at fda;cases fda
 have ts5:TS K H5 fa da e y.2.1 y.2.2 c f pl [.str y.1.x,.ref y.2.1,gv,ov,.ref y.2.2] us0 ys' (xs.map (·.1)) cs (y.1.ls.map V.int) wv (y.1.ls.map V.int) :=
  ⟨e5 _ _ hL4.h,e5.sqt l1,h5,r1,r2,r4,e5 _ _ l2,e5 _ _ l6,Paired.mapP r13 fun _ _ z=>z.sub (by simp),by
   refine paired_mapR (f:=fun z:LnA=>z.1) (fun _ _ z=>z) (paired_mapM hP0 fun u z hz q=>?_)
   obtain⟨p',gv',ov',vs',rfl,q1,q2,q3,q4,q5,q6⟩:=q
   have z1:=prs q2
   have z2:=prs q6
   have z3:=adY.2 z hz
   exact IsLnX.keep e5 ⟨p',z.2.1,z.2.2,gv',ov',vs',rfl,q1,q2,q3,q4,q5,q6,by simp[not_or];exact⟨z1.1,z1.2,z3.1,z3.2.1⟩,by simp[not_or];exact⟨z2.1,z2.2,z3.2.2.1,z3.2.2.2⟩⟩,
   ⟨r10,r6'.2.1,r6'.2.2,r7'.2.1,r7'.2.2,adY.1⟩,by simp[not_or];exact⟨pfa.1,pfa.2,Ne.symm nfa.1,Ne.symm nfa.2⟩,by simp[not_or];exact⟨Ne.symm r6'.1,Ne.symm r7'.1,dy1,dy2⟩,by simp[not_or];exact⟨r8,r9,r5'.2.1,r5'.2.2⟩⟩
 have tb5:=(tb.keep e4).keep e5
 have h15:=h14.keep e5.keepT
 refine seq_then (fun σ' H'=>σ'=[some v,some (.str x),some v1,some v2,some (.ref fa),some (.ref wl),some (.ref da)]∧TS K H' fa da e y.2.1 y.2.2 c f pl [.str y.1.x,.ref y.2.1,gv,ov,.ref y.2.2] us0 ys' (xs.map (·.1)) (cs++[v1]) (y.1.ls.map V.int) wv (y.1.ls.map V.int)∧KeepT K H5 H'∧TabOk H' T ds_placed) ?_ ?_
 rotate_left
 ·intro C hC
  walk_at "rdx_1"
  refine⟨_,SqL.of ts5.h3,_,atI_last _ _,e,rfl,_,SqL.of ts5.h4,_,rfl,.inl ⟨rfl,_,SqL.of ts5.h5⟩,c,rfl,cs,ts5.h5,small1M (by have:=Paired.length r3;have:=(hL.ok y (by simp)).wl;omega),?_⟩
  exact hC _ _ ⟨rfl,ts5.wc _,keepT_lst ts5.h5,tb5.sb ((SB.refl c H5).write _) ts5.h5⟩
 rintro σ6 H6 ⟨rfl,ts6,k6,tb6⟩
 refine seq_then (fun σ' H'=>σ'=[some v,some (.str x),some v1,some v2,some (.ref fa),some (.ref wl),some (.ref da)]∧TS K H' fa da e y.2.1 y.2.2 c f pl [.str y.1.x,.ref y.2.1,gv,ov,.ref y.2.2] us0 ys' (xs.map (·.1)) (cs++[v1]) (y.1.ls.map V.int++[.int 0]) wv (y.1.ls.map V.int)∧KeepT K H5 H'∧TabOk H' T ds_placed) ?_ ?_
 rotate_left
 ·intro C hC
  walk_at "rdx_1"
  refine⟨_,SqL.of ts6.h3,_,atI_last _ _,e,rfl,_,SqL.of ts6.h4,_,rfl,.inl ⟨rfl,_,SqL.of ts6.h6⟩,f,rfl,_,ts6.h6,small1M (by rw[List.length_map];have:=(hL.ok y (by simp)).ll;omega),?_⟩
  exact hC _ _ ⟨rfl,ts6.wf _,k6.trans (keepT_lst ts6.h6),tb6.sb ((SB.refl f H6).write _) ts6.h6⟩
 rintro σ7 H7 ⟨rfl,ts7,k7,tb7⟩
 refine seq_then (fun σ' H'=>σ'=[some v,some (.str x),some v1,some v2,some (.ref fa),some (.ref wl),some (.ref da)]∧TS K H' fa da e y.2.1 y.2.2 c f pl [.str y.1.x,.ref y.2.1,gv,ov,.ref y.2.2] us0 ys' (xs.map (·.1)) (cs++[v1]) (y.1.ls.map V.int++[.int 0]) (wv++[v1]) (y.1.ls.map V.int)∧KeepT K H5 H'∧TabOk H' T ds_placed) ?_ ?_
 rotate_left
 ·intro C hC
  walk_at "rdx_1"
  refine⟨_,SqL.of ts7.h1,_,atI_last _ _,pl,rfl,_,ts7.h2,_,rfl,.inl ⟨rfl,_,SqL.of ts7.h7⟩,y.2.1,rfl,wv,ts7.h7,small1M (by have:=Paired.length l3;have:=(hL.ok y (by simp)).wl;omega),?_⟩
  exact hC _ _ ⟨rfl,ts7.ww _,k7.trans (keepT_lst ts7.h7),tb7.sb ((SB.refl y.2.1 H7).write _) ts7.h7⟩
 rintro σ8 H8 ⟨rfl,ts8,k8,tb8⟩
 refine seq_then (fun σ' H'=>σ'=[some v,some (.str x),some v1,some v2,some (.ref fa),some (.ref wl),some (.ref da)]∧TS K H' fa da e y.2.1 y.2.2 c f pl [.str y.1.x,.ref y.2.1,gv,ov,.ref y.2.2] us0 ys' (xs.map (·.1)) (cs++[v1]) (y.1.ls.map V.int++[.int 0]) (wv++[v1]) (y.1.ls.map V.int++[.int 0])∧KeepT K H5 H'∧TabOk H' T ds_placed) ?_ ?_
 rotate_left
 ·intro C hC
  walk_at "rdx_1"
  refine⟨_,SqL.of ts8.h1,_,atI_last _ _,pl,rfl,_,ts8.h2,_,rfl,.inl ⟨rfl,_,SqL.of ts8.h8⟩,y.2.2,rfl,_,ts8.h8,small1M (by rw[List.length_map];have:=(hL.ok y (by simp)).ll;omega),?_⟩
  exact hC _ _ ⟨rfl,ts8.wl _,k8.trans (keepT_lst ts8.h8),tb8.sb ((SB.refl y.2.2 H8).write _) ts8.h8⟩
 rintro σ9 H9 ⟨rfl,ts9,k9,tb9⟩
 have h19:=h15.keep k9
 have hcs9:=paired_keepT k9 r3
 have hwv9:=paired_keepT k9 (paired_keepT e5.keepT l3)
 have lm:(y.1.ls++[0]).map V.int=y.1.ls.map V.int++[.int 0]:=by rw[List.map_append];rfl
 have hln9:IsLns K H9 (us0++[.ref pl]) (xs.map (·.1)++[⟨y.1.x,y.1.R,y.1.ws++[o1],y.1.g,y.1.on,y.1.ls++[0]⟩]) :=
  paired_app (Paired.mapP ts9.l fun _ _ z=>z.ln) (.cons ⟨pl,y.2.1,y.2.2,gv,ov,wv++[v1],rfl,ts9.h2,ts9.h7,paired_app hwv9 (.cons h19 .nil),(l4.keep e5.keepT).keep k9,(l5.keep e5.keepT).keep k9,by show H9 y.2.2=some (.lst ((y.1.ls++[0]).map V.int));rw[lm];exact ts9.h8⟩ .nil)
 have hrw9:Paired (IsRow K [] H9) (ys'++[.ref e]) (xs.map (·.1)++[⟨y.1.x,y.1.R,y.1.ws++[o1],y.1.g,y.1.on,y.1.ls++[0]⟩]) :=
  paired_app (Paired.mapP ts9.r fun _ _ z=>z.sub (by simp)) (.cons ⟨e,c,f,cs++[v1],rfl,ts9.h4,ts9.h5,paired_app hcs9 (.cons h19 .nil),by show H9 f=some (.lst ((y.1.ls++[0]).map V.int));rw[lm];exact ts9.h6,by simp,by simp,by simp⟩ .nil)
 have okT:∀ l∈xs.map (·.1)++[⟨y.1.x,y.1.R,y.1.ws++[o1],y.1.g,y.1.on,y.1.ls++[0]⟩],∀ u∈(l:Ln).ws,u.ok∧u.parts≤110:=fun l hl u hu=>by
  rcases List.mem_append.mp hl with z | z
  ·obtain⟨a,ha,rfl⟩:=List.mem_map.mp z
   exact (hL.ok a (List.mem_append_left _ ha)).w u hu
  ·rw[List.mem_singleton.mp z] at hu
   rcases List.mem_append.mp hu with z | z
   ·exact (hL.ok y (by simp)).w u z
   ·rw[List.mem_singleton.mp z];exact⟨k1.ok,by have:=k1.p;omega⟩
 have l9:=Paired.length hln9
 generalize hLf:(xs.map (·.1)++[⟨y.1.x,y.1.R,y.1.ws++[o1],y.1.g,y.1.on,y.1.ls++[0]⟩]:List Ln)=Lf at hln9 hrw9 okT l9
 refine seq_then (fun σ' H'=>σ'=[some v,some (.str x),some v1,some v2,some (.ref fa),some (.ref wl),some (.ref da)]∧Same H9 H') ?_ ?_
 rotate_left
 ·intro C hC
  walk_at "rdx_3"
  unfold tLC
  walk_at "rdx_1"
  refine⟨⟨_,SqL.of ts9.h1⟩,fun acc hacc=>?_⟩
  have hz1:=hL4.len
  have lf:Lf.length=(xs++[y]).length:=by rw[← hLf];simp
  refine lcW_list (xs:=us0++[.ref pl]) (fun i ys H'=>Same H9 H'∧H' acc=some (.lst ys)∧Paired (IsRow K [acc] H') ys (Lf.take i)) ⟨same_new hacc _,upd_same,.nil⟩ (fun i ys H' hi ⟨e,h,hy⟩=>⟨h,?_,SqL.of (e _ _ ts9.h1)⟩) (fun i u ys H' hu ⟨e,h,hy⟩ C' hC'=>?_) (fun ys H' ⟨e,h,hy⟩=>?_)
  ·have:=Paired.length hy
   rw[List.length_take] at this
   exact small1M (by omega)
  ·obtain⟨l,hl,hvl⟩:=paired_get hln9 hu
   obtain⟨p,wb,lb,gv',ov',zs,rfl,m1,m2,m3,m4,m5,m6⟩:=hvl
   have nb1:wb≠acc:=fun z=>by rw[z,hacc] at m2;cases m2
   have nb2:lb≠acc:=fun z=>by rw[z,hacc] at m6;cases m6
   have m1':=e.sqt m1
   walk_at "rdx_1"
   refine⟨wk_set (i:=0) rfl,_,m1',_,rfl,_,m1',_,rfl,by decide,fun e3 he3=>?_⟩
   have s3:=same_new he3 (HO.lst [V.ref wb,V.ref lb])
   have S:=e.trans s3
   have ha3:=s3 _ _ h
   have ne3:e3≠acc:=fun z=>by rw[z,h] at he3;cases he3
   have kA:KeepT K H9 (upd (upd H' e3 (.lst [V.ref wb,V.ref lb])) acc (.lst (ys++[.ref e3]))):=S.keepT.trans (keepT_lst ha3)
   refine hC' _ _ ha3 ⟨S.write hacc,upd_same,?_⟩
   rw[take_snocL hl]
   exact paired_app (Paired.mapP hy fun _ _ z=>(z.keep s3).write List.mem_cons_self ha3) (.cons ⟨e3,wb,lb,zs,rfl,by rw[upd_ne ne3,upd_same],by rw[upd_ne nb1];exact S _ _ m2,paired_keepT kA m3,by rw[upd_ne nb2];exact S _ _ m6,by simpa using ne3,by simpa using nb1,by simpa using nb2⟩ .nil)
  ·rw[l9,List.take_length] at hy
   refine⟨.list (Lf.map rwD),by rw[Dn];exact⟨acc,ys,rfl,SqL.of h,rows_dn hy⟩,.list (Lf.map rwD),by rw[Dn];exact⟨da,_,rfl,SqL.of (e _ _ ts9.h3),rows_dn (Paired.mapP hrw9 fun _ _ z=>z.keep e)⟩,rows_lay fun l hl t ht=>(okT l hl t ht).1,rows_lay fun l hl t ht=>(okT l hl t ht).1,Nat.le_trans (Nat.min_le_left _ _) (Nat.le_trans (rows_depth fun l hl t ht=>(okT l hl t ht).2) (by decide)),?_⟩
   rw[if_neg (by rw[if_pos trivial,rows_self];exact Bool.false_ne_true)]
   exact hC _ _ ⟨rfl,e⟩
 rintro σ10 H10 ⟨rfl,e10⟩
 walk_at "rdx_1"
 have hfa:=e10 _ _ ts9.h1
 refine⟨.inl ⟨rfl,_,SqL.of hfa⟩,_,hfa,.ref pl,by simp,q _ ?_ ?_⟩
 ·exact ((((kk.trans e4.keepT).trans e5.keepT).trans k9).trans e10.keepT).trans (keepT_lst hfa)
 ·exact (tb9.keep e10).sb ((SB.refl fa H10).write _) hfa
end
noncomputable def Ltrs (z:Str) (n:Nat):Prop:=z.cps.toList.length=n∧∀ c∈z.cps.toList,97≤c∧c≤122
theorem small_ok:∀ c∈("abcdefghijklmnopqrstuvwxyz":Str).cps.toList,97≤c∧c≤122:=by decide +kernel
theorem small_len:("abcdefghijklmnopqrstuvwxyz":Str).cps.toList.length=26:=by decide +kernel
theorem slice_to (x:Str) (a:Nat) (ha:a≤x.length):(Txt.slice x none (some (a:Int))).cps.toList=x.cps.toList.take a:=by
 have:=slice_cps x 0 a (Nat.zero_le _) ha
 have e:Txt.slice x none (some (a:Int))=Txt.slice x (some ((0:Nat):Int)) (some (a:Int)):=by
  unfold Txt.slice Builtin.Str.strSliceIndices
  have h0:max (0:Int) (min 0 (x.length:Int))=0:=by omega
  simp[h0]
 rw[e,this]
 simp
theorem slice_from (x:Str) (a:Nat) (ha:a≤x.length):(Txt.slice x (some (a:Int)) none).cps.toList=x.cps.toList.drop a:=by
 have:=slice_cps x a x.length ha (Nat.le_refl _)
 have e:Txt.slice x (some (a:Int)) none=Txt.slice x (some (a:Int)) (some (x.length:Int)):=by
  unfold Txt.slice Builtin.Str.strSliceIndices
  have h1:max (0:Int) (min (if (x.length:Int) < 0 then (x.length:Int)+x.length else x.length) x.length)=x.length:=by split<;>omega
  simp[h1]
 rw[e,this]
 rw[List.take_of_length_le]
 rw[List.length_drop,← len_cps];omega
theorem word_put {z:Str} {n a d:Nat} (h:Ltrs z n) (hn:n≤8) (ha:a < n) (h1:97≤d) (h2:d≤122):Word (Txt.slice z none (some (a:Int))++(⟨#[d]⟩:Str)++Txt.slice z (some ((a:Int)+1)) none):=by
 have hl:z.length=n:=by rw[len_cps];exact h.1
 have e2:((a:Int)+1)=((a+1:Nat):Int):=by omega
 unfold Word
 rw[cps_append,cps_append,e2,slice_to z a (by omega),slice_from z (a+1) (by omega)]
 have hz:=h.1
 refine⟨?_,?_,fun c hc=>?_⟩
 ·simp only[List.length_append,List.length_take,List.length_drop,List.length_cons,List.length_nil];omega
 ·simp only[List.length_append,List.length_take,List.length_drop,List.length_cons,List.length_nil];omega
 ·simp only[List.mem_append,List.mem_cons,List.not_mem_nil,or_false] at hc
  rcases hc with (hc | rfl) | hc
  ·exact h.2 c (List.mem_of_mem_take hc)
  ·exact⟨h1,h2⟩
  ·exact h.2 c (List.mem_of_mem_drop hc)
theorem ltrs_join {ds:List Nat} (h:∀ d∈ds,97≤d∧d≤122):Ltrs (Txt.join "" (ds.map fun d=>(⟨#[d]⟩:Str))) ds.length:=by
 have e:(Txt.join "" (ds.map fun d=>(⟨#[d]⟩:Str))).cps.toList=ds:=by
  rw[show ("":Str)=Str.empty from rfl,join_cps,List.map_map]
  clear h
  induction ds with
  | nil=>rfl
  | cons d ds ih=>rw[List.map_cons,List.flatten_cons,ih];rfl
 unfold Ltrs
 rw[e]
 exact⟨rfl,h⟩
theorem sum_ones (ds:List Nat):((ds.map fun d=>(⟨#[d]⟩:Str)).map (·.length)).sum=ds.length:=by
 rw[List.map_map]
 induction ds with
 | nil=>rfl
 | cons d ds ih=>rw[List.map_cons,List.sum_cons,ih,List.length_cons];show 1+_=_;omega
noncomputable def sp_words21:Sp:=fun vs H Q _=>∃ c:Int,vs=[.int c]∧0≤c∧∀ (r:Addr) (H':Hp) (ws:List Str),Same H H'→H r=none→H' r=some (.lst (ws.map V.str))→Words ws→Q (.ref r) H'
section
variable {P:Program} {w:World} {K:PySem.W.Frag} {mg:Str→Option Value} {base:Heap}
theorem ok_ar0 {k:Nat} {f_ar0:Addr} {fd_ar0:FuncData} (F_ar0:Fun K "_law_words" "_law_words" s_ar0 f_ar0 fd_ar0) {f_aj0:Addr} {fd_aj0:FuncData} (G_aj0:FnOk P w K mg base CX0 k f_aj0 fd_aj0 ["_law_cell_here","_law_k"] (sp_mix)) (m_aj0:mg "_law_mix"=some (.ref f_aj0)) (k_aj0:PySem.W.keepIn K (.ref f_aj0)=true) (b_aj0:Binds K fd_aj0 ["_law_cell_here","_law_k"] []) (m_range:mg "range"=none):FnOk P w K mg base CX0 (k+1) f_ar0 fd_ar0 ["_law_cell_here"] sp_words21:=by
 refine F_ar0.ok sc_ar0 (fun vs H Q E h=>?_) (fun cdv A outer s H vs Q E hr h=>?_)
 ·obtain⟨c,rfl,_⟩:=h
  rfl
 obtain⟨c,rfl,hc0,q⟩:=h
 refine⟨_,(pss_cons (ps_set (i:=1) sc_ar0.nd rfl (Or.inr rfl) pe_str)
 (pss_cons (ps_set (i:=2) sc_ar0.nd rfl (Or.inl rfl) (pe_op op_addM pe_int (pe_op op_modM (pvM 0) pe_int)))
 (pss_cons (ps_set (i:=3) sc_ar0.nd rfl (Or.inl rfl) (pe_op op_modM (pe_op op_fdivM (pvM 0) pe_int) (pvM 2)))
 (pss_cons (ps_set (i:=4) sc_ar0.nd rfl (Or.inl rfl) (pe_op op_mulS pe_str (pvM 2)))
 (pss_cons (ps_if (pt_cmpRM (op_eq) (pe_op op_modM (pe_op op_fdivM (pvM 0) pe_int) pe_int) pe_int (nomark _))
  (pss_cons (ps_setLC (i:=5) sc_ar0.nd rfl (Or.inl rfl) (blkC (N':=["_law_k","_law_small","_law_cell_here"]) (nt:=1) (ci:=[1,0]) ["_law_cell_here","_law_small","_law_size","_law_at","_law_stem","_law_signs","_law_first","_law_found","_law_k","_law_sign"] (defScope s_ar0) rfl rfl (by decide +kernel) rfl (by decide +kernel) (by decide +kernel) rfl (by decide +kernel)) rfl (pi_range1 rfl m_range (pa_cons (pvM 2) pa_nil)) (fun _ _ _ _=>(pg_name (i:=0) (show (["_law_k","_law_small","_law_cell_here"]:List Str).Nodup from by decide +kernel) rfl (Or.inl rfl))) (fun _ _ _ _=>(pe_ix ix_str (pvM 1) (pe_op op_modM (pe_call G_aj0 hr (by exact rfl) m_aj0 k_aj0 b_aj0 .nil pass0 (pa_cons (pvM 2) (pa_cons (pe_op op_addM pe_int (pvM 0)) pa_nil))) pe_int) (fun _ _=>rfl))) rfl)
 (pss_one (ps_set (i:=4) sc_ar0.nd rfl (Or.inl rfl) (pe_bm PySem.F.plainAttrs_str PySem.F.slot_str_join PySem.F.type_str_join mt_join pe_str (pa_cons (pvM 5) pa_nil)))))
  pss_nil)
 (pss_cons (ps_set (i:=6) sc_ar0.nd rfl (Or.inl rfl) (pe_op op_modM (pe_op op_fdivM (pvM 0) pe_int) pe_int))
 (pss_cons (ps_set (i:=7) sc_ar0.nd rfl (Or.inl rfl) (pe_lst pa_nil))
 (pss_cons (ps_for PassesOwn.never rfl (pi_range1 rfl m_range (pa_cons (pe_op op_addM pe_int (pe_op op_modM (pe_op op_fdivM (pvM 0) pe_int) pe_int)) pa_nil)) (pg_name (i:=8) sc_ar0.nd rfl (Or.inl rfl))
  (pss_cons (ps_set (i:=9) sc_ar0.nd rfl (Or.inl rfl) (pe_ix ix_str (pvM 1) (pe_op op_modM (pe_op op_addM (pvM 6) (pe_op op_mulM pe_int (pvM 8))) pe_int) (fun _ _=>rfl)))
 (pss_one (ps_expr (pe_bm PySem.F.plainAttrs_list PySem.F.slot_list_append PySem.F.type_list_append mt_append (pvM 7) (pa_cons (pe_op op_add_str (pe_op op_add_str (pe_slice sl_str (pvM 4) po_none (po_some (pvM 3))) (pvM 9)) (pe_slice sl_str (pvM 4) (po_some (pe_op op_addM (pvM 3) pe_int)) po_none)) pa_nil))))))
 (pss_one (ps_ret (pvM 7))))))))))),?_⟩
 have s0:=Int.emod_nonneg c (show (8:Int)≠0 by decide)
 have s1:=Int.emod_lt_of_pos c (show (0:Int) < 8 by decide)
 have a0:=Int.emod_nonneg (c / 8) (show 1+c % 8≠0 by omega)
 have a1:=Int.emod_lt_of_pos (c / 8) (show 0 < 1+c % 8 by omega)
 refine seq_then (fun σ' H'=>σ'=[some (.int c),some (.str "abcdefghijklmnopqrstuvwxyz"),none,none,none,none,none,none,none,none]∧H'=H) ?_ ?_
 rotate_left
 ·intro C hC
  walk_at "rdx_1"
  exact hC _ _ ⟨rfl,rfl⟩
 rintro σ1 H1 ⟨rfl,rfl⟩
 refine seq_then (fun σ' H'=>σ'=[some (.int c),some (.str "abcdefghijklmnopqrstuvwxyz"),some (.int (1+c % 8)),none,none,none,none,none,none,none]∧H'=H1) ?_ ?_
 rotate_left
 ·intro C hC
  walk_at "rdx_1"
  exact⟨by decide,hC _ _ ⟨rfl,rfl⟩⟩
 rintro σ2 H2 ⟨rfl,rfl⟩
 refine seq_then (fun σ' H'=>σ'=[some (.int c),some (.str "abcdefghijklmnopqrstuvwxyz"),some (.int (1+c % 8)),some (.int (c / 8 % (1+c % 8))),none,none,none,none,none,none]∧H'=H2) ?_ ?_
 rotate_left
 ·intro C hC
  walk_at "rdx_1"
  exact⟨⟨by decide,by decide⟩,by omega,hC _ _ ⟨rfl,rfl⟩⟩
 generalize ea:c / 8 % (1+c % 8)=at' at a0 a1
 generalize es:1+c % 8=size at a1
 obtain⟨an,rfl⟩:=Int.eq_ofNat_of_zero_le a0
 have z1:1≤size:=by omega
 have z8:size≤8:=by omega
 rintro σ3 H3 ⟨rfl,rfl⟩
 refine seq_then (fun σ' H'=>σ'=[some (.int c),some (.str "abcdefghijklmnopqrstuvwxyz"),some (.int size),some (.int (an:Int)),some (.str (Txt.mul "k" size)),none,none,none,none,none]∧H'=H3) ?_ ?_
 rotate_left
 ·intro C hC
  walk_at "rdx_1"
  exact⟨by decide,by omega,by omega,hC _ _ ⟨rfl,rfl⟩⟩
 rintro σ4 H4 ⟨rfl,rfl⟩
 have hk:Ltrs (Txt.mul "k" size) size.toNat:=by
  unfold Ltrs
  rw[show ("k":Str)=⟨#[107]⟩ from rfl,PyProof.Rows.mul_one_list]
  exact⟨List.length_replicate,fun d hd=>by rw[List.mem_replicate] at hd;omega⟩
 refine seq_then (fun σ' H'=>∃ z x5,σ'=[some (.int c),some (.str "abcdefghijklmnopqrstuvwxyz"),some (.int size),some (.int (an:Int)),some (.str z),x5,none,none,none,none]∧Same H4 H'∧Ltrs z size.toNat) ?_ ?_
 rotate_left
 ·intro C hC
  walk_at "rdx_1"
  refine⟨⟨by decide,by decide⟩,by decide,ite2 (fun _=>?_) (fun _=>hC _ _ ⟨_,_,rfl,Same.refl _,hk⟩)⟩
  unfold tLC
  walk_at "rdx_1"
  refine⟨by omega,by omega,fun acc hacc=>?_⟩
  refine lcW_range (n:=size.toNat) (lo:=0) (fun i ys H5=>H5=upd H4 acc (.lst ys)∧∃ ds:List Nat,ys=(ds.map fun d=>(⟨#[d]⟩:Str)).map V.str∧ds.length=i∧∀ x∈ds,97≤x∧x≤122) ⟨rfl,[],rfl,rfl,by simp⟩ (fun i ys H5 hi ⟨e,ds,e2,e3,_⟩=>?_) (fun i ys H5 hi ⟨e,ds,e2,e3,e4⟩ C' hC'=>?_) (fun ys H5 ⟨e,ds,e2,e3,e4⟩=>?_)
  ·subst e;subst e2
   refine⟨upd_same,?_⟩
   rw[List.length_map,List.length_map,e3];exact small1000 (by omega)
  ·subst e;subst e2
   walk_at "rdx_1"
   have m0:=Int.emod_nonneg (mix c (60+(0+(i:Int)))) (show (26:Int)≠0 by decide)
   have m1:=Int.emod_lt_of_pos (mix c (60+(0+(i:Int)))) (show (0:Int) < 26 by decide)
   obtain⟨d,hd,ed⟩:=at_list (xs:=("abcdefghijklmnopqrstuvwxyz":Str).cps.toList) (i:=mix c (60+(0+(i:Int))) % 26) m0 (by rw[small_len];exact m1)
   refine⟨wk_head,c,_,rfl,by omega,by omega,_,rfl,by decide,by decide,d,ed,?_⟩
   refine hC' _ _ upd_same ⟨by rw[upd_upd],ds++[d],by rw[List.map_append,List.map_append];rfl,by rw[List.length_append,e3];rfl,fun x hx=>?_⟩
   rcases List.mem_append.mp hx with z | z
   ·exact e4 x z
   ·have z':x=d:=by simpa using z
    rw[z'];exact small_ok d hd
  ·subst e;subst e2
   walk_at "rdx_1"
   have hsum:=sum_ones ds
   refine⟨rfl,_,SqL.of upd_same,?_,hC _ _ ⟨_,_,rfl,same_new hacc _,?_⟩⟩
   ·rw[hsum,List.length_map,show Str.length ""=0 from rfl,e3];omega
   ·have:=ltrs_join e4
    rw[e3] at this
    exact this
 rintro σ5 H5 ⟨z,x5,rfl,e5,hz⟩
 refine seq_then (fun σ' H'=>∃ f:Int,0≤f∧σ'=[some (.int c),some (.str "abcdefghijklmnopqrstuvwxyz"),some (.int size),some (.int (an:Int)),some (.str z),x5,some (.int f),none,none,none]∧H'=H5) ?_ ?_
 rotate_left
 ·intro C hC
  walk_at "rdx_1"
  exact⟨⟨by decide,by decide⟩,by decide,hC _ _ ⟨_,Int.emod_nonneg _ (by decide),rfl,rfl⟩⟩
 rintro σ6 H6 ⟨f,hf,rfl,rfl⟩
 refine seq_then (fun σ' H'=>∃ l,σ'=[some (.int c),some (.str "abcdefghijklmnopqrstuvwxyz"),some (.int size),some (.int (an:Int)),some (.str z),x5,some (.int f),some (.ref l),none,none]∧Same H4 H'∧H4 l=none∧H' l=some (.lst [])) ?_ ?_
 rotate_left
 ·intro C hC
  walk_at "rdx_1"
  exact⟨by decide,fun l hl=>hC _ _ ⟨l,rfl,e5.trans (same_new hl _),e5.free hl,upd_same⟩⟩
 rintro σ7 H7 ⟨l,rfl,e7,f7,h7⟩
 refine seq_then (fun σ' H'=>∃ x8 x9 ws,σ'=[some (.int c),some (.str "abcdefghijklmnopqrstuvwxyz"),some (.int size),some (.int (an:Int)),some (.str z),x5,some (.int f),some (.ref l),x8,x9]∧Same H4 H'∧H' l=some (.lst (ws.map V.str))∧Words ws) ?_ ?_
 rotate_left
 ·intro C hC
  walk_at "rdx_2"
  have b0:=Int.emod_nonneg (c / 4096) (show (3:Int)≠0 by decide)
  have b1:=Int.emod_lt_of_pos (c / 4096) (show (0:Int) < 3 by decide)
  refine⟨⟨by decide,by decide⟩,by decide,by omega,by omega,?_⟩
  refine for_range (D:={ nx:=C,rt:=Q }) (n:=(2+c / 4096 % 3).toNat) (lo:=0) (fun i σ' H'=>∃ x8 x9 ws,σ'=[some (.int c),some (.str "abcdefghijklmnopqrstuvwxyz"),some (.int size),some (.int (an:Int)),some (.str z),x5,some (.int f),some (.ref l),x8,x9]∧Same H4 H'∧H' l=some (.lst (ws.map V.str))∧ws.length=i∧∀ w∈ws,Word w) ⟨none,none,[],rfl,e7,h7,rfl,by simp⟩ (fun i σ' H' hi hp=>?_) (fun σ' H' hp=>?_)
  ·obtain⟨x8,x9,ws,rfl,e,h,hl,hw⟩:=hp
   walk_at "rdx_1"
   have m0:=Int.emod_nonneg (f+7*(0+(i:Int))) (show (26:Int)≠0 by decide)
   have m1:=Int.emod_lt_of_pos (f+7*(0+(i:Int))) (show (0:Int) < 26 by decide)
   obtain⟨d,hd,ed⟩:=at_list (xs:=("abcdefghijklmnopqrstuvwxyz":Str).cps.toList) (i:=(f+7*(0+(i:Int))) % 26) m0 (by rw[small_len];exact m1)
   have zl:z.length≤8:=by rw[len_cps,hz.1];omega
   have sl:=fun lo hi=>Nat.le_trans (Txt.slice_le z lo hi) zl
   have l1:=sl none (some (an:Int))
   have l2:=sl (some ((an:Int)+1)) none
   have l3:(⟨#[d]⟩:Str).length=1:=rfl
   have l4:(Txt.slice z none (some (an:Int))++(⟨#[d]⟩:Str)).length≤9:=by rw[strLen_append];omega
   refine⟨mul_left (by decide) (by decide),by decide,by decide,d,ed,.inl ⟨rfl,_,SqL.of h⟩,Nat.le_of_lt (small1000 (by omega)),Nat.le_of_lt (small1000 (by omega)),Nat.le_of_lt (small1000 (by omega)),Nat.le_of_lt (small1000 (by omega)),_,h,small1000 (by rw[List.length_map];omega),e.write f7,ws++[Txt.slice z none (some (an:Int))++(⟨#[d]⟩:Str)++Txt.slice z (some ((an:Int)+1)) none],by rw[upd_same,List.map_append];rfl,by rw[List.length_append,hl];rfl,fun x hx=>?_⟩
   rcases List.mem_append.mp hx with y | y
   ·exact hw x y
   ·have y':=List.mem_singleton.mp y
    rw[y']
    have ds:=small_ok d hd
    exact word_put hz (by omega) (by omega) ds.1 ds.2
  ·obtain⟨x8,x9,ws,rfl,e,h,hl,hw⟩:=hp
   exact hC _ _ ⟨x8,x9,ws,rfl,e,h,by omega,by omega,hw⟩
 rintro σ8 H8 ⟨x8,x9,ws,rfl,e8,h8,hw⟩
 walk_at "rdx_1"
 exact q _ _ _ e8 f7 h8 hw
end
noncomputable abbrev s_ao0:Stmt:=top 25
theorem sc_ao0:FnScope ["_law_cell_here","_law_many","_law_words_here","_law_form","_law_first","_law_one"] ["_law_cell_here","_law_many","_law_words_here"] (defScope s_ao0):=⟨rfl,rfl,rfl,by decide +kernel,rfl,by decide +kernel,by decide +kernel⟩
noncomputable def sp_stm21 (K:PySem.W.Frag) (n:Nat):Sp:=fun vs H Q _=>∃ (c many:Int) (wa:Addr) (ws:List Str),vs=[.int c,.int many,.ref wa]∧0≤c∧1≤many∧many≤61∧(many.toNat+1) / 2≤n∧SqL K H wa (ws.map V.str)∧Words ws ∧
 ∀ (r:V) (H':Hp) (t:Tm),Same H H'→Made K H' ws many.toNat ((many.toNat+1) / 2) r t→Q r H'
theorem at_form5 {c:Int} (h0:0≤c) (h1:c < 5):(∃ kd:Kd,atI [V.str "both",V.str "one",V.str "then",V.str "then",V.str "not"] c=some (.str kd.str))∨atI [V.str "both",V.str "one",V.str "then",V.str "then",V.str "not"] c=some (.str "not"):=by
 have:c=0∨c=1∨c=2∨c=3∨c=4:=by omega
 rcases this with rfl | rfl | rfl | rfl | rfl
 ·exact .inl ⟨.both,rfl⟩
 ·exact .inl ⟨.one,rfl⟩
 ·exact .inl ⟨.thn,rfl⟩
 ·exact .inl ⟨.thn,rfl⟩
 ·exact .inr rfl
section
variable {P:Program} {w:World} {K:PySem.W.Frag} {mg:Str→Option Value} {base:Heap}
theorem ok_ao0 {k n:Nat} {f_ao0:Addr} {fd_ao0:FuncData} (F_ao0:Fun K "_law_statement" "_law_statement" s_ao0 f_ao0 fd_ao0) (G_ao0:FnOk P w K mg base CX0 k f_ao0 fd_ao0 ["_law_cell_here","_law_many","_law_words_here"] (sp_stm21 K n)) (m_ao0:mg "_law_statement"=some (.ref f_ao0)) (k_ao0:PySem.W.keepIn K (.ref f_ao0)=true) (b_ao0:Binds K fd_ao0 ["_law_cell_here","_law_many","_law_words_here"] []) {f_aj0:Addr} {fd_aj0:FuncData} (G_aj0:FnOk P w K mg base CX0 k f_aj0 fd_aj0 ["_law_cell_here","_law_k"] (sp_mix)) (m_aj0:mg "_law_mix"=some (.ref f_aj0)) (k_aj0:PySem.W.keepIn K (.ref f_aj0)=true) (b_aj0:Binds K fd_aj0 ["_law_cell_here","_law_k"] []) (m_len:mg "len"=none):FnOk P w K mg base CX0 (k+1) f_ao0 fd_ao0 ["_law_cell_here","_law_many","_law_words_here"] (sp_stm21 K (n+1)):=by
 refine F_ao0.ok sc_ao0 (fun vs H Q E h=>?_) (fun cdv A outer s H vs Q E hr h=>?_)
 ·obtain⟨c,many,wa,ws,rfl,_⟩:=h
  rfl
 obtain⟨c,many,wa,ws,rfl,hc0,h0,h1,hn,hS,hw,q⟩:=h
 refine⟨_,(pss_cons (ps_if (pt_cmpRM (op_ltM) (pvM 1) pe_int (nomark _))
  (pss_cons (ps_if (pt_cmpRM (op_eq) (pe_op op_modM (pvM 0) pe_int) pe_int (nomark _))
  (pss_one (ps_ret (pe_tup (pa_cons pe_str pa_nil))))
  pss_nil)
 (pss_one (ps_ret (pe_tup (pa_cons pe_str (pa_cons (pe_ix ix_list (pvM 2) (pe_op op_modM (pe_op op_fdivM (pvM 0) pe_int) (pe_callB call_len_seq (by exact rfl) m_len Ken.boot_len (pa_cons (pvM 2) pa_nil))) (fun _ _=>rfl)) pa_nil))))))
  pss_nil)
 (pss_cons (ps_set (i:=3) sc_ao0.nd rfl (Or.inl rfl) (pe_ix ix_list (pe_lst (pa_cons pe_str (pa_cons pe_str (pa_cons pe_str (pa_cons pe_str (pa_cons pe_str pa_nil)))))) (pe_op op_modM (pvM 0) pe_int) (fun _ _=>rfl)))
 (pss_cons (ps_if (pt_cmpRM (op_eq) (pvM 3) pe_str (nomark _))
  (pss_one (ps_ret (pe_tup (pa_cons pe_str (pa_cons (pe_call G_ao0 hr (by exact rfl) m_ao0 k_ao0 b_ao0 .nil pass0 (pa_cons (pe_call G_aj0 hr (by exact rfl) m_aj0 k_aj0 b_aj0 .nil pass0 (pa_cons (pvM 0) (pa_cons pe_int pa_nil))) (pa_cons (pe_op op_subM (pvM 1) pe_int) (pa_cons (pvM 2) pa_nil)))) (pa_cons (pe_tup (pa_cons pe_str pa_nil)) pa_nil))))))
  pss_nil)
 (pss_cons (ps_set (i:=4) sc_ao0.nd rfl (Or.inl rfl) (pe_op op_addM pe_int (pe_op op_mulM (pe_op op_modM (pe_op op_fdivM (pvM 0) pe_int) (pe_op op_fdivM (pe_op op_subM (pvM 1) pe_int) pe_int)) pe_int)))
 (pss_cons (ps_set (i:=5) sc_ao0.nd rfl (Or.inl rfl) (pe_call G_ao0 hr (by exact rfl) m_ao0 k_ao0 b_ao0 .nil pass0 (pa_cons (pe_call G_aj0 hr (by exact rfl) m_aj0 k_aj0 b_aj0 .nil pass0 (pa_cons (pvM 0) (pa_cons pe_int pa_nil))) (pa_cons (pvM 4) (pa_cons (pvM 2) pa_nil)))))
 (pss_one (ps_ret (pe_tup (pa_cons (pvM 3) (pa_cons (pvM 5) (pa_cons (pe_call G_ao0 hr (by exact rfl) m_ao0 k_ao0 b_ao0 .nil pass0 (pa_cons (pe_call G_aj0 hr (by exact rfl) m_aj0 k_aj0 b_aj0 .nil pass0 (pa_cons (pvM 0) (pa_cons pe_int pa_nil))) (pa_cons (pe_op op_subM (pe_op op_subM (pvM 1) pe_int) (pvM 4)) (pa_cons (pvM 2) pa_nil)))) pa_nil))))))))))),?_⟩
 have h2:=hw.1
 have hl:((ws.map V.str).length:Int)=ws.length:=by rw[List.length_map]
 walk_at "rdx_1"
 refine ite2 (fun hm=>?_) (fun hm=>?_)
 ·refine⟨by decide,ite2 (fun _=>?_) (fun _=>?_)⟩
  ·exact⟨by decide,fun p hp=>q _ _ _ (same_new hp _) ((made_low ws hp).mono (fun _ _ z=>z) (by omega) (by omega))⟩
  ·refine⟨⟨by decide,by decide⟩,_,.inl hS,by rw[hl];omega,_,hS,?_⟩
   rw[hl]
   obtain⟨v,hv,e⟩:=at_list (xs:=ws.map V.str) (i:=c / 6 % (ws.length:Int)) (Int.emod_nonneg _ (by omega)) (by rw[hl];exact Int.emod_lt_of_pos _ (by omega))
   obtain⟨x,hx,rfl⟩:=List.mem_map.mp hv
   exact⟨_,e,by decide,fun p hp=>q _ _ _ (same_new hp _) ((made_ltr hx hp).mono (fun _ _ z=>z) (by omega) (by omega))⟩
 ·refine⟨by decide,fun p hp=>⟨by decide,_,SqL.of upd_same,?_⟩⟩
  have c0:=Int.emod_nonneg c (show (5:Int)≠0 by decide)
  have c1:=Int.emod_lt_of_pos c (show (0:Int) < 5 by decide)
  have S1:Same H (upd H p (.lst [V.str "both",V.str "one",V.str "then",V.str "then",V.str "not"])):=same_new hp _
  generalize upd H p (.lst [V.str "both",V.str "one",V.str "then",V.str "then",V.str "not"])=H1 at S1 ⊢
  rcases at_form5 c0 c1 with ⟨kd,ek⟩ | ek
  ·refine⟨_,ek,rfl,?_⟩
   rw[if_neg (by cases kd<;>decide)]
   have d0:=Int.emod_nonneg (c / 5) (show (many - 1) / 2≠0 by omega)
   have d1:=Int.emod_lt_of_pos (c / 5) (show 0 < (many - 1) / 2 by omega)
   refine⟨⟨by decide,by decide⟩,⟨by decide,by decide⟩,by omega,mul_right (by decide) (by decide),_,_,rfl,by decide,by decide,?_⟩
   generalize c / 5 % ((many - 1) / 2)=j at d0 d1 ⊢
   refine⟨_,_,wa,ws,rfl,mix_nn _ _,by omega,by omega,by omega,S1.seq hS,hw,fun x H2 a e2 m2=>?_⟩
   refine⟨_,_,rfl,by decide,by decide,?_⟩
   refine⟨_,_,wa,ws,rfl,mix_nn _ _,by omega,by omega,by omega,(S1.trans e2).seq hS,hw,fun y H3 b e3 m3=>?_⟩
   refine⟨by decide,fun p3 hp3=>q _ _ _ (((S1.trans e2).trans e3).trans (same_new hp3 _)) ((made_nd (k:=kd) (m2.mono e3.keepT (Nat.le_refl _) (Nat.le_refl _)) m3 hp3).mono (fun _ _ z=>z) (by omega) (by omega))⟩
  ·refine⟨_,ek,rfl,?_⟩
   rw[if_pos rfl]
   refine⟨_,_,rfl,by decide,by decide,?_⟩
   refine⟨_,_,wa,ws,rfl,mix_nn _ _,by omega,by omega,by omega,S1.seq hS,hw,fun x H2 a e2 m2=>?_⟩
   refine⟨by decide,fun p2 hp2=>⟨by decide,fun p3 hp3=>?_⟩⟩
   exact q _ _ _ (((S1.trans e2).trans (same_new hp2 _)).trans (same_new hp3 _)) ((made_nd (k:=.thn) (m2.mono (keepT_new hp2) (Nat.le_refl _) (Nat.le_refl _)) (made_low ws hp2) hp3).mono (fun _ _ z=>z) (by omega) (by omega))
end
section
variable {P:Program} {w:World} {K:PySem.W.Frag} {mg:Str→Option Value} {base:Heap}
theorem stm21_zero {f:Addr} {fd:FuncData} {ps:List Str} {k:Nat}:FnOk P w K mg base CX0 k f fd ps (sp_stm21 K 0):=by
 have no:∀ vs H Q E,¬ sp_stm21 K 0 vs H Q E:=fun vs H Q E h=>by
  obtain⟨c,many,wa,ws,_,_,h1,_,hn,_⟩:=h
  omega
 exact⟨fun vs H Q E h=>absurd h (no vs H Q E),fun A outer s H args us vs Q E _ _ _ _ h=>absurd h (no vs H Q E)⟩
theorem all_ao0 {f_ao0:Addr} {fd_ao0:FuncData} (F_ao0:Fun K "_law_statement" "_law_statement" s_ao0 f_ao0 fd_ao0) (m_ao0:mg "_law_statement"=some (.ref f_ao0)) (b_ao0:Binds K fd_ao0 ["_law_cell_here","_law_many","_law_words_here"] [])
  {f_aj0:Addr}{fd_aj0:FuncData}(G_aj0:∀ k,FnOk P w K mg base CX0 (k+1) f_aj0 fd_aj0 ["_law_cell_here","_law_k"] sp_mix)(m_aj0:mg "_law_mix"=some (.ref f_aj0))(k_aj0:PySem.W.keepIn K (.ref f_aj0)=true)(b_aj0:Binds K fd_aj0 ["_law_cell_here","_law_k"] [])(m_len:mg "len"=none) :
  ∀ n:Nat,FnOk P w K mg base CX0 (n+1) f_ao0 fd_ao0 ["_law_cell_here","_law_many","_law_words_here"] (sp_stm21 K n)
 | 0=>stm21_zero
 | n+1=>ok_ao0 F_ao0 (all_ao0 F_ao0 m_ao0 b_ao0 G_aj0 m_aj0 k_aj0 b_aj0 m_len n) m_ao0 F_ao0.kp b_ao0 (G_aj0 n) m_aj0 k_aj0 b_aj0 m_len
end
noncomputable abbrev s_az0:Stmt:=top 39
theorem sc_az0:FnScope ["_law_script","_law_words_here","_law_statement_here","_law_k","_law_step","_law_leaf","_law_word","_law_one","_law_other","_law_way"] ["_law_script"] (defScope s_az0):=⟨rfl,rfl,rfl,by decide +kernel,rfl,by decide +kernel,by decide +kernel⟩
noncomputable def sp_law62 (T:Addr) (K:PySem.W.Frag):Sp:=fun vs H Q _=>∃ (a:Addr) (ns:List Int),vs=[.ref a]∧SqL K H a (ns.map V.int)∧ns.length≤63∧TabOk H T ds_placed∧∀ H',Q (.bl true) H'
section
variable {P:Program} {w:World} {K:PySem.W.Frag} {mg:Str→Option Value} {base:Heap}
theorem ok_az0 {k:Nat} {T:Addr} {f_az0:Addr} {fd_az0:FuncData} (F_az0:Fun K "law" "law" s_az0 f_az0 fd_az0) {f_ar0:Addr} {fd_ar0:FuncData} (G_ar0:FnOk P w K mg base CX0 k f_ar0 fd_ar0 ["_law_cell_here"] (sp_words21)) (m_ar0:mg "_law_words"=some (.ref f_ar0)) (k_ar0:PySem.W.keepIn K (.ref f_ar0)=true) (b_ar0:Binds K fd_ar0 ["_law_cell_here"] []) {f_ao0:Addr} {fd_ao0:FuncData} (G_ao0:FnOk P w K mg base CX0 k f_ao0 fd_ao0 ["_law_cell_here","_law_many","_law_words_here"] (sp_stm21 K 32)) (m_ao0:mg "_law_statement"=some (.ref f_ao0)) (k_ao0:PySem.W.keepIn K (.ref f_ao0)=true) (b_ao0:Binds K fd_ao0 ["_law_cell_here","_law_many","_law_words_here"] []) {f_aa0:Addr} {fd_aa0:FuncData} (G_aa0:FnOk P w K mg base CX0 k f_aa0 fd_aa0 ["_law_script","_law_k"] (sp_cell K)) (m_aa0:mg "_law_cell"=some (.ref f_aa0)) (k_aa0:PySem.W.keepIn K (.ref f_aa0)=true) (b_aa0:Binds K fd_aa0 ["_law_script","_law_k"] []) {f_aj0:Addr} {fd_aj0:FuncData} (G_aj0:FnOk P w K mg base CX0 k f_aj0 fd_aj0 ["_law_cell_here","_law_k"] (sp_mix)) (m_aj0:mg "_law_mix"=some (.ref f_aj0)) (k_aj0:PySem.W.keepIn K (.ref f_aj0)=true) (b_aj0:Binds K fd_aj0 ["_law_cell_here","_law_k"] []) {f_am0:Addr} {fd_am0:FuncData} (G_am0:FnOk P w K mg base CX0 k f_am0 fd_am0 ["_law_statement_here"] (sp_partsL K 27)) (m_am0:mg "_law_parts"=some (.ref f_am0)) (k_am0:PySem.W.keepIn K (.ref f_am0)=true) (b_am0:Binds K fd_am0 ["_law_statement_here"] []) {f_ap0:Addr} {fd_ap0:FuncData} (G_ap0:FnOk P w K mg base CX0 k f_ap0 fd_ap0 ["_law_statement_here","_law_word","_law_one","_law_other"] (sp_told62 K T ds_placed)) (m_ap0:mg "_law_told"=some (.ref f_ap0)) (k_ap0:PySem.W.keepIn K (.ref f_ap0)=true) (b_ap0:Binds K fd_ap0 ["_law_statement_here","_law_word","_law_one","_law_other"] []) (m_range:mg "range"=none) (m_min:mg "min"=none) (m_len:mg "len"=none):FnOk P w K mg base CX0 (k+1) f_az0 fd_az0 ["_law_script"] (sp_law62 T K):=by
 refine F_az0.ok sc_az0 (fun vs H Q E h=>?_) (fun cdv A outer s H vs Q E hr h=>?_)
 ·obtain⟨a,ns,rfl,_⟩:=h
  rfl
 obtain⟨a,ns,rfl,hS,hl,tb0,q⟩:=h
 refine⟨_,(pss_cons (ps_set (i:=1) sc_az0.nd rfl (Or.inl rfl) (pe_call G_ar0 hr (by exact rfl) m_ar0 k_ar0 b_ar0 .nil pass0 (pa_cons (pe_call G_aa0 hr (by exact rfl) m_aa0 k_aa0 b_aa0 .nil pass0 (pa_cons (pvM 0) (pa_cons pe_int pa_nil))) pa_nil)))
 (pss_cons (ps_set (i:=2) sc_az0.nd rfl (Or.inl rfl) (pe_call G_ao0 hr (by exact rfl) m_ao0 k_ao0 b_ao0 .nil pass0 (pa_cons (pe_call G_aa0 hr (by exact rfl) m_aa0 k_aa0 b_aa0 .nil pass0 (pa_cons (pvM 0) (pa_cons pe_int pa_nil))) (pa_cons (pe_op op_addM pe_int (pe_op op_mulM pe_int (pe_op op_modM (pe_call G_aa0 hr (by exact rfl) m_aa0 k_aa0 b_aa0 .nil pass0 (pa_cons (pvM 0) (pa_cons pe_int pa_nil))) pe_int))) (pa_cons (pvM 1) pa_nil)))))
 (pss_cons (ps_for PassesOwn.never rfl (pi_range2 rfl m_range (pa_cons pe_int (pa_cons (pe_callB (call_min2 rfl) (by exact rfl) m_min Ken.boot_min (pa_cons pe_int (pa_cons (pe_callB call_len_seq (by exact rfl) m_len Ken.boot_len (pa_cons (pvM 0) pa_nil)) pa_nil))) pa_nil))) (pg_name (i:=3) sc_az0.nd rfl (Or.inl rfl))
  (pss_cons (ps_set (i:=4) sc_az0.nd rfl (Or.inl rfl) (pe_call G_aj0 hr (by exact rfl) m_aj0 k_aj0 b_aj0 .nil pass0 (pa_cons (pe_call G_aa0 hr (by exact rfl) m_aa0 k_aa0 b_aa0 .nil pass0 (pa_cons (pvM 0) (pa_cons (pvM 3) pa_nil))) (pa_cons (pvM 3) pa_nil))))
 (pss_one (ps_if (pt_cmpRM (op_ltM) (pe_call G_am0 hr (by exact rfl) m_am0 k_am0 b_am0 .nil pass0 (pa_cons (pvM 2) pa_nil)) pe_int (nomark _))
  (pss_cons (ps_set (i:=5) sc_az0.nd rfl (Or.inl rfl) (pe_call G_ao0 hr (by exact rfl) m_ao0 k_ao0 b_ao0 .nil pass0 (pa_cons (pe_call G_aj0 hr (by exact rfl) m_aj0 k_aj0 b_aj0 .nil pass0 (pa_cons (pvM 4) (pa_cons pe_int pa_nil))) (pa_cons pe_int (pa_cons (pvM 1) pa_nil)))))
 (pss_one (ps_set (i:=2) sc_az0.nd rfl (Or.inl rfl) (pe_ix ix_list (pe_lst (pa_cons (pe_tup (pa_cons pe_str (pa_cons (pvM 2) (pa_cons (pvM 5) pa_nil)))) (pa_cons (pe_tup (pa_cons pe_str (pa_cons (pvM 5) (pa_cons (pvM 2) pa_nil)))) (pa_cons (pe_tup (pa_cons pe_str (pa_cons (pvM 2) (pa_cons (pvM 5) pa_nil)))) pa_nil)))) (pe_op op_modM (pvM 4) pe_int) (fun _ _=>rfl)))))
  pss_nil))))
 (pss_cons (ps_set (i:=6) sc_az0.nd rfl (Or.inl rfl) (pe_ix ix_list (pe_op op_cat (pvM 1) (pe_lst (pa_cons pe_str pa_nil))) (pe_op op_modM (pe_op op_fdivM (pe_call G_aa0 hr (by exact rfl) m_aa0 k_aa0 b_aa0 .nil pass0 (pa_cons (pvM 0) (pa_cons pe_int pa_nil))) pe_int) (pe_op op_addM (pe_callB call_len_seq (by exact rfl) m_len Ken.boot_len (pa_cons (pvM 1) pa_nil)) pe_int)) (fun _ _=>rfl)))
 (pss_cons (ps_set (i:=7) sc_az0.nd rfl (Or.inl rfl) (pe_call G_ao0 hr (by exact rfl) m_ao0 k_ao0 b_ao0 .nil pass0 (pa_cons (pe_call G_aa0 hr (by exact rfl) m_aa0 k_aa0 b_aa0 .nil pass0 (pa_cons (pvM 0) (pa_cons pe_int pa_nil))) (pa_cons (pe_op op_addM pe_int (pe_op op_mulM pe_int (pe_op op_modM (pe_op op_fdivM (pe_call G_aa0 hr (by exact rfl) m_aa0 k_aa0 b_aa0 .nil pass0 (pa_cons (pvM 0) (pa_cons pe_int pa_nil))) pe_int) pe_int))) (pa_cons (pvM 1) pa_nil)))))
 (pss_cons (ps_set (i:=8) sc_az0.nd rfl (Or.inl rfl) (pe_call G_ao0 hr (by exact rfl) m_ao0 k_ao0 b_ao0 .nil pass0 (pa_cons (pe_call G_aa0 hr (by exact rfl) m_aa0 k_aa0 b_aa0 .nil pass0 (pa_cons (pvM 0) (pa_cons pe_int pa_nil))) (pa_cons (pe_op op_addM pe_int (pe_op op_mulM pe_int (pe_op op_modM (pe_op op_fdivM (pe_call G_aa0 hr (by exact rfl) m_aa0 k_aa0 b_aa0 .nil pass0 (pa_cons (pvM 0) (pa_cons pe_int pa_nil))) pe_int) pe_int))) (pa_cons (pvM 1) pa_nil)))))
 (pss_cons (ps_set (i:=9) sc_az0.nd rfl (Or.inl rfl) (pe_op op_modM (pe_op op_fdivM (pe_call G_aa0 hr (by exact rfl) m_aa0 k_aa0 b_aa0 .nil pass0 (pa_cons (pvM 0) (pa_cons pe_int pa_nil))) pe_int) pe_int))
 (pss_cons (ps_if (pt_cmpRM (op_eq) (pvM 9) pe_int (nomark _))
  (pss_one (ps_set (i:=8) sc_az0.nd rfl (Or.inl rfl) (pvM 7)))
  pss_nil)
 (pss_cons (ps_if (pt_cmpRM (op_eq) (pvM 9) pe_int (nomark _))
  (pss_one (ps_set (i:=8) sc_az0.nd rfl (Or.inl rfl) (pe_tup (pa_cons pe_str (pa_cons (pvM 7) (pa_cons (pe_tup (pa_cons pe_str (pa_cons (pvM 6) pa_nil))) pa_nil))))))
  pss_nil)
 (pss_cons (ps_if ((pw_or (pt_not (pt_val (pe_call G_ap0 hr (by exact rfl) m_ap0 k_ap0 b_ap0 .nil pass0 (pa_cons (pvM 2) (pa_cons (pvM 6) (pa_cons (pvM 7) (pa_cons (pvM 8) pa_nil))))))) (pw_or1 (pt_not (pt_val (pe_call G_ap0 hr (by exact rfl) m_ap0 k_ap0 b_ap0 .nil pass0 (pa_cons (pvM 2) (pa_cons (pvM 6) (pa_cons (pvM 8) (pa_cons (pvM 7) pa_nil)))))))))).pt
  (pss_one (ps_ret pe_bl))
  pss_nil)
 (pss_one (ps_ret (pe_call G_ap0 hr (by exact rfl) m_ap0 k_ap0 b_ap0 .nil pass0 (pa_cons (pvM 2) (pa_cons (pvM 6) (pa_cons (pvM 7) (pa_cons (pvM 8) pa_nil))))))))))))))))),?_⟩
 refine seq_then (fun σ' H'=>∃ wa ws,σ'=[some (.ref a),some (.ref wa),none,none,none,none,none,none,none,none]∧Same H H'∧H' wa=some (.lst (ws.map V.str))∧Words ws) ?_ ?_
 rotate_left
 ·intro C hC
  walk_at "rdx_1"
  exact⟨a,ns,_,rfl,hS,hl,by decide,by decide,_,rfl,cell_nn _ _,fun r H' ws e fr h hw=>hC _ _ ⟨r,ws,rfl,e,h,hw⟩⟩
 rintro σ1 H1 ⟨wa,ws,rfl,e1,h1,hw⟩
 have b0:=Int.emod_nonneg (cellOf ns 2) (show (13:Int)≠0 by decide)
 have b1:=Int.emod_lt_of_pos (cellOf ns 2) (show (0:Int) < 13 by decide)
 refine seq_then (fun σ' H'=>∃ g t,σ'=[some (.ref a),some (.ref wa),some g,none,none,none,none,none,none,none]∧Same H1 H'∧IsT K H' g t∧t.ok∧t.parts≤25) ?_ ?_
 rotate_left
 ·intro C hC
  walk_at "rdx_1"
  refine⟨a,ns,_,rfl,e1.seq hS,hl,by decide,by decide,a,ns,_,rfl,e1.seq hS,hl,by decide,by decide,_,rfl,by decide,mul_left (by decide) (by decide),_,_,wa,ws,rfl,cell_nn _ _,by omega,by omega,by omega,SqL.of h1,hw,fun r H' t e m=>hC _ _ ⟨r,t,rfl,e,m.1,m.2.1.ok hw.2.2,?_⟩⟩
  have:=m.2.2.1
  omega
 rintro σ2 H2 ⟨g0,t0,rfl,e2,hg0,gok0,gp0⟩
 have E2:=e1.trans e2
 refine seq_then (fun σ' H'=>∃ g t x3 x4 x5,σ'=[some (.ref a),some (.ref wa),some g,x3,x4,x5,none,none,none,none]∧Same H1 H'∧IsT K H' g t∧t.ok∧t.parts≤25) ?_ ?_
 rotate_left
 ·intro C hC
  walk_at "rdx_2"
  refine⟨_,.inl (E2.seq hS),by decide,by decide,?_⟩
  rw[List.length_map]
  have hm:∃ m:Int,(if (ns.length:Int) < 12 then (ns.length:Int) else 12)=m∧0≤m∧m≤12:=⟨_,rfl,by split<;>omega,by split<;>omega⟩
  obtain⟨m,em,m0,m1⟩:=hm
  rw[em]
  refine⟨by omega,by omega,?_⟩
  refine for_range (D:={ nx:=C,rt:=Q }) (n:=(m - 5).toNat) (lo:=5) (fun i σ' H'=>∃ g t x3 x4 x5,σ'=[some (.ref a),some (.ref wa),some g,x3,x4,x5,none,none,none,none]∧Same H1 H'∧IsT K H' g t∧t.ok∧t.parts≤25) ⟨g0,t0,none,none,none,rfl,e2,hg0,gok0,gp0⟩ (fun i σ' H' hi hp=>?_) (fun σ' H' hp=>hC _ _ hp)
  obtain⟨g,t,x3,x4,x5,rfl,e,hg,gok,gp⟩:=hp
  show tSeq _ _ _ _ _
  refine seq_then (fun σ' H2=>∃ c:Int,0≤c∧σ'=[some (.ref a),some (.ref wa),some g,some (.int (5+(i:Int))),some (.int c),x5,none,none,none,none]∧H2=H') ?_ ?_
  rotate_left
  ·intro C hC
   walk_at "rdx_1"
   exact⟨a,ns,_,rfl,(e1.trans e).seq hS,hl,by omega,by omega,_,_,rfl,by omega,by omega,hC _ _ ⟨_,mix_nn _ _,rfl,rfl⟩⟩
  rintro σ5 H5 ⟨c,hc,rfl,rfl⟩
  have c0:=Int.emod_nonneg c (show (3:Int)≠0 by decide)
  have c1:=Int.emod_lt_of_pos c (show (0:Int) < 3 by decide)
  walk_at "rdx_1"
  refine⟨g,t,rfl,hg,by have:=deep_parts t;omega,fun H6 e6=>⟨_,rfl,ite2 (fun hp=>?_) (fun hp=>⟨e.trans e6,t,hg.keep e6.keepT,gok,gp⟩)⟩⟩
  refine⟨_,_,rfl,by decide,by decide,_,_,wa,ws,rfl,mix_nn _ _,by decide,by decide,by decide,SqL.of ((e.trans e6) _ _ h1),hw,fun u H7 b e7 m7=>⟨by decide,fun q1 hq1=>⟨by decide,fun q2 hq2=>⟨by decide,fun q3 hq3=>⟨by decide,fun q4 hq4=>⟨by decide,_,SqL.of upd_same,?_⟩⟩⟩⟩⟩⟩
  have s1:=same_new hq1 (HO.tup [V.str (Str.ofString "both"),g,u])
  have s2:=same_new hq2 (HO.tup [V.str (Str.ofString "then"),u,g])
  have s3:=same_new hq3 (HO.tup [V.str (Str.ofString "then"),g,u])
  have s4:=same_new hq4 (HO.lst [V.ref q1,V.ref q2,V.ref q3])
  have S:=((s1.trans s2).trans s3).trans s4
  have hu:=m7.1.keep S.keepT
  have hg7:=hg.keep ((e6.trans e7).trans S).keepT
  have bok:b.ok:=m7.2.1.ok hw.2.2
  have bp:b.parts≤1:=m7.2.2.1
  have tp:t.parts < 22:=by omega
  have cc:c % 3=0∨c % 3=1∨c % 3=2:=by omega
  rcases cc with z | z | z<;>rw[z]
  ·exact⟨_,rfl,((e.trans e6).trans e7).trans S,.nd .both t b,isT_nd.mpr ⟨q1,g,u,rfl,((s2.trans s3).trans s4).sqt (.inl (.inl upd_same)),hg7,hu⟩,⟨gok,bok⟩,by show 1+t.parts+b.parts≤25;omega⟩
  ·exact⟨_,rfl,((e.trans e6).trans e7).trans S,.nd .thn b t,isT_nd.mpr ⟨q2,u,g,rfl,(s3.trans s4).sqt (.inl (.inl upd_same)),hu,hg7⟩,⟨bok,gok⟩,by show 1+b.parts+t.parts≤25;omega⟩
  ·exact⟨_,rfl,((e.trans e6).trans e7).trans S,.nd .thn t b,isT_nd.mpr ⟨q3,g,u,rfl,s4.sqt (.inl (.inl upd_same)),hg7,hu⟩,⟨gok,bok⟩,by show 1+t.parts+b.parts≤25;omega⟩
 rintro σ3 H3 ⟨g,t,x3,x4,x5,rfl,e3,hg,gok,gp⟩
 have E3:=e1.trans e3
 refine seq_then (fun σ' H'=>∃ x:Str,σ'=[some (.ref a),some (.ref wa),some g,x3,x4,x5,some (.str x),none,none,none]∧Same H3 H'∧Word x) ?_ ?_
 rotate_left
 ·intro C hC
  walk_at "rdx_1"
  have w6:=hw.2.1
  have w2:=hw.1
  refine⟨by decide,fun p hp=>⟨_,(same_new hp _) _ _ (e3 _ _ h1),_,upd_same,?_,fun p1 hp1=>?_⟩⟩
  ·rw[List.length_map];exact Nat.le_of_lt (small1M (by show ws.length+1≤1000000;omega))
  have S5:=(same_new hp (HO.lst [V.str "q"])).trans (same_new hp1 (HO.lst (ws.map V.str++[V.str "q"])))
  have el:ws.map V.str++[V.str "q"]=(ws++[("q":Str)]).map V.str:=by rw[List.map_append];rfl
  have h5:=upd_same (H:=upd H3 p (HO.lst [V.str "q"])) (a:=p1) (o:=HO.lst (ws.map V.str++[V.str "q"]))
  generalize upd (upd H3 p (HO.lst [V.str "q"])) p1 (HO.lst (ws.map V.str++[V.str "q"]))=H5 at S5 h5
  rw[el] at h5
  obtain⟨v,hv,ev⟩:=at_list (xs:=(ws++[("q":Str)]).map V.str) (i:=cellOf ns 0 / 7 % (((ws.map V.str).length:Int)+1)) (Int.emod_nonneg _ (by omega)) (by
   have:=Int.emod_lt_of_pos (cellOf ns 0 / 7) (show (0:Int) < ((ws.map V.str).length:Int)+1 by omega)
   have l1:(ws.map V.str).length=ws.length:=List.length_map _
   have l2:((ws++[("q":Str)]).map V.str).length=ws.length+1:=by rw[List.length_map,List.length_append];rfl
   rw[l2]
   omega)
  obtain⟨x,hxm,rfl⟩:=List.mem_map.mp hv
  have hxw:Word x:=by
   rcases List.mem_append.mp hxm with z | z
   ·exact hw.2.2 x z
   ·rw[List.mem_singleton.mp z];exact word_of (by decide +kernel)
  exact⟨a,ns,0,rfl,(E3.trans S5).seq hS,hl,by decide,by decide,_,rfl,⟨by decide,by decide⟩,_,.inl (SqL.of ((e3.trans S5) _ _ h1)),by omega,_,SqL.of h5,_,ev,hC _ _ ⟨x,rfl,S5,hxw⟩⟩
 rintro σ4 H4 ⟨x,rfl,e4,hx⟩
 have E4:=E3.trans e4
 have hg4:=hg.keep e4.keepT
 refine seq_then (fun σ' H'=>∃ v1 o1,σ'=[some (.ref a),some (.ref wa),some g,x3,x4,x5,some (.str x),some v1,none,none]∧Same H4 H'∧IsT K H' v1 o1∧o1.ok∧o1.parts≤5) ?_ ?_
 rotate_left
 ·intro C hC
  walk_at "rdx_1"
  have d0:=Int.emod_nonneg (cellOf ns 2 / 13) (show (3:Int)≠0 by decide)
  have d1:=Int.emod_lt_of_pos (cellOf ns 2 / 13) (show (0:Int) < 3 by decide)
  refine⟨a,ns,_,rfl,E4.seq hS,hl,by decide,by decide,a,ns,_,rfl,E4.seq hS,hl,by decide,by decide,_,rfl,⟨by decide,by decide⟩,by decide,mul_left (by decide) (by decide),_,_,wa,ws,rfl,cell_nn _ _,by omega,by omega,by omega,SqL.of ((e3.trans e4) _ _ h1),hw,fun r H' o e m=>hC _ _ ⟨r,o,rfl,e,m.1,m.2.1.ok hw.2.2,?_⟩⟩
  have:=m.2.2.1
  omega
 rintro σ5 H5 ⟨v1,o1,rfl,e5,h51,ok1,p1⟩
 refine seq_then (fun σ' H'=>∃ v2 o2,σ'=[some (.ref a),some (.ref wa),some g,x3,x4,x5,some (.str x),some v1,some v2,none]∧Same H5 H'∧IsT K H' v2 o2∧o2.ok∧o2.parts≤5) ?_ ?_
 rotate_left
 ·intro C hC
  walk_at "rdx_1"
  have d0:=Int.emod_nonneg (cellOf ns 2 / 39) (show (3:Int)≠0 by decide)
  have d1:=Int.emod_lt_of_pos (cellOf ns 2 / 39) (show (0:Int) < 3 by decide)
  refine⟨a,ns,_,rfl,(E4.trans e5).seq hS,hl,by decide,by decide,a,ns,_,rfl,(E4.trans e5).seq hS,hl,by decide,by decide,_,rfl,⟨by decide,by decide⟩,by decide,mul_left (by decide) (by decide),_,_,wa,ws,rfl,cell_nn _ _,by omega,by omega,by omega,SqL.of (((e3.trans e4).trans e5) _ _ h1),hw,fun r H' o e m=>hC _ _ ⟨r,o,rfl,e,m.1,m.2.1.ok hw.2.2,?_⟩⟩
  have:=m.2.2.1
  omega
 rintro σ6 H6 ⟨v2,o2,rfl,e6,h62,ok2,p2⟩
 have E6:=(E4.trans e5).trans e6
 refine seq_then (fun σ' H'=>∃ x9:Int,σ'=[some (.ref a),some (.ref wa),some g,x3,x4,x5,some (.str x),some v1,some v2,some (.int x9)]∧H'=H6) ?_ ?_
 rotate_left
 ·intro C hC
  walk_at "rdx_1"
  exact⟨a,ns,_,rfl,E6.seq hS,hl,by decide,by decide,_,rfl,⟨by decide,by decide⟩,by decide,hC _ _ ⟨_,rfl,rfl⟩⟩
 rintro σ7 H7 ⟨x9,rfl,rfl⟩
 have h61:=h51.keep e6.keepT
 have hg6:=hg4.keep (e5.trans e6).keepT
 refine seq_then (fun σ' H'=>∃ v2 o2,σ'=[some (.ref a),some (.ref wa),some g,x3,x4,x5,some (.str x),some v1,some v2,some (.int x9)]∧H'=H7∧IsT K H' v2 o2∧o2.ok∧o2.parts≤5) ?_ ?_
 rotate_left
 ·intro C hC
  walk_at "rdx_1"
  exact ite2 (fun _=>hC _ _ ⟨v1,o1,rfl,rfl,h61,ok1,p1⟩) (fun _=>hC _ _ ⟨v2,o2,rfl,rfl,h62,ok2,p2⟩)
 rintro σ8 H8 ⟨v3,o3,rfl,rfl,h83,ok3,p3⟩
 refine seq_then (fun σ' H'=>∃ v2 o2,σ'=[some (.ref a),some (.ref wa),some g,x3,x4,x5,some (.str x),some v1,some v2,some (.int x9)]∧Same H8 H'∧IsT K H' v2 o2∧O7 o2) ?_ ?_
 rotate_left
 ·intro C hC
  walk_at "rdx_1"
  refine ite2 (fun _=>⟨by decide,fun p hp=>⟨by decide,fun p1 hp1=>?_⟩⟩) (fun _=>hC _ _ ⟨v3,o3,rfl,Same.refl _,h83,ok3,by omega⟩)
  have s1:=same_new hp (HO.tup [V.str (Str.ofString "letter"),.str x])
  have s2:=same_new hp1 (HO.tup [V.str (Str.ofString "then"),v1,.ref p])
  exact hC _ _ ⟨_,.nd .thn o1 (.ltr x),rfl,s1.trans s2,isT_nd.mpr ⟨p1,v1,.ref p,rfl,.inl (.inl upd_same),h61.keep (s1.trans s2).keepT,isT_ltr.mpr ⟨p,rfl,s2.sqt (.inl (.inl upd_same))⟩⟩,⟨ok1,hx⟩,by show 1+o1.parts+1≤7;omega⟩
 rintro σ9 H9 ⟨v4,o4,rfl,e9,h94,k4⟩
 have k1:O7 o1:=⟨ok1,by omega⟩
 have hg9:=hg6.keep e9.keepT
 have h91:=h61.keep e9.keepT
 have tb9:=tb0.keep (E6.trans e9)
 walk_at "rdx_1"
 refine⟨g,t,x,v1,v4,o1,o4,rfl,hg9,gok,gp,hx,h91,h94,k1,k4,tb9,fun H10 e10 tb10=>?_⟩
 refine⟨true,rfl,?_⟩
 rw[if_neg (by decide)]
 refine⟨g,t,x,v4,v1,o4,o1,rfl,hg9.keep e10,gok,gp,hx,h94.keep e10,h91.keep e10,k4,k1,tb10,fun H11 e11 tb11=>⟨true,rfl,?_⟩⟩
 rw[if_neg (by decide)]
 have e12:=e10.trans e11
 exact⟨g,t,x,v1,v4,o1,o4,rfl,hg9.keep e12,gok,gp,hx,h91.keep e12,h94.keep e12,k1,k4,tb11,fun H12 _ _=>q _⟩
end
noncomputable abbrev s_ay0:Stmt:=top 4
theorem sc_ay0:FnScope ["statement","of_simple","of_pair","told","piece","first","second"] ["statement","of_simple","of_pair"] (defScope s_ay0):=⟨rfl,rfl,rfl,by decide +kernel,rfl,by decide +kernel,by decide +kernel⟩
theorem paired_snoc_inv {α β:Type} {F:α→β→Prop}:∀ {l:List α} {m:List β} {y:β},Paired F l (m++[y])→∃ l' x,l=l'++[x]∧Paired F l' m∧F x y
 | _,[],_,h=>by
  cases h with
  | cons hx t=>cases t;exact⟨[],_,rfl,.nil,hx⟩
 | _,z :: m,_,h=>by
  cases h with
  | cons hx t =>
   obtain⟨l',x,rfl,h1,h2⟩:=paired_snoc_inv t
   exact⟨_ :: l',x,rfl,.cons hx h1,h2⟩
section
variable {P:Program} {w:World} {K:PySem.W.Frag} {mg:Str→Option Value} {base:Heap}
theorem ok_foldedH {k:Nat} {J:Hp→Prop} (hJ:∀ H H',KeepT K H H'→J H→J H') {R:RH} (hR:∀ H H' t v,KeepT K H H'→R H t v→R H' t v) {B:Nat} {ps_of_simple ps_of_pair:List Str} {f_ay0:Addr} {fd_ay0:FuncData} (F_ay0:Fun K "folded" "folded" s_ay0 f_ay0 fd_ay0) {f_bc0:Addr} {fd_bc0:FuncData} (G_bc0:FnOk P w K mg base CX0 k f_bc0 fd_bc0 ["statement"] (sp_pieces K)) (m_bc0:mg "pieces"=some (.ref f_bc0)) (k_bc0:PySem.W.keepIn K (.ref f_bc0)=true) (b_bc0:Binds K fd_bc0 ["statement"] []) {aPAIRED:Addr} (m_PAIRED:mg "PAIRED"=some (.ref aPAIRED)) (t_PAIRED:∀ H,SqT K H aPAIRED [.str "both",.str "one",.str "then"]) (m_reversed:mg "reversed"=none)
  {f_of_simple:Addr}{fd_of_simple:FuncData}(G_of_simple:FnOk P w K mg base CX0 k f_of_simple fd_of_simple ps_of_simple (sp_of1H K J R))(k_of_simple:PySem.W.keepIn K (.ref f_of_simple)=true)(b_of_simple:Binds K fd_of_simple ps_of_simple [])
  {f_of_pair:Addr}{fd_of_pair:FuncData}(G_of_pair:FnOk P w K mg base CX0 k f_of_pair fd_of_pair ps_of_pair (sp_of2H J R B))(k_of_pair:PySem.W.keepIn K (.ref f_of_pair)=true)(b_of_pair:Binds K fd_of_pair ps_of_pair []):FnOk P w K mg base CX0 (k+1) f_ay0 fd_ay0 ["statement","of_simple","of_pair"] (sp_foldedH K J R B f_of_simple f_of_pair):=by
 refine F_ay0.ok sc_ay0 (fun vs H Q E h=>?_) (fun cdv A outer s H vs Q E hr h=>?_)
 ·obtain⟨v,t,rfl,_⟩:=h
  rfl
 obtain⟨v,t,rfl,j0,hT,htk,hp,hB,q⟩:=h
 have hpm:∀ {H4 H5:Hp} {us:List V} {fs:List Tm},KeepT K H4 H5→Paired (fun u s=>R H4 s u) us fs→Paired (fun u s=>R H5 s u) us fs:=fun k z=>Paired.mapP z fun _ _ y=>hR _ _ _ _ k y
 refine⟨_,(pss_cons (ps_set (i:=3) sc_ay0.nd rfl (Or.inl rfl) (pe_lst pa_nil))
 (pss_cons (ps_for PassesOwn.never rfl (pi_rev rfl m_reversed (pa_cons (pe_call G_bc0 hr (by exact rfl) m_bc0 k_bc0 b_bc0 .nil pass0 (pa_cons (pvM 0) pa_nil)) pa_nil)) (pg_name (i:=4) sc_ay0.nd rfl (Or.inl rfl))
  (pss_one (ps_if (pt_cmpRM (op_in_seq) (pe_ix ix_tup (pvM 4) pe_int (fun _ _=>rfl)) (pe_glob (v:=.ref aPAIRED) (by exact rfl) m_PAIRED (by exact rfl)) (by with_unfolding_all rfl))
  (pss_cons (ps_set (i:=5) sc_ay0.nd rfl (Or.inl rfl) (pe_bm0 PySem.F.plainAttrs_list PySem.F.slot_list_pop PySem.F.type_list_pop mt_pop (pvM 3)))
 (pss_cons (ps_set (i:=6) sc_ay0.nd rfl (Or.inl rfl) (pe_bm0 PySem.F.plainAttrs_list PySem.F.slot_list_pop PySem.F.type_list_pop mt_pop (pvM 3)))
 (pss_one (ps_expr (pe_bm PySem.F.plainAttrs_list PySem.F.slot_list_append PySem.F.type_list_append mt_append (pvM 3) (pa_cons (pe_callL (i:=2) G_of_pair hr rfl (Or.inl rfl) k_of_pair b_of_pair .nil pass0 (pa_cons (pe_ix ix_tup (pvM 4) pe_int (fun _ _=>rfl)) (pa_cons (pvM 5) (pa_cons (pvM 6) pa_nil)))) pa_nil))))))
  (pss_one (ps_expr (pe_bm PySem.F.plainAttrs_list PySem.F.slot_list_append PySem.F.type_list_append mt_append (pvM 3) (pa_cons (pe_callL (i:=1) G_of_simple hr rfl (Or.inl rfl) k_of_simple b_of_simple .nil pass0 (pa_cons (pvM 4) pa_nil)) pa_nil)))))))
 (pss_one (ps_ret (pe_ix ix_list (pvM 3) pe_int (fun _ _=>rfl)))))),?_⟩
 refine seq_then (fun σ' H'=>∃ l,σ'=[some v,some (.ref f_of_simple),some (.ref f_of_pair),some (.ref l),none,none,none]∧Same H H'∧H l=none∧H' l=some (.lst [])) ?_ ?_
 rotate_left
 ·intro C hC
  walk_at "rdx_1"
  exact⟨by decide,fun l hl=>hC _ _ ⟨l,rfl,same_new hl _,hl,upd_same⟩⟩
 rintro σ1 H1 ⟨l,rfl,e1,f1,h1⟩
 refine seq_then (fun σ' H'=>∃ x4 x5 x6 u,σ'=[some v,some (.ref f_of_simple),some (.ref f_of_pair),some (.ref l),x4,x5,x6]∧Same H H'∧H' l=some (.lst [u])∧R H' t u) ?_ ?_
 rotate_left
 ·intro C hC
  walk_at "rdx_2"
  refine⟨v,t,rfl,hT.keep e1.keepT,by omega,fun r H2 us e2 f2 h2 hu=>⟨r,rfl,us,SqL.of h2,?_⟩⟩
  have lu:=Paired.length hu
  have l2:=e2 l _ h1
  have nrl:r≠l:=fun z=>by rw[z] at f2;rw[f2] at h1;cases h1
  refine for_rev (D:={ nx:=C,rt:=Q }) (xs:=us) (fun i σ' H'=>∃ x4 x5 x6 ts fs,σ'=[some v,some (.ref f_of_simple),some (.ref f_of_pair),some (.ref l),x4,x5,x6]∧Same H H'∧KeepT K H2 H'∧H' r=some (.lst us)∧H' l=some (.lst ts)∧Paired (fun u s=>R H' s u) ts fs.reverse∧fs.flatMap Tm.pre=t.pre.drop (us.length - i)∧ts.length≤i)
   ⟨none,none,none,[],[],rfl,e1.trans e2,fun _ _ z=>z,h2,l2,.nil,?_,Nat.le_refl _⟩ (fun i σ' H' _ ⟨x4,x5,x6,ts,fs,_,_,_,h,_⟩=>SqL.of h) (fun i x σ' H' hi hx hI=>?_) (fun σ' H' hI=>?_)
  ·rw[Nat.sub_zero,lu,List.drop_length];rfl
  ·obtain⟨x4,x5,x6,ts,fs,rfl,e,kk,hr',hl',hp',hf,hn⟩:=hI
   obtain⟨s',hs',hxT⟩:=paired_get hu hx
   have hj:us.length - 1 - i < t.pre.length:=by rw[← lu];omega
   obtain⟨s2,rest,g1,g2,g3⟩:=pre_drop t _ hj
   rw[hs'] at g1
   cases g1
   have hxT':=hxT.keep kk
   have jH':J H':=hJ _ _ (KeepT.trans (e1.trans e2).keepT kk) j0
   have ej:us.length - i=us.length - 1 - i+1:=by omega
   have dr:t.pre.drop (us.length - i)=s'.kids.flatMap Tm.pre++rest:=by
    have:=congrArg List.tail g2
    rw[List.tail_drop,← ej,s'.pre_eq,List.cons_append,List.tail_cons] at this
    exact this
   rw[dr] at hf
   have eu:us.length - (i+1)=us.length - 1 - i:=by omega
   have lp:t.pre.length≤400:=by rw[Tm.pre_len];omega
   have fin:∀ (ts':List V) (fs':List Tm) (H4:Hp) (u:V),Same H H4→KeepT K H2 H4→H4 r=some (.lst us)→H4 l=some (.lst ts')→Paired (fun u s=>R H4 s u) ts' fs'.reverse→ts'.length≤i→fs'.flatMap Tm.pre=rest→R H4 s' u →
     Same H (upd H4 l (HO.lst (ts'++[u])))∧KeepT K H2 (upd H4 l (HO.lst (ts'++[u])))∧upd H4 l (HO.lst (ts'++[u])) r=some (HO.lst us) ∧
      ∃ x,upd H4 l (HO.lst (ts'++[u])) l=some (HO.lst x)∧∃ x_1,Paired (fun u' s=>R (upd H4 l (HO.lst (ts'++[u]))) s u') x x_1.reverse∧List.flatMap Tm.pre x_1=List.drop (us.length - (i+1)) t.pre∧x.length≤i+1:=fun ts' fs' H4 u a1 a2 a3 a4 a5 a6 a7 a8=>by
    refine⟨a1.write f1,a2.trans (keepT_lst a4),by rw[upd_ne nrl];exact a3,_,upd_same,s' :: fs',?_,?_,?_⟩
    ·rw[List.reverse_cons];exact paired_app (hpm (keepT_lst a4) a5) (.cons (hR _ _ _ _ (keepT_lst a4) a8) .nil)
    ·rw[List.flatMap_cons,a7,eu,g2]
    ·rw[List.length_append,List.length_singleton];omega
   walk_at "rdx_1"
   cases s' with
   | low =>
    obtain⟨a,rfl,hs⟩:=isT_low.mp hxT'
    refine⟨a,rfl,_,hs,_,rfl,_,.inr (t_PAIRED H'),rfl,rfl,?_⟩
    rw[if_neg (by decide)]
    refine⟨.inl ⟨rfl,_,SqL.of hl'⟩,_,.low,rfl,jH',hxT',rfl,trivial,fun u H3 e3 ru=>?_⟩
    exact⟨_,e3 _ _ hl',small1M (by omega),fin ts fs H3 u (e.trans e3) (kk.trans e3.keepT) (e3 _ _ hr') (e3 _ _ hl') (hpm e3.keepT hp') hn hf ru⟩
   | ltr w =>
    obtain⟨a,rfl,hs⟩:=isT_ltr.mp hxT'
    refine⟨a,rfl,_,hs,_,rfl,_,.inr (t_PAIRED H'),rfl,rfl,?_⟩
    rw[if_neg (by decide)]
    refine⟨.inl ⟨rfl,_,SqL.of hl'⟩,_,.ltr w,rfl,jH',hxT',rfl,pre_mem_ok htk (List.mem_of_getElem? hs'),fun u H3 e3 ru=>?_⟩
    exact⟨_,e3 _ _ hl',small1M (by omega),fin ts fs H3 u (e.trans e3) (kk.trans e3.keepT) (e3 _ _ hr') (e3 _ _ hl') (hpm e3.keepT hp') hn hf ru⟩
   | nd kd a b =>
    obtain⟨p,vx,vy,rfl,hs,hx1,hy1⟩:=isT_nd.mp hxT'
    refine⟨p,rfl,_,hs,_,rfl,_,.inr (t_PAIRED H'),rfl,rfl,?_⟩
    rw[if_pos (by cases kd<;>decide)]
    rw[show Tm.kids (.nd kd a b)=[a,b] from rfl,List.flatMap_cons,List.flatMap_cons,List.flatMap_nil,List.append_nil,List.append_assoc] at hf
    obtain⟨fs1,rfl,hf1⟩:=forest_head hf
    obtain⟨fs2,rfl,hf2⟩:=forest_head hf1
    rw[List.reverse_cons,List.reverse_cons] at hp'
    obtain⟨ts1,u1,rfl,hp1,r1⟩:=paired_snoc_inv hp'
    obtain⟨ts2,u2,rfl,hp2,r2⟩:=paired_snoc_inv hp1
    rw[List.length_append,List.length_append,List.length_singleton,List.length_singleton] at hn
    refine⟨.inl ⟨rfl,_,SqL.of hl'⟩,_,hl',u1,by simp,?_⟩
    rw[List.dropLast_concat]
    refine⟨.inl ⟨rfl,_,SqL.of upd_same⟩,_,upd_same,u2,by simp,?_⟩
    rw[List.dropLast_concat,upd_upd]
    have k1:KeepT K H' (upd H' l (.lst ts2)):=keepT_lst hl'
    have hr1:upd H' l (.lst ts2) r=some (.lst us):=by rw[upd_ne nrl];exact hr'
    refine⟨.inl ⟨rfl,_,SqL.of upd_same⟩,p,rfl,_,k1 _ _ hs,_,rfl,kd,a,b,u1,u2,rfl,hJ _ _ k1 jH',hR _ _ _ _ k1 r1,hR _ _ _ _ k1 r2,by omega,fun u H3 e3 ru=>?_⟩
    exact⟨_,e3 _ _ upd_same,small1M (by omega),fin ts2 fs2 H3 u ((e.write f1).trans e3) ((kk.trans k1).trans e3.keepT) (e3 _ _ hr1) (e3 _ _ upd_same) (hpm (k1.trans e3.keepT) hp2) (by omega) hf2 ru⟩
  ·obtain⟨x4,x5,x6,ts,fs,rfl,e,kk,hr',hl',hp',hf,hn⟩:=hI
   rw[Nat.sub_self,List.drop_zero,← List.append_nil t.pre] at hf
   obtain⟨fs',rfl,hf'⟩:=forest_head hf
   rw[forest_nil hf'] at hp'
   cases hp' with
   | cons hu' hnil =>
    cases hnil
    exact hC _ _ ⟨x4,x5,x6,_,rfl,e,hl',hu'⟩
 rintro σ2 H2 ⟨x4,x5,x6,u,rfl,e2,h2,ru⟩
 walk_at "rdx_1"
 exact⟨_,SqL.of h2,u,rfl,q _ _ e2 ru⟩
end
noncomputable abbrev s_ad0:Stmt:=top 29
theorem sc_ad0:FnScope ["_law_rule","_law_wishes","_law_goal"] ["_law_rule","_law_wishes","_law_goal"] (defScope s_ad0):=⟨rfl,rfl,rfl,by decide +kernel,rfl,by decide +kernel,by decide +kernel⟩
section
variable {P:Program} {w:World} {K:PySem.W.Frag} {mg:Str→Option Value} {base:Heap}
theorem ok_ad0 {k:Nat} {f_ad0:Addr} {fd_ad0:FuncData} (F_ad0:Fun K "_law_goal_needs" "_law_goal_needs" s_ad0 f_ad0 fd_ad0) {f_al0:Addr} {fd_al0:FuncData} (G_al0:FnOk P w K mg base CX0 k f_al0 fd_al0 ["_law_some"] (sp_onceL K)) (m_al0:mg "_law_once"=some (.ref f_al0)) (k_al0:PySem.W.keepIn K (.ref f_al0)=true) (b_al0:Binds K fd_al0 ["_law_some"] []) (m_int:mg "int"=none):FnOk P w K mg base CX0 (k+1) f_ad0 fd_ad0 ["_law_rule","_law_wishes","_law_goal"] (sp_gneedsX K):=by
 refine F_ad0.ok sc_ad0 (fun vs H Q E h=>?_) (fun cdv A outer s H vs Q E hr h=>?_)
 ·obtain⟨x,R,wa,gv,ws,g,rfl,_⟩:=h
  rfl
 obtain⟨x,R,wa,gv,ws,g,rfl,hR,hW,hT,hok,gok,gp,hl,q0,q1⟩:=h
 refine⟨_,(pss_cons (ps_if ((pw_or ((pw_and (pt_cmpRM (op_eq) (pvM 0) pe_str (nomark _)) (pw_and1 (pt_cmpRM (op_inT (hu_150 hr)) (pvM 2) (pvM 1) (by with_unfolding_all rfl))))).pt (pw_or1 ((pw_and (pt_cmpRM (op_eq) (pvM 0) pe_str (nomark _)) (pw_and1 (pt_cmpRM (op_inT (hu_150 hr)) (pe_tup (pa_cons pe_str pa_nil)) (pvM 1) (by with_unfolding_all rfl))))).pt))).pt
  (pss_one (ps_ret (pe_lst pa_nil)))
  pss_nil)
 (pss_cons (ps_if ((pw_and (pt_cmpRM (op_eq) (pvM 0) pe_str (nomark _)) (pw_and1 (pt_cmpRM (op_eq) (pe_ix ix_tup (pvM 2) pe_int (fun _ _=>rfl)) pe_str (nomark _))))).pt
  (pss_one (ps_ret (pe_lst (pa_cons (pe_tup (pa_cons (pvM 1) (pa_cons (pe_ix ix_tup (pvM 2) pe_int (fun _ _=>rfl)) pa_nil))) (pa_cons (pe_tup (pa_cons (pvM 1) (pa_cons (pe_ix ix_tup (pvM 2) pe_int (fun _ _=>rfl)) pa_nil))) pa_nil)))))
  pss_nil)
 (pss_cons (ps_if ((pw_and (pt_cmpRM (op_in_seq) (pvM 0) (pe_lst (pa_cons pe_str (pa_cons pe_str pa_nil))) (by with_unfolding_all rfl)) (pw_and1 (pt_cmpRM (op_eq) (pe_ix ix_tup (pvM 2) pe_int (fun _ _=>rfl)) pe_str (nomark _))))).pt
  (pss_one (ps_ret (pe_lst (pa_cons (pe_tup (pa_cons (pvM 1) (pa_cons (pe_ix ix_tup (pvM 2) (pe_op op_addM pe_int (pe_callTy call_int1 (by exact rfl) m_int Ken.boot_int (pa_cons (pe_cmpR (op_eq) (pvM 0) pe_str (nomark _)) pa_nil))) (fun _ _=>rfl)) pa_nil))) pa_nil))))
  pss_nil)
 (pss_cons (ps_if ((pw_and (pt_cmpRM (op_eq) (pvM 0) pe_str (nomark _)) (pw_and1 (pt_cmpRM (op_eq) (pe_ix ix_tup (pvM 2) pe_int (fun _ _=>rfl)) pe_str (nomark _))))).pt
  (pss_one (ps_ret (pe_lst (pa_cons (pe_tup (pa_cons (pe_call G_al0 hr (by exact rfl) m_al0 k_al0 b_al0 .nil pass0 (pa_cons (pe_op op_cat (pvM 1) (pe_lst (pa_cons (pe_ix ix_tup (pvM 2) pe_int (fun _ _=>rfl)) pa_nil))) pa_nil)) (pa_cons (pe_ix ix_tup (pvM 2) pe_int (fun _ _=>rfl)) pa_nil))) pa_nil))))
  pss_nil)
 (pss_one (ps_ret pe_non)))))),?_⟩
 obtain⟨⟨us,hu,hU⟩,hS⟩:=hW
 have gd:g.deep≤140:=by have:=deep_parts g;omega
 have hoks:∀ s∈ws,s.ok:=fun s hs=>(hok s hs).1
 have hW:IsW K H wa ws:=⟨⟨us,hu,hU⟩,hS⟩
 refine seq_then (fun σ' H'=>σ'=[some (.str x),some (.ref wa),some gv]∧Same H H'∧(R=some .wish∨R=some .low→needGX ws g R=none)) ?_ ?_
 rotate_left
 ·intro C hC
  walk_at "rdx_1"
  simp only[show (x=Str.ofString "wish")=(R=some .wish) from rx hR .wish,show (x=Str.ofString "low")=(R=some .low) from rx hR .low,reduceCtorEq,if_true,if_false]
  refine ite2 (fun c=>?_) (fun c=>?_)
  ·subst c
   refine⟨g,hT,us,SqL.of hu,ws,hU,gok,hoks,gd,?_⟩
   by_cases hin:g∈ws
   ·rw[if_pos (decide_eq_true hin)]
    exact⟨by decide,fun p hp=>q1 [] (by show (if g∈ws then _ else _)=_;rw[if_pos hin]) _ _ (same_new hp _) (ndsA_nil (Same.refl _) hp)⟩
   ·rw[if_neg (by rw[decide_eq_false hin];exact Bool.false_ne_true),if_neg (by decide)]
    exact hC _ _ ⟨rfl,Same.refl _,fun _=>by show (if g∈ws then _ else _)=_;rw[if_neg hin]⟩
  ·refine ite2 (fun c2=>?_) (fun c2=>hC _ _ ⟨rfl,Same.refl _,fun z=>z.elim (fun y=>absurd y c) fun y=>absurd y c2⟩)
   subst c2
   refine⟨by decide,fun p hp=>?_⟩
   have s1:=same_new hp (HO.tup [V.str (Str.ofString "low")])
   refine⟨.low,isT_low.mpr ⟨p,rfl,.inl (.inl upd_same)⟩,us,SqL.of (s1 _ _ hu),ws,paired_keepT s1.keepT hU,trivial,hoks,by decide,?_⟩
   by_cases hin:Tm.low∈ws
   ·rw[if_pos (decide_eq_true hin)]
    exact⟨by decide,fun p hp=>q1 [] (by show (if Tm.low∈ws then _ else _)=_;rw[if_pos hin]) _ _ (s1.trans (same_new hp _)) (ndsA_nil s1 hp)⟩
   ·rw[if_neg (by rw[decide_eq_false hin];exact Bool.false_ne_true)]
    exact hC _ _ ⟨rfl,s1,fun _=>by show (if Tm.low∈ws then _ else _)=_;rw[if_neg hin]⟩
 rintro σ1 H1 ⟨rfl,e1,n1⟩
 refine seq_then (fun σ' H'=>σ'=[some (.str x),some (.ref wa),some gv]∧Same H H'∧(R=some .both→needGX ws g R=none)) ?_ ?_
 rotate_left
 ·intro C hC
  walk_at "rdx_1"
  simp only[show (x=Str.ofString "both")=(R=some .both) from rx hR .both,reduceCtorEq,if_true,if_false]
  refine ite2 (fun c=>?_) (fun c=>hC _ _ ⟨rfl,e1,fun y=>absurd y c⟩)
  subst c
  rcases isT_or .both (hT.keep e1.keepT) with ⟨a,b,p,vx,vy,rfl,rfl,hs,hx,hy⟩ | ⟨p,c1,xs,rfl,hs,hne,hng⟩
  ·refine⟨p,rfl,_,hs,_,rfl,rfl,?_⟩
   rw[if_pos (by rfl)]
   refine⟨p,rfl,_,hs,_,rfl,by decide,fun p1 hp1=>?_⟩
   have s1:=same_new hp1 (HO.tup [V.ref wa,vx])
   refine⟨p,rfl,_,s1.sqt hs,_,rfl,by decide,fun p2 hp2=>⟨by decide,fun p3 hp3=>?_⟩⟩
   have s2:=same_new hp2 (HO.tup [V.ref wa,vy])
   exact q1 _ rfl _ _ (((e1.trans s1).trans s2).trans (same_new hp3 _)) (ndsA_two e1 (hW.keep e1) hx hp1 (Same.refl _) (hW.keep (e1.trans s1)) (hy.keep s1.keepT) hp2 hp3 (.inl rfl) (.inl rfl))
  ·refine⟨p,rfl,_,hs,_,at0 _ _,scal_str _ _,?_⟩
   rw[if_neg (fun z=>hne (by cases z;rfl))]
   exact hC _ _ ⟨rfl,e1,fun _=>needG_both hng⟩
 rintro σ2 H2 ⟨rfl,e2,n2⟩
 refine seq_then (fun σ' H'=>σ'=[some (.str x),some (.ref wa),some gv]∧Same H H'∧((R=some .first∨R=some .second)→needGX ws g R=none)) ?_ ?_
 rotate_left
 ·intro C hC
  walk_at "rdx_1"
  simp only[reduceCtorEq,if_true,if_false]
  refine⟨by decide,fun p0 hp0=>⟨_,.inl (SqL.of upd_same),rfl,rfl,?_⟩⟩
  have s0:=e2.trans (same_new hp0 (HO.lst [V.str (Str.ofString "first"),V.str (Str.ofString "second")]))
  by_cases hf:R=some .first∨R=some .second
  ·have hx1:inV (.str x) [.str "first",.str "second"]=true:=by rcases hf with rfl | rfl<;>(obtain rfl:x=_:=hR;decide)
   rcases isT_or .one (hT.keep s0.keepT) with ⟨a,b,p,vx,vy,rfl,rfl,hs,hx,hy⟩ | ⟨p,c1,xs,rfl,hs,hne,hng⟩
   ·rcases hf with rfl | rfl
    ·rw[if_pos hx1]
     obtain rfl:x=_:=hR
     refine⟨p,rfl,_,hs,_,rfl,rfl,?_⟩
     rw[if_pos (by rfl)]
     refine .inr ⟨p,rfl,_,hs,_,rfl,by decide,fun p1 hp1=>⟨by decide,fun p2 hp2=>?_⟩⟩
     have s1:=same_new hp1 (HO.tup [V.ref wa,vx])
     exact q1 _ rfl _ _ ((s0.trans s1).trans (same_new hp2 _)) (ndsA_one s0 (hW.keep s0) hx hp1 hp2 (.inl rfl))
    ·rw[if_pos hx1]
     obtain rfl:x=_:=hR
     refine⟨p,rfl,_,hs,_,rfl,rfl,?_⟩
     rw[if_pos (by rfl)]
     refine .inr ⟨p,rfl,_,hs,_,rfl,by decide,fun p1 hp1=>⟨by decide,fun p2 hp2=>?_⟩⟩
     have s1:=same_new hp1 (HO.tup [V.ref wa,vy])
     exact q1 _ rfl _ _ ((s0.trans s1).trans (same_new hp2 _)) (ndsA_one s0 (hW.keep s0) hy hp1 hp2 (.inl rfl))
   ·rw[if_pos hx1]
    refine⟨p,rfl,_,hs,_,at0 _ _,scal_str _ _,?_⟩
    rw[if_neg (fun z=>hne (by cases z;rfl))]
    exact hC _ _ ⟨rfl,s0,fun z=>by rcases z with rfl | rfl;exact needG_first hng;exact needG_second hng⟩
  ·rw[if_neg (by cases R with
    | none=>show ¬ inV (.str x) [.str "first",.str "second"]=true;rw[bad_in2 hR];exact Bool.false_ne_true
    | some r=>obtain rfl:x=r.str:=hR;revert hf;cases r<;>first | (intro z;exact absurd (Or.inl rfl) z) | (intro z;exact absurd (Or.inr rfl) z) | (intro _;decide))]
   exact hC _ _ ⟨rfl,s0,fun z=>absurd z hf⟩
 rintro σ3 H3 ⟨rfl,e3,n3⟩
 refine seq_then (fun σ' H'=>σ'=[some (.str x),some (.ref wa),some gv]∧Same H H'∧(R=some .thn→needGX ws g R=none)) ?_ ?_
 rotate_left
 ·intro C hC
  walk_at "rdx_1"
  simp only[show (x=Str.ofString "then")=(R=some .thn) from rx hR .thn,reduceCtorEq,if_true,if_false]
  refine ite2 (fun c=>?_) (fun c=>hC _ _ ⟨rfl,e3,fun y=>absurd y c⟩)
  subst c
  rcases isT_or .thn (hT.keep e3.keepT) with ⟨a,b,p,vx,vy,rfl,rfl,hs,hx,hy⟩ | ⟨p,c1,xs,rfl,hs,hne,hng⟩
  ·refine⟨p,rfl,_,hs,_,rfl,rfl,?_⟩
   rw[if_pos (by rfl)]
   have hpp:1+a.parts+b.parts≤110:=gp
   refine⟨p,rfl,_,hs,_,rfl,by decide,fun p1 hp1=>?_⟩
   have s1:=same_new hp1 (HO.lst [vx])
   have lu:=Paired.length hU
   refine⟨us,(e3.trans s1) _ _ hu,_,upd_same,Nat.le_of_lt (small1000 (by show us.length+1≤1000;omega)),fun p2 hp2=>?_⟩
   have s2:=same_new hp2 (HO.lst (us++[vx]))
   have S:=(e3.trans s1).trans s2
   refine⟨p2,_,ws++[a],rfl,upd_same,paired_app (paired_keepT S.keepT hU) (.cons (hx.keep (s1.trans s2).keepT) .nil),fun t ht=>(List.mem_append.mp ht).elim (hok t) fun z=>by rw[List.mem_singleton.mp z];exact⟨gok.1,by omega⟩,by rw[List.length_append,List.length_singleton];omega,fun r H2 e2 hr hw=>⟨p,rfl,_,((s1.trans s2).trans e2).sqt hs,_,rfl,by decide,fun p3 hp3=>⟨by decide,fun p4 hp4=>?_⟩⟩⟩
   exact q1 _ rfl _ _ (((S.trans e2).trans (same_new hp3 _)).trans (same_new hp4 _)) (ndsA_one (S.trans e2) hw (hy.keep ((s1.trans s2).trans e2).keepT) hp3 hp4 (.inr (S.free hr)))
  ·refine⟨p,rfl,_,hs,_,at0 _ _,scal_str _ _,?_⟩
   rw[if_neg (fun z=>hne (by cases z;rfl))]
   exact hC _ _ ⟨rfl,e3,fun _=>needG_thn hng⟩
 rintro σ4 H4 ⟨rfl,e4,n4⟩
 walk_at "rdx_1"
 refine q0 ?_ _ e4
 clear q0 q1
 cases R with
 | none=>rfl
 | some r=>cases r<;>first | exact n1 (.inl rfl) | exact n1 (.inr rfl) | exact n2 rfl | exact n3 (.inl rfl) | exact n3 (.inr rfl) | exact n4 rfl | rfl
end
noncomputable abbrev s_af0:Stmt:=top 30
theorem sc_af0:FnScope ["_law_rule","_law_wishes","_law_goal","_law_one","_law_other","_law_on","_law_first"] ["_law_rule","_law_wishes","_law_goal","_law_one","_law_other","_law_on"] (defScope s_af0):=⟨rfl,rfl,rfl,by decide +kernel,rfl,by decide +kernel,by decide +kernel⟩
section
variable {P:Program} {w:World} {K:PySem.W.Frag} {mg:Str→Option Value} {base:Heap}
theorem ok_af0 {k:Nat} {f_af0:Addr} {fd_af0:FuncData} (F_af0:Fun K "_law_if_needs" "_law_if_needs" s_af0 f_af0 fd_af0) {f_al0:Addr} {fd_al0:FuncData} (G_al0:FnOk P w K mg base CX0 k f_al0 fd_al0 ["_law_some"] (sp_onceL K)) (m_al0:mg "_law_once"=some (.ref f_al0)) (k_al0:PySem.W.keepIn K (.ref f_al0)=true) (b_al0:Binds K fd_al0 ["_law_some"] []) {f_ab0:Addr} {fd_ab0:FuncData} (G_ab0:FnOk P w K mg base CX0 k f_ab0 fd_ab0 ["_law_wishes","_law_on","_law_more"] (sp_changedL K)) (m_ab0:mg "_law_changed"=some (.ref f_ab0)) (k_ab0:PySem.W.keepIn K (.ref f_ab0)=true) (b_ab0:Binds K fd_ab0 ["_law_wishes","_law_on","_law_more"] []):FnOk P w K mg base CX0 (k+1) f_af0 fd_af0 ["_law_rule","_law_wishes","_law_goal","_law_one","_law_other","_law_on"] (sp_ifneedsX K):=by
 refine F_af0.ok sc_af0 (fun vs H Q E h=>?_) (fun cdv A outer s H vs Q E hr h=>?_)
 ·obtain⟨x,R,wa,gv,av,bv,ov,ws,g,a,b,rfl,_⟩:=h
  rfl
 obtain⟨x,R,wa,gv,av,bv,ov,ws,g,a,b,rfl,hR,hW,hT,hA,hB,hO,hin,hok,gok,gp,hl,q0,q1⟩:=h
 refine⟨_,(pss_cons (ps_if ((pw_and (pt_cmpRM (op_eq) (pvM 0) pe_str (nomark _)) (pw_and1 (pt_cmpRM (op_inT (hu_150 hr)) (pvM 3) (pvM 1) (by with_unfolding_all rfl))))).pt
  (pss_one (ps_ret (pe_lst (pa_cons (pe_tup (pa_cons (pe_call G_ab0 hr (by exact rfl) m_ab0 k_ab0 b_ab0 .nil pass0 (pa_cons (pvM 1) (pa_cons (pvM 5) (pa_cons (pe_lst (pa_cons (pvM 4) pa_nil)) pa_nil)))) (pa_cons (pvM 2) pa_nil))) pa_nil))))
  pss_nil)
 (pss_cons (ps_if ((pw_and (pt_cmpRM (op_eq) (pvM 0) pe_str (nomark _)) (pw_and1 (pt_cmpRM (op_eqD (hu_150 hr)) (pvM 3) (pe_tup (pa_cons pe_str pa_nil)) (nomark _))))).pt
  (pss_one (ps_ret (pe_lst (pa_cons (pe_tup (pa_cons (pe_call G_ab0 hr (by exact rfl) m_ab0 k_ab0 b_ab0 .nil pass0 (pa_cons (pvM 1) (pa_cons (pvM 5) (pa_cons (pe_lst pa_nil) pa_nil)))) (pa_cons (pvM 2) pa_nil))) pa_nil))))
  pss_nil)
 (pss_cons (ps_if (pt_cmpRM (op_eq) (pvM 0) pe_str (nomark _))
  (pss_one (ps_ret (pe_lst (pa_cons (pe_tup (pa_cons (pvM 1) (pa_cons (pvM 3) pa_nil))) (pa_cons (pe_tup (pa_cons (pe_call G_al0 hr (by exact rfl) m_al0 k_al0 b_al0 .nil pass0 (pa_cons (pe_op op_cat (pvM 1) (pe_lst (pa_cons (pvM 4) pa_nil))) pa_nil)) (pa_cons (pvM 2) pa_nil))) pa_nil)))))
  pss_nil)
 (pss_cons (ps_if ((pw_and (pt_cmpRM (op_eq) (pvM 0) pe_str (nomark _)) (pw_and1 (pt_cmpRM (op_eq) (pe_ix ix_tup (pvM 3) pe_int (fun _ _=>rfl)) pe_str (nomark _))))).pt
  (pss_one (ps_ret (pe_lst (pa_cons (pe_tup (pa_cons (pe_call G_ab0 hr (by exact rfl) m_ab0 k_ab0 b_ab0 .nil pass0 (pa_cons (pvM 1) (pa_cons (pvM 5) (pa_cons (pe_lst (pa_cons (pe_tup (pa_cons pe_str (pa_cons (pe_ix ix_tup (pvM 3) pe_int (fun _ _=>rfl)) (pa_cons (pe_tup (pa_cons pe_str (pa_cons (pe_ix ix_tup (pvM 3) pe_int (fun _ _=>rfl)) (pa_cons (pvM 4) pa_nil)))) pa_nil)))) pa_nil)) pa_nil)))) (pa_cons (pvM 2) pa_nil))) pa_nil))))
  pss_nil)
 (pss_cons (ps_if ((pw_and (pt_cmpRM (op_eq) (pvM 0) pe_str (nomark _)) (pw_and1 (pt_cmpRM (op_eq) (pe_ix ix_tup (pvM 3) pe_int (fun _ _=>rfl)) pe_str (nomark _))))).pt
  (pss_one (ps_ret (pe_lst (pa_cons (pe_tup (pa_cons (pe_call G_ab0 hr (by exact rfl) m_ab0 k_ab0 b_ab0 .nil pass0 (pa_cons (pvM 1) (pa_cons (pvM 5) (pa_cons (pe_lst (pa_cons (pe_tup (pa_cons pe_str (pa_cons (pe_ix ix_tup (pvM 3) pe_int (fun _ _=>rfl)) (pa_cons (pvM 4) pa_nil)))) (pa_cons (pe_tup (pa_cons pe_str (pa_cons (pe_ix ix_tup (pvM 3) pe_int (fun _ _=>rfl)) (pa_cons (pvM 4) pa_nil)))) pa_nil))) pa_nil)))) (pa_cons (pvM 2) pa_nil))) pa_nil))))
  pss_nil)
 (pss_cons (ps_if ((pw_and (pt_cmpRM (op_eq) (pvM 0) pe_str (nomark _)) (pw_and1 (pt_cmpRM (op_eq) (pe_ix ix_tup (pvM 3) pe_int (fun _ _=>rfl)) pe_str (nomark _))))).pt
  (pss_cons (ps_set (i:=6) sc_af0.nd rfl (Or.inl rfl) (pe_call G_ab0 hr (by exact rfl) m_ab0 k_ab0 b_ab0 .nil pass0 (pa_cons (pvM 1) (pa_cons (pvM 5) (pa_cons (pe_lst (pa_cons (pe_tup (pa_cons pe_str (pa_cons (pe_ix ix_tup (pvM 3) pe_int (fun _ _=>rfl)) (pa_cons (pvM 4) pa_nil)))) pa_nil)) pa_nil)))))
 (pss_one (ps_ret (pe_lst (pa_cons (pe_tup (pa_cons (pvM 6) (pa_cons (pvM 3) pa_nil))) (pa_cons (pe_tup (pa_cons (pe_call G_ab0 hr (by exact rfl) m_ab0 k_ab0 b_ab0 .nil pass0 (pa_cons (pvM 1) (pa_cons (pvM 5) (pa_cons (pe_lst (pa_cons (pvM 4) pa_nil)) pa_nil)))) (pa_cons (pvM 2) pa_nil))) pa_nil))))))
  pss_nil)
 (pss_one (ps_ret pe_non)))))))),?_⟩
 obtain⟨⟨us,hus,hU⟩,hS⟩:=hW
 have hW:IsW K H wa ws:=⟨⟨us,hus,hU⟩,hS⟩
 have ho:=hok _ hin
 have hpp:1+a.parts+b.parts≤110:=ho.2
 have aok:a.ok:=ho.1.1
 have bok:b.ok:=ho.1.2
 have hoks:∀ s∈ws,s.ok:=fun s hs=>(hok s hs).1
 have chg:∀ (H1:Hp) (e1:Same H H1) (pl:Addr) (xs:List V) (ts:List Tm),H1 pl=some (.lst xs)→Paired (IsT K H1) xs ts→Okw ts→ts.length≤2→∀ Q':VK,(∀ r H',Same H1 H'→H r=none→IsW K H' r (norm (rem ws (.nd .thn a b)++ts))→Q' (.ref r) H')→sp_changedL K [.ref wa,ov,.ref pl] H1 Q' E0:=fun H1 e1 pl xs ts h hP hk hlt Q' qq =>
  ⟨wa,pl,ov,_,ws,xs,ts,rfl,hW.keep e1,hO.keep e1.keepT,ho.1,ho.2,h,hP,hok,hk,by omega,fun r H' e2 hr hw=>qq r H' e2 (e1.free hr) hw⟩
 refine seq_then (fun σ' H'=>σ'=[some (.str x),some (.ref wa),some gv,some av,some bv,some ov,none]∧Same H H'∧(R=some .known→needOX ws g (.nd .thn a b) R=none)) ?_ ?_
 rotate_left
 ·intro C hC
  walk_at "rdx_1"
  simp only[show (x=Str.ofString "known")=(R=some .known) from rx hR .known,reduceCtorEq,if_true,if_false]
  refine ite2 (fun c=>?_) (fun c=>hC _ _ ⟨rfl,Same.refl _,fun y=>absurd y c⟩)
  subst c
  refine⟨a,hA,us,SqL.of hus,ws,hU,aok,hoks,by have:=deep_parts a;omega,?_⟩
  by_cases ha:a∈ws
  ·rw[if_pos (decide_eq_true ha)]
   refine⟨by decide,fun p hp=>?_⟩
   have s1:=same_new hp (HO.lst [bv])
   refine chg _ s1 p [bv] [b] upd_same (.cons (hB.keep s1.keepT) .nil) (fun t ht=>by rw[List.mem_singleton.mp ht];exact⟨bok,by omega⟩) (by show 1≤2;decide) _ fun r H2 e2 fr hw=>⟨by decide,fun p3 hp3=>⟨by decide,fun p4 hp4=>?_⟩⟩
   have S:=s1.trans e2
   exact q1 _ (by show (if a∈ws then _ else _)=_;rw[if_pos ha]) _ _ ((S.trans (same_new hp3 _)).trans (same_new hp4 _)) (ndsA_one S hw (hT.keep S.keepT) hp3 hp4 (.inr fr))
  ·rw[if_neg (by rw[decide_eq_false ha];exact Bool.false_ne_true)]
   exact hC _ _ ⟨rfl,Same.refl _,fun _=>by show (if a∈ws then _ else _)=_;rw[if_neg ha]⟩
 rintro σ1 H1 ⟨rfl,z1,n1⟩
 refine seq_then (fun σ' H'=>σ'=[some (.str x),some (.ref wa),some gv,some av,some bv,some ov,none]∧Same H H'∧(R=some .idle→needOX ws g (.nd .thn a b) R=none)) ?_ ?_
 rotate_left
 ·intro C hC
  walk_at "rdx_1"
  simp only[show (x=Str.ofString "idle")=(R=some .idle) from rx hR .idle,reduceCtorEq,if_true,if_false]
  refine ite2 (fun c=>?_) (fun c=>hC _ _ ⟨rfl,z1,fun y=>absurd y c⟩)
  subst c
  refine⟨by decide,fun p hp=>?_⟩
  have s1:=z1.trans (same_new hp (HO.tup [V.str (Str.ofString "low")]))
  refine⟨a.data,hA.keep s1.keepT,Tm.low.data,isT_low.mpr ⟨p,rfl,.inl (.inl upd_same)⟩,a.lay aok,Tm.low.lay trivial,by rw[Tm.depth];have:=deep_parts a;omega,?_⟩
  rw[Tm.eqv]
  by_cases ha:a=.low
  ·subst ha
   rw[if_pos (decide_eq_true rfl)]
   refine⟨by decide,fun p2 hp2=>?_⟩
   have s2:=s1.trans (same_new hp2 (HO.lst []))
   refine chg _ s2 p2 [] [] upd_same .nil (fun t ht=>nomatch ht) (by show 0≤2;decide) _ fun r H2 e2 fr hw=>⟨by decide,fun p3 hp3=>⟨by decide,fun p4 hp4=>?_⟩⟩
   have S:=s2.trans e2
   rw[List.append_nil] at hw
   exact q1 _ rfl _ _ ((S.trans (same_new hp3 _)).trans (same_new hp4 _)) (ndsA_one S hw (hT.keep S.keepT) hp3 hp4 (.inr fr))
  ·rw[if_neg (by rw[decide_eq_false ha];exact Bool.false_ne_true)]
   exact hC _ _ ⟨rfl,s1,fun _=>needO_idle ha⟩
 rintro σ2 H2 ⟨rfl,z2,n2⟩
 refine seq_then (fun σ' H'=>σ'=[some (.str x),some (.ref wa),some gv,some av,some bv,some ov,none]∧Same H H'∧R≠some .use) ?_ ?_
 rotate_left
 ·intro C hC
  walk_at "rdx_1"
  simp only[show (x=Str.ofString "use")=(R=some .use) from rx hR .use,reduceCtorEq,if_true,if_false]
  refine ite2 (fun c=>?_) (fun c=>hC _ _ ⟨rfl,z2,c⟩)
  subst c
  have lu:=Paired.length hU
  refine⟨by decide,fun p1 hp1=>?_⟩
  have s1:=same_new hp1 (HO.tup [V.ref wa,av])
  refine⟨by decide,fun p2 hp2=>?_⟩
  have s2:=same_new hp2 (HO.lst [bv])
  refine⟨us,(z2.trans (s1.trans s2)) _ _ hus,_,upd_same,Nat.le_of_lt (small1000 (by show us.length+1≤1000;omega)),fun p3 hp3=>?_⟩
  have s3:=same_new hp3 (HO.lst (us++[bv]))
  have S:=z2.trans ((s1.trans s2).trans s3)
  refine⟨p3,_,ws++[b],rfl,upd_same,paired_app (paired_keepT S.keepT hU) (.cons (hB.keep S.keepT) .nil),fun t ht=>(List.mem_append.mp ht).elim (hok t) fun z=>by rw[List.mem_singleton.mp z];exact⟨bok,by omega⟩,by rw[List.length_append,List.length_singleton];omega,fun r H2 e2 hr hw=>⟨by decide,fun p4 hp4=>⟨by decide,fun p5 hp5=>?_⟩⟩⟩
  exact q1 _ rfl _ _ (((S.trans e2).trans (same_new hp4 _)).trans (same_new hp5 _)) (ndsA_two z2 (hW.keep z2) (hA.keep z2.keepT) hp1 ((s2.trans s3).trans e2) hw (hT.keep (S.trans e2).keepT) hp4 hp5 (.inl rfl) (.inr (S.free hr)))
 rintro σ3 H3 ⟨rfl,z3,hu⟩
 have hBz3:=hB.keep z3.keepT
 refine seq_then (fun σ' H'=>σ'=[some (.str x),some (.ref wa),some gv,some av,some bv,some ov,none]∧Same H H'∧(R=some .curried→needOX ws g (.nd .thn a b) R=none)) ?_ ?_
 rotate_left
 ·intro C hC
  walk_at "rdx_1"
  simp only[show (x=Str.ofString "curried")=(R=some .curried) from rx hR .curried,reduceCtorEq,if_true,if_false]
  refine ite2 (fun c=>?_) (fun c=>hC _ _ ⟨rfl,z3,fun y=>absurd y c⟩)
  subst c
  rcases isT_or .both (hA.keep z3.keepT) with ⟨c,d,p,vx,vy,rfl,rfl,hs,hx,hy⟩ | ⟨p,c1,xs,rfl,hs,hne,hng⟩
  ·refine⟨p,rfl,_,hs,_,rfl,rfl,?_⟩
   rw[if_pos (by rfl)]
   have hp2:1+(1+c.parts+d.parts)+b.parts≤110:=hpp
   refine⟨p,rfl,_,hs,_,rfl,p,rfl,_,hs,_,rfl,by decide,fun p1 hp1=>⟨by decide,fun p2 hp2=>⟨by decide,fun p3 hp3=>?_⟩⟩⟩
   have s1:=same_new hp1 (HO.tup [V.str (Str.ofString "then"),vy,bv])
   have s2:=same_new hp2 (HO.tup [V.str (Str.ofString "then"),vx,V.ref p1])
   have s3:=same_new hp3 (HO.lst [V.ref p2])
   have t1:IsT K _ (.ref p1) (.nd .thn d b):=isT_nd.mpr ⟨p1,vy,bv,rfl,.inl (.inl upd_same),hy.keep s1.keepT,hBz3.keep s1.keepT⟩
   have t2:IsT K _ (.ref p2) (.nd .thn c (.nd .thn d b)):=isT_nd.mpr ⟨p2,vx,.ref p1,rfl,.inl (.inl upd_same),hx.keep (s1.trans s2).keepT,t1.keep s2.keepT⟩
   refine chg _ (z3.trans ((s1.trans s2).trans s3)) p3 [.ref p2] [.nd .thn c (.nd .thn d b)] upd_same (.cons (t2.keep s3.keepT) .nil) (fun t ht=>by rw[List.mem_singleton.mp ht];exact⟨⟨aok.1,aok.2,bok⟩,by show 1+c.parts+(1+d.parts+b.parts)≤110;omega⟩) (by show 1≤2;decide) _ fun r H2 e2 fr hw=>⟨by decide,fun p4 hp4=>⟨by decide,fun p5 hp5=>?_⟩⟩
   have S:=(z3.trans ((s1.trans s2).trans s3)).trans e2
   exact q1 _ rfl _ _ ((S.trans (same_new hp4 _)).trans (same_new hp5 _)) (ndsA_one S hw (hT.keep S.keepT) hp4 hp5 (.inr fr))
  ·refine⟨p,rfl,_,hs,_,at0 _ _,scal_str _ _,?_⟩
   rw[if_neg (fun z=>hne (by cases z;rfl))]
   exact hC _ _ ⟨rfl,z3,fun _=>needO_curried hng⟩
 rintro σ4 H4 ⟨rfl,z4,n4⟩
 have hBz4:=hB.keep z4.keepT
 refine seq_then (fun σ' H'=>σ'=[some (.str x),some (.ref wa),some gv,some av,some bv,some ov,none]∧Same H H'∧(R=some .either→needOX ws g (.nd .thn a b) R=none)) ?_ ?_
 rotate_left
 ·intro C hC
  walk_at "rdx_1"
  simp only[show (x=Str.ofString "either")=(R=some .either) from rx hR .either,reduceCtorEq,if_true,if_false]
  refine ite2 (fun c=>?_) (fun c=>hC _ _ ⟨rfl,z4,fun y=>absurd y c⟩)
  subst c
  rcases isT_or .one (hA.keep z4.keepT) with ⟨c,d,p,vx,vy,rfl,rfl,hs,hx,hy⟩ | ⟨p,c1,xs,rfl,hs,hne,hng⟩
  ·refine⟨p,rfl,_,hs,_,rfl,rfl,?_⟩
   rw[if_pos (by rfl)]
   have hp2:1+(1+c.parts+d.parts)+b.parts≤110:=hpp
   refine⟨p,rfl,_,hs,_,rfl,by decide,fun p1 hp1=>?_⟩
   have s1:=same_new hp1 (HO.tup [V.str (Str.ofString "then"),vx,bv])
   refine⟨p,rfl,_,s1.sqt hs,_,rfl,by decide,fun p2 hp2=>⟨by decide,fun p3 hp3=>?_⟩⟩
   have s2:=same_new hp2 (HO.tup [V.str (Str.ofString "then"),vy,bv])
   have s3:=same_new hp3 (HO.lst [V.ref p1,V.ref p2])
   have t1:IsT K _ (.ref p1) (.nd .thn c b):=isT_nd.mpr ⟨p1,vx,bv,rfl,.inl (.inl upd_same),hx.keep s1.keepT,hBz4.keep s1.keepT⟩
   have t2:IsT K _ (.ref p2) (.nd .thn d b):=isT_nd.mpr ⟨p2,vy,bv,rfl,.inl (.inl upd_same),hy.keep (s1.trans s2).keepT,hBz4.keep (s1.trans s2).keepT⟩
   refine chg _ (z4.trans ((s1.trans s2).trans s3)) p3 [.ref p1,.ref p2] [.nd .thn c b,.nd .thn d b] upd_same (.cons (t1.keep (s2.trans s3).keepT) (.cons (t2.keep s3.keepT) .nil)) (fun t ht=>?_) (by show 2≤2;decide) _ fun r H2 e2 fr hw=>⟨by decide,fun p4 hp4=>⟨by decide,fun p5 hp5=>?_⟩⟩
   ·rcases List.mem_cons.mp ht with z | z
    ·rw[z];exact⟨⟨aok.1,bok⟩,by show 1+c.parts+b.parts≤110;omega⟩
    ·rw[List.mem_singleton.mp z];exact⟨⟨aok.2,bok⟩,by show 1+d.parts+b.parts≤110;omega⟩
   have S:=(z4.trans ((s1.trans s2).trans s3)).trans e2
   exact q1 _ rfl _ _ ((S.trans (same_new hp4 _)).trans (same_new hp5 _)) (ndsA_one S hw (hT.keep S.keepT) hp4 hp5 (.inr fr))
  ·refine⟨p,rfl,_,hs,_,at0 _ _,scal_str _ _,?_⟩
   rw[if_neg (fun z=>hne (by cases z;rfl))]
   exact hC _ _ ⟨rfl,z4,fun _=>needO_either hng⟩
 rintro σ5 H5 ⟨rfl,z5,n5⟩
 have hBz5:=hB.keep z5.keepT
 refine seq_then (fun σ' H'=>σ'=[some (.str x),some (.ref wa),some gv,some av,some bv,some ov,none]∧Same H H'∧(R=some .chain→needOX ws g (.nd .thn a b) R=none)) ?_ ?_
 rotate_left
 ·intro C hC
  walk_at "rdx_1"
  simp only[show (x=Str.ofString "chain")=(R=some .chain) from rx hR .chain,reduceCtorEq,if_true,if_false]
  refine ite2 (fun c=>?_) (fun c=>hC _ _ ⟨rfl,z5,fun y=>absurd y c⟩)
  subst c
  rcases isT_or .thn (hA.keep z5.keepT) with ⟨c,d,p,vx,vy,rfl,rfl,hs,hx,hy⟩ | ⟨p,c1,xs,rfl,hs,hne,hng⟩
  ·refine⟨p,rfl,_,hs,_,rfl,rfl,?_⟩
   rw[if_pos (by rfl)]
   have hp2:1+(1+c.parts+d.parts)+b.parts≤110:=hpp
   refine⟨p,rfl,_,hs,_,rfl,by decide,fun p1 hp1=>⟨by decide,fun p2 hp2=>?_⟩⟩
   have s1:=same_new hp1 (HO.tup [V.str (Str.ofString "then"),vy,bv])
   have s2:=same_new hp2 (HO.lst [V.ref p1])
   have t1:IsT K _ (.ref p1) (.nd .thn d b):=isT_nd.mpr ⟨p1,vy,bv,rfl,.inl (.inl upd_same),hy.keep s1.keepT,hBz5.keep s1.keepT⟩
   refine chg _ (z5.trans (s1.trans s2)) p2 [.ref p1] [.nd .thn d b] upd_same (.cons (t1.keep s2.keepT) .nil) (fun t ht=>by rw[List.mem_singleton.mp ht];exact⟨⟨aok.2,bok⟩,by show 1+d.parts+b.parts≤110;omega⟩) (by show 1≤2;decide) _ fun r H2 e2 fr hw=>⟨by decide,fun p3 hp3=>⟨by decide,fun p4 hp4=>?_⟩⟩
   have S2:=(z5.trans (s1.trans s2)).trans e2
   have s3:=same_new hp3 (HO.tup [V.ref r,V.ref p])
   have s4:=same_new hp4 (HO.lst [bv])
   have S4:=(S2.trans s3).trans s4
   refine chg _ S4 p4 [bv] [b] upd_same (.cons (hB.keep S4.keepT) .nil) (fun t ht=>by rw[List.mem_singleton.mp ht];exact⟨bok,by omega⟩) (by show 1≤2;decide) _ fun r2 H3 e3 fr3 hw3=>⟨by decide,fun p5 hp5=>⟨by decide,fun p6 hp6=>?_⟩⟩
   have S:=S4.trans e3
   exact q1 _ rfl _ _ ((S.trans (same_new hp5 _)).trans (same_new hp6 _)) (ndsA_two S2 hw (hA.keep S2.keepT) hp3 (s4.trans e3) hw3 (hT.keep S.keepT) hp5 hp6 (.inr fr) (.inr fr3))
  ·refine⟨p,rfl,_,hs,_,at0 _ _,scal_str _ _,?_⟩
   rw[if_neg (fun z=>hne (by cases z;rfl))]
   exact hC _ _ ⟨rfl,z5,fun _=>needO_chain hng⟩
 rintro σ6 H6 ⟨rfl,z6,n6⟩
 walk_at "rdx_1"
 refine q0 ?_ _ z6
 clear q0 q1 chg
 cases R with
 | none=>rfl
 | some r=>cases r<;>first | exact n1 rfl | exact n2 rfl | exact n4 rfl | exact n5 rfl | exact n6 rfl | exact absurd rfl hu | rfl
end
noncomputable abbrev s_ak0:Stmt:=top 31
theorem sc_ak0:FnScope ["_law_rule","_law_wishes","_law_goal","_law_on","_law_form","_law_one","_law_other"] ["_law_rule","_law_wishes","_law_goal","_law_on"] (defScope s_ak0):=⟨rfl,rfl,rfl,by decide +kernel,rfl,by decide +kernel,by decide +kernel⟩
section
variable {P:Program} {w:World} {K:PySem.W.Frag} {mg:Str→Option Value} {base:Heap}
theorem ok_ak0 {k:Nat} {f_ak0:Addr} {fd_ak0:FuncData} (F_ak0:Fun K "_law_needs" "_law_needs" s_ak0 f_ak0 fd_ak0) {f_ad0:Addr} {fd_ad0:FuncData} (G_ad0:FnOk P w K mg base CX0 k f_ad0 fd_ad0 ["_law_rule","_law_wishes","_law_goal"] (sp_gneedsX K)) (m_ad0:mg "_law_goal_needs"=some (.ref f_ad0)) (k_ad0:PySem.W.keepIn K (.ref f_ad0)=true) (b_ad0:Binds K fd_ad0 ["_law_rule","_law_wishes","_law_goal"] []) {f_ab0:Addr} {fd_ab0:FuncData} (G_ab0:FnOk P w K mg base CX0 k f_ab0 fd_ab0 ["_law_wishes","_law_on","_law_more"] (sp_changedL K)) (m_ab0:mg "_law_changed"=some (.ref f_ab0)) (k_ab0:PySem.W.keepIn K (.ref f_ab0)=true) (b_ab0:Binds K fd_ab0 ["_law_wishes","_law_on","_law_more"] []) {f_af0:Addr} {fd_af0:FuncData} (G_af0:FnOk P w K mg base CX0 k f_af0 fd_af0 ["_law_rule","_law_wishes","_law_goal","_law_one","_law_other","_law_on"] (sp_ifneedsX K)) (m_af0:mg "_law_if_needs"=some (.ref f_af0)) (k_af0:PySem.W.keepIn K (.ref f_af0)=true) (b_af0:Binds K fd_af0 ["_law_rule","_law_wishes","_law_goal","_law_one","_law_other","_law_on"] []) (m_len:mg "len"=none):FnOk P w K mg base CX0 (k+1) f_ak0 fd_ak0 ["_law_rule","_law_wishes","_law_goal","_law_on"] (sp_needsX K):=by
 refine F_ak0.ok sc_ak0 (fun vs H Q E h=>?_) (fun cdv A outer s H vs Q E hr h=>?_)
 ·obtain⟨x0,R,wa,gv,ov,ws,g,on,rfl,_⟩:=h
  rfl
 obtain⟨x0,R,wa,gv,ov,ws,g,on,rfl,hR,hW,hT,hO,hok,gok,gp,hl,q⟩:=h
 refine⟨_,(pss_cons (ps_if (pt_cmpRM (op_isN) (pvM 3) pe_non (nomark _))
  (pss_one (ps_ret (pe_call G_ad0 hr (by exact rfl) m_ad0 k_ad0 b_ad0 .nil pass0 (pa_cons (pvM 0) (pa_cons (pvM 1) (pa_cons (pvM 2) pa_nil))))))
  pss_nil)
 (pss_cons (ps_if ((pw_or (pt_cmpRM (op_notInT (hu_150 hr)) (pvM 3) (pvM 1) (by with_unfolding_all rfl)) (pw_or1 (pt_cmpRM (op_ltM) (pe_callB call_len_seq (by exact rfl) m_len Ken.boot_len (pa_cons (pvM 3) pa_nil)) pe_int (nomark _))))).pt
  (pss_one (ps_ret pe_non))
  pss_nil)
 (pss_cons (ps_asg (pvM 3) (pg_tup rfl (pgs_cons (pg_name (i:=4) sc_ak0.nd rfl (Or.inl rfl)) (pgs_cons (pg_name (i:=5) sc_ak0.nd rfl (Or.inl rfl)) (pgs_cons (pg_name (i:=6) sc_ak0.nd rfl (Or.inl rfl)) pgs_nil)))))
 (pss_cons (ps_if ((pw_and (pt_cmpRM (op_eq) (pvM 0) pe_str (nomark _)) (pw_and1 (pt_cmpRM (op_eq) (pvM 4) pe_str (nomark _))))).pt
  (pss_one (ps_ret (pe_lst (pa_cons (pe_tup (pa_cons (pe_call G_ab0 hr (by exact rfl) m_ab0 k_ab0 b_ab0 .nil pass0 (pa_cons (pvM 1) (pa_cons (pvM 3) (pa_cons (pe_lst (pa_cons (pvM 5) (pa_cons (pvM 6) pa_nil))) pa_nil)))) (pa_cons (pvM 2) pa_nil))) pa_nil))))
  pss_nil)
 (pss_cons (ps_if ((pw_and (pt_cmpRM (op_eq) (pvM 0) pe_str (nomark _)) (pw_and1 (pt_cmpRM (op_eq) (pvM 4) pe_str (nomark _))))).pt
  (pss_one (ps_ret (pe_lst (pa_cons (pe_tup (pa_cons (pe_call G_ab0 hr (by exact rfl) m_ab0 k_ab0 b_ab0 .nil pass0 (pa_cons (pvM 1) (pa_cons (pvM 3) (pa_cons (pe_lst (pa_cons (pvM 5) pa_nil)) pa_nil)))) (pa_cons (pvM 2) pa_nil))) (pa_cons (pe_tup (pa_cons (pe_call G_ab0 hr (by exact rfl) m_ab0 k_ab0 b_ab0 .nil pass0 (pa_cons (pvM 1) (pa_cons (pvM 3) (pa_cons (pe_lst (pa_cons (pvM 6) pa_nil)) pa_nil)))) (pa_cons (pvM 2) pa_nil))) pa_nil)))))
  pss_nil)
 (pss_cons (ps_if (pt_cmpRM (op_eq) (pvM 4) pe_str (nomark _))
  (pss_one (ps_ret (pe_call G_af0 hr (by exact rfl) m_af0 k_af0 b_af0 .nil pass0 (pa_cons (pvM 0) (pa_cons (pvM 1) (pa_cons (pvM 2) (pa_cons (pvM 5) (pa_cons (pvM 6) (pa_cons (pvM 3) pa_nil)))))))))
  pss_nil)
 (pss_one (ps_ret pe_non)))))))),?_⟩
 obtain⟨⟨us,hus,hU⟩,hS⟩:=hW
 have hW:IsW K H wa ws:=⟨⟨us,hus,hU⟩,hS⟩
 have hoks:∀ s∈ws,s.ok:=fun s hs=>(hok s hs).1
 walk_at "rdx_1"
 cases on with
 | none =>
  have eo:ov=.non:=hO
  subst eo
  simp only[if_true]
  exact⟨x0,R,wa,gv,ws,g,rfl,hR,hW,hT,hok,gok,gp,hl,q⟩
 | some o =>
  obtain⟨hO,ook,op⟩:=hO
  rw[if_neg (fun z=>by rw[z] at hO;exact (by obtain⟨p,x,xs,A,e,_⟩:=isT_head hO;cases e))]
  refine⟨o,hO,us,SqL.of hus,ws,hU,ook,hoks,by have:=deep_parts o;omega,?_⟩
  by_cases hin:o∈ws
  rotate_left
  ·rw[if_pos (by rw[if_pos trivial,decide_eq_false hin];rfl)]
   exact q.1 (if_neg hin) _ (Same.refl _)
  rw[if_neg (by rw[if_pos trivial,decide_eq_true hin];exact Bool.false_ne_true)]
  have ho:=hok _ hin
  have chg:∀ (H1:Hp) (e1:Same H H1) (pl:Addr) (xs:List V) (ts:List Tm),H1 pl=some (.lst xs)→Paired (IsT K H1) xs ts→Okw ts→ts.length≤2→∀ Q':VK,(∀ r H',Same H1 H'→H r=none→IsW K H' r (norm (rem ws o++ts))→Q' (.ref r) H')→sp_changedL K [.ref wa,ov,.ref pl] H1 Q' E0:=fun H1 e1 pl xs ts h hP hk hlt Q' qq =>
   ⟨wa,pl,ov,_,ws,xs,ts,rfl,hW.keep e1,hO.keep e1.keepT,ho.1,ho.2,h,hP,hok,hk,by omega,fun r H' e2 hr hw=>qq r H' e2 (e1.free hr) hw⟩
  have eX:needX R ws g (some o)=needOX ws g o R:=if_pos hin
  rw[eX] at q
  obtain⟨q0,q1⟩:=q
  cases o with
  | low =>
   obtain⟨p,rfl,hs⟩:=isT_low.mp hO
   refine⟨p,rfl,_,.inr hs,?_⟩
   rw[if_pos (by decide)]
   exact q0 (by cases R with | none=>rfl | some r=>cases r<;>rfl) _ (Same.refl _)
  | ltr y =>
   obtain⟨p,rfl,hs⟩:=isT_ltr.mp hO
   refine⟨p,rfl,_,.inr hs,?_⟩
   rw[if_pos (by show (2:Int) < 3;decide)]
   exact q0 (by cases R with | none=>rfl | some r=>cases r<;>rfl) _ (Same.refl _)
  | nd kk c d =>
   obtain⟨p,x,y,rfl,hs,hx,hy⟩:=isT_nd.mp hO
   have hpp:1+c.parts+d.parts≤110:=ho.2
   refine⟨p,rfl,_,.inr hs,?_⟩
   rw[if_neg (by show ¬ (3:Int) < 3;decide)]
   refine⟨p,rfl,_,hs,rfl,_,_,rfl,_,_,rfl,_,_,rfl,rfl,?_⟩
   have fin:∀ (H1:Hp) (r':Addr) (nws:List Tm),Same H H1→H r'=none→IsW K H1 r' nws→needOX ws g (.nd kk c d) R=some [(nws,g)]→2≤sizeLine∧∀ p,H1 p=none→1≤sizeLine∧∀ p',upd H1 p (HO.tup [.ref r',gv]) p'=none→Q (.ref p') (upd (upd H1 p (HO.tup [.ref r',gv])) p' (HO.lst [.ref p])):=fun H1 r' nws e1 fr hw hn=>⟨by decide,fun p hp=>⟨by decide,fun p' hp'=>q1 _ hn _ _ ((e1.trans (same_new hp _)).trans (same_new hp' _)) (ndsA_one e1 hw (hT.keep e1.keepT) hp hp' (.inr fr))⟩⟩
   have key:kk=.thn→sp_ifneedsX K [V.str x0,V.ref wa,gv,x,y,V.ref p] H Q E0:=fun z=>by subst z;exact⟨x0,R,wa,gv,x,y,.ref p,ws,g,c,d,rfl,hR,hW,hT,hx,hy,hO,hin,hok,gok,gp,hl,q0,q1⟩
   by_cases hp1:R=some .parts
   ·subst hp1
    obtain rfl:x0=Str.ofString "parts":=hR
    rw[if_pos rfl]
    cases kk with
    | both =>
     refine⟨scal_str _ _,?_⟩
     rw[if_pos (by rfl)]
     refine⟨by decide,fun p1 hp1=>?_⟩
     have s1:=same_new hp1 (HO.lst [x,y])
     refine chg _ s1 p1 [x,y] [c,d] upd_same (.cons (hx.keep s1.keepT) (.cons (hy.keep s1.keepT) .nil)) (fun t ht=>?_) (by show 2≤2;decide) _ fun r' H2 e2 fr hw=>fin H2 r' _ (s1.trans e2) fr hw rfl
     rcases List.mem_cons.mp ht with z | z
     ·rw[z];exact⟨ho.1.1,by omega⟩
     ·rw[List.mem_singleton.mp z];exact⟨ho.1.2,by omega⟩
    | one =>
     refine⟨scal_str _ _,?_⟩
     rw[if_neg (by decide),if_neg (by decide),if_neg (by decide)]
     refine⟨scal_str _ _,?_⟩
     rw[if_neg (by decide)]
     exact q0 rfl _ (Same.refl _)
    | thn =>
     refine⟨scal_str _ _,?_⟩
     rw[if_neg (by decide),if_neg (by decide),if_neg (by decide)]
     refine⟨scal_str _ _,?_⟩
     rw[if_pos (by rfl)]
     exact key rfl
   have np:¬ (x0=Str.ofString "parts"):=fun z=>by
    cases R with
    | none=>have:=bad_ne hR .parts;rw[show Rl.str .parts=Str.ofString "parts" from rfl] at this;rw[z] at this;exact this.mp rfl
    | some r=>rw[show x0=r.str from hR,rl_parts] at z;exact hp1 (by rw[z])
   rw[if_neg np,if_neg Bool.false_ne_true]
   by_cases hp2:R=some .cases
   ·subst hp2
    obtain rfl:x0=Str.ofString "cases":=hR
    rw[if_pos rfl]
    cases kk with
    | both =>
     refine⟨scal_str _ _,?_⟩
     rw[if_neg (by decide)]
     refine⟨scal_str _ _,?_⟩
     rw[if_neg (by decide)]
     exact q0 rfl _ (Same.refl _)
    | one =>
     refine⟨scal_str _ _,?_⟩
     rw[if_pos (by rfl)]
     refine⟨by decide,fun p1 hp1=>?_⟩
     have s1:=same_new hp1 (HO.lst [x])
     refine chg _ s1 p1 [x] [c] upd_same (.cons (hx.keep s1.keepT) .nil) (fun t ht=>by rw[List.mem_singleton.mp ht];exact⟨ho.1.1,by omega⟩) (by show 1≤2;decide) _ fun r' H2 e2 fr hw=>⟨by decide,fun p2 hp2=>⟨by decide,fun p3 hp3=>?_⟩⟩
     have S2:=s1.trans e2
     have s3:=same_new hp2 (HO.tup [V.ref r',gv])
     have s4:=same_new hp3 (HO.lst [y])
     have S4:=(S2.trans s3).trans s4
     refine chg _ S4 p3 [y] [d] upd_same (.cons (hy.keep S4.keepT) .nil) (fun t ht=>by rw[List.mem_singleton.mp ht];exact⟨ho.1.2,by omega⟩) (by show 1≤2;decide) _ fun r2 H3 e3 fr3 hw3=>⟨by decide,fun p5 hp5=>⟨by decide,fun p6 hp6=>?_⟩⟩
     have S:=S4.trans e3
     exact q1 _ rfl _ _ ((S.trans (same_new hp5 _)).trans (same_new hp6 _)) (ndsA_two S2 hw (hT.keep S2.keepT) hp2 (s4.trans e3) hw3 (hT.keep S.keepT) hp5 hp6 (.inr fr) (.inr fr3))
    | thn =>
     refine⟨scal_str _ _,?_⟩
     rw[if_neg (by decide)]
     refine⟨scal_str _ _,?_⟩
     rw[if_pos (by rfl)]
     exact key rfl
   have np:¬ (x0=Str.ofString "cases"):=fun z=>by
    cases R with
    | none=>have:=bad_ne hR .cases;rw[show Rl.str .cases=Str.ofString "cases" from rfl] at this;rw[z] at this;exact this.mp rfl
    | some r=>rw[show x0=r.str from hR,rl_cases] at z;exact hp2 (by rw[z])
   rw[if_neg np,if_neg Bool.false_ne_true]
   refine⟨scal_str _ _,?_⟩
   cases kk with
   | both =>
    rw[if_neg (by decide)]
    exact q0 (by cases R with | none=>rfl | some r=>cases r<;>first | rfl | exact absurd rfl hp1 | exact absurd rfl hp2) _ (Same.refl _)
   | one =>
    rw[if_neg (by decide)]
    exact q0 (by cases R with | none=>rfl | some r=>cases r<;>first | rfl | exact absurd rfl hp1 | exact absurd rfl hp2) _ (Same.refl _)
   | thn =>
    rw[if_pos (by rfl)]
    exact key rfl
end
theorem all_mk2 {l:PySem.W.OpenLaw} {w:World} {K:PySem.W.Frag} {h:Heap} {mg:Str→Option Value} {fa bm:Addr} (X:K.In h) (G:h.Ns mainGlobals mg) (hfa:mg "law"=some (.ref fa)) (E:Hd.obsK PySem.Challenge.pw_ken_k62_swapped ask K=Hd.valK PySem.Challenge.pw_ken_k62_swapped ask w.params) (hc:Hd.codesOk PySem.Challenge.pw_ken_k62_swapped tas K=true) (hblt:BltK K mg bm) (nT:∀ T∈Hd.tabs PySem.Challenge.pw_ken_k62_swapped tas K,bm≠T) :
  ∃ fd:FuncData,(∀ (s:Shared) (v:Value),BindsTo s fd ⟨[v],[]⟩ [("_law_script",v)])∧∀ base:Heap,K.In base→base.Ns mainGlobals mg→FnOk l.prog w K mg base CX0 116 fa fd ["_law_script"] (sp_law62 (Hd.tabAt K "placed") K):=by
 obtain⟨f_aj0,fd_aj0,m_aj0,F_aj0,k_aj0,b_aj0⟩:=(show Df K mg "_law_mix" s_aj0 ["_law_cell_here","_law_k"] from Hd.df2 X G E 21).ex
 obtain⟨f_aa0,fd_aa0,m_aa0,F_aa0,k_aa0,b_aa0⟩:=(show Df K mg "_law_cell" s_aa0 ["_law_script","_law_k"] from Hd.df2 X G E 22).ex
 obtain⟨f_ar0,fd_ar0,m_ar0,F_ar0,k_ar0,b_ar0⟩:=(show Df K mg "_law_words" s_ar0 ["_law_cell_here"] from Hd.df1 X G E 24).ex
 obtain⟨f_ao0,fd_ao0,m_ao0,F_ao0,k_ao0,b_ao0⟩:=(show Df K mg "_law_statement" s_ao0 ["_law_cell_here","_law_many","_law_words_here"] from Hd.df3 X G E 25).ex
 obtain⟨f_aq0,fd_aq0,m_aq0,F_aq0,k_aq0,b_aq0⟩:=(show Df K mg "_law_whole" s_aq0 ["_law_found"] from Hd.df1 X G E 23).ex
 obtain⟨f_am0,fd_am0,m_am0,F_am0,k_am0,b_am0⟩:=(show Df K mg "_law_parts" s_am0 ["_law_statement_here"] from Hd.df1 X G E 26).ex
 obtain⟨f_bh0,fd_bh0,m_bh0,F_bh0,k_bh0,b_bh0⟩:=(show Df K mg "within" s_bh0 ["statement"] from Hd.df1 X G E 2).ex
 obtain⟨f_bc0,fd_bc0,m_bc0,F_bc0,k_bc0,b_bc0⟩:=(show Df K mg "pieces" s_bc0 ["statement"] from Hd.df1 X G E 3).ex
 obtain⟨f_ay0,fd_ay0,m_ay0,F_ay0,k_ay0,b_ay0⟩:=(show Df K mg "folded" s_ay0 ["statement","of_simple","of_pair"] from Hd.df3 X G E 4).ex
 obtain⟨f_bf0,fd_bf0,m_bf0,F_bf0,k_bf0,b_bf0⟩:=(show Df K mg "spelled" s_bf0 ["statement"] from Hd.df1 X G E 5).ex
 obtain⟨f_bb0,fd_bb0,m_bb0,F_bb0,k_bb0,b_bb0⟩:=(show Df K mg "once" s_bb0 ["some"] from Hd.df1 X G E 7).ex
 obtain⟨f_aw0,fd_aw0,m_aw0,F_aw0,k_aw0,b_aw0⟩:=(show Df K mg "compared" s_aw0 ["one","other"] from Hd.df2 X G E 6).ex
 obtain⟨f_bd0,fd_bd0,m_bd0,F_bd0,k_bd0,b_bd0⟩:=(show Df K mg "place" s_bd0 ["wishes","statement"] from Hd.df2 X G E 9).ex
 obtain⟨f_ba0,fd_ba0,m_ba0,F_ba0,k_ba0,b_ba0⟩:=(show Df K mg "more" s_ba0 ["wishes","some"] from Hd.df2 X G E 10).ex
 obtain⟨f_ax0,fd_ax0,m_ax0,F_ax0,k_ax0,b_ax0⟩:=(show Df K mg "directed" s_ax0 ["statement"] from Hd.df1 X G E 13).ex
 obtain⟨f_au0,fd_au0,m_au0,F_au0,k_au0,b_au0⟩:=(show Df K mg "by_simple" s_au0 ["lines","ifs","before","after"] from Hd.df4 X G E 14).ex
 obtain⟨f_as0,fd_as0,m_as0,F_as0,k_as0,b_as0⟩:=(show Df K mg "by_both" s_as0 ["lines","ifs","first","second"] from Hd.df4 X G E 15).ex
 obtain⟨f_at0,fd_at0,m_at0,F_at0,k_at0,b_at0⟩:=(show Df K mg "by_one" s_at0 ["lines","ifs","first","second"] from Hd.df4 X G E 16).ex
 obtain⟨f_av0,fd_av0,m_av0,F_av0,k_av0,b_av0⟩:=(show Df K mg "by_then" s_av0 ["lines","ifs","first","second"] from Hd.df4 X G E 17).ex
 obtain⟨f_bg0,fd_bg0,m_bg0,F_bg0,k_bg0,b_bg0⟩:=(show Df K mg "swapped" s_bg0 ["statement","word","one","other"] from Hd.df4 X G E 19).ex
 obtain⟨f_al0,fd_al0,m_al0,F_al0,k_al0,b_al0⟩:=(show Df K mg "_law_once" s_al0 ["_law_some"] from Hd.df1 X G E 27).ex
 obtain⟨f_ab0,fd_ab0,m_ab0,F_ab0,k_ab0,b_ab0⟩:=(show Df K mg "_law_changed" s_ab0 ["_law_wishes","_law_on","_law_more"] from Hd.df3 X G E 28).ex
 obtain⟨f_ad0,fd_ad0,m_ad0,F_ad0,k_ad0,b_ad0⟩:=(show Df K mg "_law_goal_needs" s_ad0 ["_law_rule","_law_wishes","_law_goal"] from Hd.df3 X G E 29).ex
 obtain⟨f_af0,fd_af0,m_af0,F_af0,k_af0,b_af0⟩:=(show Df K mg "_law_if_needs" s_af0 ["_law_rule","_law_wishes","_law_goal","_law_one","_law_other","_law_on"] from Hd.df6 X G E 30).ex
 obtain⟨f_ak0,fd_ak0,m_ak0,F_ak0,k_ak0,b_ak0⟩:=(show Df K mg "_law_needs" s_ak0 ["_law_rule","_law_wishes","_law_goal","_law_on"] from Hd.df4 X G E 31).ex
 obtain⟨f_ac0,fd_ac0,m_ac0,F_ac0,k_ac0,b_ac0⟩:=(show Df K mg "_law_does" s_ac0 ["_law_line","_law_wishes","_law_need"] from Hd.df3 X G E 32).ex
 obtain⟨f_ae0,fd_ae0,m_ae0,F_ae0,k_ae0,b_ae0⟩:=(show Df K mg "_law_good" s_ae0 ["_law_lines_here","_law_k"] from Hd.df2 X G E 33).ex
 obtain⟨f_ag0,fd_ag0,m_ag0,F_ag0,k_ag0,b_ag0⟩:=(show Df K mg "_law_is_statement" s_ag0 ["_law_found"] from Hd.df1 X G E 34).ex
 obtain⟨f_ah0,fd_ah0,m_ah0,F_ah0,k_ah0,b_ah0⟩:=(show Df K mg "_law_line_form" s_ah0 ["_law_line"] from Hd.df1 X G E 35).ex
 obtain⟨f_ai0,fd_ai0,m_ai0,F_ai0,k_ai0,b_ai0⟩:=(show Df K mg "_law_lines" s_ai0 ["_law_found","_law_wishes","_law_goal"] from Hd.df3 X G E 36).ex
 obtain⟨f_an0,fd_an0,m_an0,F_an0,k_an0,b_an0⟩:=(show Df K mg "_law_placed" s_an0 ["_law_statement_here","_law_word","_law_other"] from Hd.df3 X G E 37).ex
 obtain⟨f_ap0,fd_ap0,m_ap0,F_ap0,k_ap0,b_ap0⟩:=(show Df K mg "_law_told" s_ap0 ["_law_statement_here","_law_word","_law_one","_law_other"] from Hd.df4 X G E 38).ex
 obtain⟨f_az0,oc_az0,od_az0,sl_az0,kV_az0,dc_az0,pm_az0,an_az0,cd_az0,ct_az0,a_az0,l_az0,c_az0,k_az0⟩:Hd.FnF K "law" s_az0:=Hd.fn_ofx (by kernel_rfl) (Hd.e_fn E (i:=39) (by decide))
 obtain⟨f_be0,fd_be0,a_be0,F_be0,F0_placed,v_placed,_,_⟩:Hd.FunTF K "placed" s_be0 (Hd.tabAt K "placed"):=Hd.funT_ofx (by kernel_rfl) (Hd.e_fn E (i:=12) (by decide)) (Hd.t_code hc (by decide))
 have m_be0:=PySem.W.mg_of X G a_be0
 have k_be0:=F0_placed.kp
 have b_be0:=F0_placed.binds (ps:=["statement","word","other"]) fun _ _ _ _ _ _ us hl=>match us,hl with | [_,_,_],_=>rfl
 have hB_placed:=fun h k=>hblt.at (nT _ (tm_placed K)) h k
 have a_as0:=Hd.nsx X G E 15 m_as0
 have a_at0:=Hd.nsx X G E 16 m_at0
 have a_av0:=Hd.nsx X G E 17 m_av0
 obtain⟨aPAIRED,g_PAIRED,t_PAIRED⟩:Hd.TupF K "PAIRED" ["both","one","then"]:=Hd.tup_ofx (by kernel_rfl) (by kernel_rfl) (by decide) (Hd.e_tup E (i:=1) (by decide))
 obtain⟨aDEEDS,g_DEEDS,D_DEEDS⟩:Hd.KfF K w "DEEDS" _:=Hd.kf_ofx (l:=[("both","by_both"),("one","by_one"),("then","by_then")]) [f_as0,f_at0,f_av0] (by kernel_rfl) (by kernel_rfl) (.cons a_as0 (.cons a_at0 (.cons a_av0 (.nil)))) (show (["both","one","then"]:List Str).Nodup by decide) (Hd.e_kf E (i:=18) (by decide))
 have m_len:=PySem.W.mg_none_of X G (n:="len") (Hd.e_bl E (.head _))
 have m_range:=PySem.W.mg_none_of X G (n:="range") (Hd.e_bl E (.tail _ (.head _)))
 have m_isinstance:=PySem.W.mg_none_of X G (n:="isinstance") (Hd.e_bl E (.tail _ (.tail _ (.head _))))
 have m_int:=PySem.W.mg_none_of X G (n:="int") (Hd.e_bl E (.tail _ (.tail _ (.tail _ (.head _)))))
 have m_bool:=PySem.W.mg_none_of X G (n:="bool") (Hd.e_bl E (.tail _ (.tail _ (.tail _ (.tail _ (.head _))))))
 have m_tuple:=PySem.W.mg_none_of X G (n:="tuple") (Hd.e_bl E (.tail _ (.tail _ (.tail _ (.tail _ (.tail _ (.head _)))))))
 have m_str:=PySem.W.mg_none_of X G (n:="str") (Hd.e_bl E (.tail _ (.tail _ (.tail _ (.tail _ (.tail _ (.tail _ (.head _))))))))
 have m_sorted:=PySem.W.mg_none_of X G (n:="sorted") (Hd.e_bl E (.tail _ (.tail _ (.tail _ (.tail _ (.tail _ (.tail _ (.tail _ (.head _)))))))))
 have m_list:=PySem.W.mg_none_of X G (n:="list") (Hd.e_bl E (.tail _ (.tail _ (.tail _ (.tail _ (.tail _ (.tail _ (.tail _ (.tail _ (.head _))))))))))
 have m_zip:=PySem.W.mg_none_of X G (n:="zip") (Hd.e_bl E (.tail _ (.tail _ (.tail _ (.tail _ (.tail _ (.tail _ (.tail _ (.tail _ (.tail _ (.head _)))))))))))
 have m_min:=PySem.W.mg_none_of X G (n:="min") (Hd.e_bl E (.tail _ (.tail _ (.tail _ (.tail _ (.tail _ (.tail _ (.tail _ (.tail _ (.tail _ (.tail _ (.head _))))))))))))
 have m_reversed:=PySem.W.mg_none_of X G (n:="reversed") (Hd.e_bl E (.tail _ (.tail _ (.tail _ (.tail _ (.tail _ (.tail _ (.tail _ (.tail _ (.tail _ (.tail _ (.tail _ (.head _)))))))))))))
 cases hfa.symm.trans (PySem.W.mg_of X G a_az0)
 have F_az0:=fun_mk (st:=s_az0) l_az0 c_az0 k_az0
 have m_PAIRED:=PySem.W.mg_of X G g_PAIRED
 have m_DEEDS:=PySem.W.mg_of X G g_DEEDS
 refine⟨PySem.W.fnOf "law" "law" (defArgs s_az0) (defBody s_az0) (defScope s_az0) .none kV_az0 dc_az0 pm_az0 an_az0 cd_az0 ct_az0,fun s v=>.of_eq rfl,fun base _ _=>?_⟩
 have G_aj0:=ok_aj0 (P:=l.prog) (w:=w) (mg:=mg) (base:=base) (k:=0) F_aj0
 have G_aa0:=ok_aa0 (P:=l.prog) (w:=w) (mg:=mg) (base:=base) (k:=1) F_aa0 (G_aj0.mono (by decide)) m_aj0 k_aj0 b_aj0 m_len
 have G_ar0:=ok_ar0 (P:=l.prog) (w:=w) (mg:=mg) (base:=base) (k:=1) F_ar0 (G_aj0.mono (by decide)) m_aj0 k_aj0 b_aj0 m_range
 have G_ao0:=all_ao0 (P:=l.prog) (w:=w) (mg:=mg) (base:=base) F_ao0 m_ao0 b_ao0 (fun k=>ok_aj0 F_aj0) m_aj0 k_aj0 b_aj0 m_len 32
 have G_aq0:=ok_aq0 (P:=l.prog) (w:=w) (mg:=mg) (base:=base) (k:=0) F_aq0 m_isinstance m_int m_bool
 have G_am0:=all_am0 (P:=l.prog) (w:=w) (mg:=mg) (base:=base) F_am0 m_am0 b_am0 m_len 27
 have G_bh0:=ok_bh0 (P:=l.prog) (w:=w) (mg:=mg) (base:=base) (k:=0) F_bh0 m_PAIRED t_PAIRED
 have G_bc0:=ok_bc0 (P:=l.prog) (w:=w) (mg:=mg) (base:=base) (k:=1) F_bc0 (G_bh0.mono (by decide)) m_bh0 k_bh0 b_bh0
 have G_be0:=ok_be0 (P:=l.prog) (w:=w) (mg:=mg) (base:=base) (j:=2) F_be0 hB_placed v_placed m_ay0 k_ay0 b_ay0 (fun K' base' J R B f1 f2 fd1 fd2 kle hJ hR G1 k1 b1 G2 k2 b2=>ok_foldedH (P:=l.prog) (w:=w) (K:=K') (mg:=mg) (base:=base') (k:=3) hJ hR (F_ay0.le kle) (FnOk.mono (ok_bc0 (P:=l.prog) (w:=w) (K:=K') (mg:=mg) (base:=base') (k:=1) (F_bc0.le kle) (ok_bh0 (P:=l.prog) (w:=w) (K:=K') (mg:=mg) (base:=base') (k:=0) (F_bh0.le kle) m_PAIRED (fun H=>(t_PAIRED H).le kle)) m_bh0 (F_bh0.le kle).kp (b_bh0.le kle)) (by decide)) m_bc0 (F_bc0.le kle).kp (b_bc0.le kle) m_PAIRED (fun H=>(t_PAIRED H).le kle) m_reversed G1 k1 b1 G2 k2 b2)
 have G_bf0:=ok_bf0 (P:=l.prog) (w:=w) (mg:=mg) (base:=base) (k:=2) F_bf0 (G_bc0.mono (by decide)) m_bc0 k_bc0 b_bc0 m_tuple m_isinstance m_str
 have G_bb0:=ok_bb0 (P:=l.prog) (w:=w) (mg:=mg) (base:=base) (k:=3) F_bb0 (G_bf0.mono (by decide)) m_bf0 k_bf0 b_bf0 m_sorted
 have G_aw0:=ok_aw0 (P:=l.prog) (w:=w) (mg:=mg) (base:=base) (k:=0) F_aw0 m_PAIRED t_PAIRED
 have G_bd0:=ok_bd0 (P:=l.prog) (w:=w) (mg:=mg) (base:=base) (k:=1) F_bd0 (G_aw0.mono (by decide)) m_aw0 k_aw0 b_aw0 m_len
 have G_ba0:=ok_ba0 (P:=l.prog) (w:=w) (mg:=mg) (base:=base) (k:=2) F_ba0 (G_bd0.mono (by decide)) m_bd0 k_bd0 b_bd0 (G_aw0.mono (by decide)) m_aw0 k_aw0 b_aw0 m_list m_len
 have G_ax0:=ok_ax0 (P:=l.prog) (w:=w) (mg:=mg) (base:=base) (k:=0) F_ax0 m_PAIRED t_PAIRED
 have G_au0:=ok_au0 (P:=l.prog) (w:=w) (mg:=mg) (base:=base) (k:=3) F_au0 (G_aw0.mono (by decide)) m_aw0 k_aw0 b_aw0 (G_ba0.mono (by decide)) m_ba0 k_ba0 b_ba0 m_len
 have G_as0:=ok_as0 (P:=l.prog) (w:=w) (mg:=mg) (base:=base) (k:=3) F_as0 (G_ba0.mono (by decide)) m_ba0 k_ba0 b_ba0 m_len
 have G_at0:=ok_at0 (P:=l.prog) (w:=w) (mg:=mg) (base:=base) (k:=3) F_at0 (G_ba0.mono (by decide)) m_ba0 k_ba0 b_ba0 m_len
 have G_av0:=ok_av0 (P:=l.prog) (w:=w) (mg:=mg) (base:=base) (k:=3) F_av0 (G_ba0.mono (by decide)) m_ba0 k_ba0 b_ba0 m_len
 have G_bg0:=ok_bg0 (P:=l.prog) (w:=w) (mg:=mg) (base:=base) (k:=5) (fK:=(fun r=>match r with | .both=>f_as0 | .one=>f_at0 | .thn=>f_av0)) (fdK:=(fun r=>match r with | .both=>fd_as0 | .one=>fd_at0 | .thn=>fd_av0)) F_bg0 (G_bb0.mono (by decide)) m_bb0 k_bb0 b_bb0 (G_ax0.mono (by decide)) m_ax0 k_ax0 b_ax0 (G_be0.mono (by decide)) m_be0 k_be0 b_be0 (G_au0.mono (by decide)) m_au0 k_au0 b_au0 m_PAIRED t_PAIRED m_DEEDS D_DEEDS (fun r=>match r with | .both=>G_as0.mono (by decide) | .one=>G_at0.mono (by decide) | .thn=>G_av0.mono (by decide)) (fun r=>match r with | .both=>k_as0 | .one=>k_at0 | .thn=>k_av0) (fun r=>match r with | .both=>b_as0 | .one=>b_at0 | .thn=>b_av0) m_reversed
 have G_al0:=ok_al0 (P:=l.prog) (w:=w) (mg:=mg) (base:=base) (k:=0) F_al0 m_sorted
 have G_ab0:=ok_ab0 (P:=l.prog) (w:=w) (mg:=mg) (base:=base) (k:=1) F_ab0 (G_al0.mono (by decide)) m_al0 k_al0 b_al0
 have G_ad0:=ok_ad0 (P:=l.prog) (w:=w) (mg:=mg) (base:=base) (k:=1) F_ad0 (G_al0.mono (by decide)) m_al0 k_al0 b_al0 m_int
 have G_af0:=ok_af0 (P:=l.prog) (w:=w) (mg:=mg) (base:=base) (k:=2) F_af0 (G_al0.mono (by decide)) m_al0 k_al0 b_al0 (G_ab0.mono (by decide)) m_ab0 k_ab0 b_ab0
 have G_ak0:=ok_ak0 (P:=l.prog) (w:=w) (mg:=mg) (base:=base) (k:=3) F_ak0 (G_ad0.mono (by decide)) m_ad0 k_ad0 b_ad0 (G_ab0.mono (by decide)) m_ab0 k_ab0 b_ab0 (G_af0.mono (by decide)) m_af0 k_af0 b_af0 m_len
 have G_ac0:=ok_ac0 (P:=l.prog) (w:=w) (mg:=mg) (base:=base) (k:=0) F_ac0
 have G_ae0:=ok_ae0 (P:=l.prog) (w:=w) (mg:=mg) (base:=base) (k:=4) F_ae0 (G_al0.mono (by decide)) m_al0 k_al0 b_al0 (G_ak0.mono (by decide)) m_ak0 k_ak0 b_ak0 (G_ac0.mono (by decide)) m_ac0 k_ac0 b_ac0 m_len m_zip
 have G_ag0:=all_ag0 (P:=l.prog) (w:=w) (mg:=mg) (base:=base) F_ag0 m_ag0 b_ag0 m_isinstance m_tuple m_str m_len 111
 have G_ah0:=ok_ah0 (P:=l.prog) (w:=w) (mg:=mg) (base:=base) (k:=112) F_ah0 (G_ag0.mono (by decide)) m_ag0 k_ag0 b_ag0 (G_aq0.mono (by decide)) m_aq0 k_aq0 b_aq0 m_isinstance m_tuple m_str m_list m_len
 have G_ai0:=ok_ai0 (P:=l.prog) (w:=w) (mg:=mg) (base:=base) (k:=113) F_ai0 (G_ah0.mono (by decide)) m_ah0 k_ah0 b_ah0 (G_ae0.mono (by decide)) m_ae0 k_ae0 b_ae0 m_isinstance m_list m_len m_range
 have G_an0:=all_an0 (P:=l.prog) (w:=w) (mg:=mg) (base:=base) F_an0 m_an0 b_an0 m_len 27
 have G_ap0:=ok_ap0 (P:=l.prog) (w:=w) (mg:=mg) (base:=base) (k:=114) F_ap0 (G_bg0.mono (by decide)) m_bg0 k_bg0 b_bg0 (G_an0.mono (by decide)) m_an0 k_an0 b_an0 (G_al0.mono (by decide)) m_al0 k_al0 b_al0 (G_ai0.mono (by decide)) m_ai0 k_ai0 b_ai0 (G_am0.mono (by decide)) m_am0 k_am0 b_am0 m_len m_list
 have G_az0:=ok_az0 (P:=l.prog) (w:=w) (mg:=mg) (base:=base) (k:=115) F_az0 (G_ar0.mono (by decide)) m_ar0 k_ar0 b_ar0 (G_ao0.mono (by decide)) m_ao0 k_ao0 b_ao0 (G_aa0.mono (by decide)) m_aa0 k_aa0 b_aa0 (G_aj0.mono (by decide)) m_aj0 k_aj0 b_aj0 (G_am0.mono (by decide)) m_am0 k_am0 b_am0 (G_ap0.mono (by decide)) m_ap0 k_ap0 b_ap0 m_range m_min m_len
 exact G_az0
noncomputable def dLaw:PySem.DefRec:=⟨"law",defArgs s_az0,defBody s_az0,defScope s_az0,Hd.posOf s_az0⟩
theorem wlk:PySem.W.WalkO q loose (PySem.W.XL q []) (Hd.hook5 PySem.Challenge.pw_ken_k62_swapped ask tas).says (PySem.Challenge.rw_ken_k62_swapped).row.toRowW dLaw [] (fun f vs=>PySem.call f vs) :=
 Hd.walkH5 (l:=PySem.Challenge.rw_ken_k62_swapped) (n:=63) (k:=116) (x:="_law_script") (CX:=CX0) (sp:=fun K ts=>sp_law62 (ts.getD 0 0) K) rfl (by decide) rfl ⟨rfl,by decide,by decide⟩ (by decide) (fun w mg fa h K bm KX G hmg E hc hb nT=>by
   rw[tb_placed]
   exact all_mk2 KX G hmg E hc hb nT)
  (fun K ts H a ns hl hn hO hS=>by
   have hn:ts.length=1:=hn
   match ts,hn,hO with
   | [T_placed],_,hO=>exact⟨a,ns,rfl,hS,hl,TabOk.new (hO T_placed (by simp)),fun _=>rfl⟩) fun _ _ _ _ z=>z
end KLaw
open PySem PySem.W PyProof.Rows
set_option maxRecDepth 100000 in
set_option maxHeartbeats 0 in
theorem PySem.Challenge.cw_ken_k62_swapped_holds : PySem.Challenge.rw_ken_k62_swapped.Holds := by
 refine PySem.W.holds_law (by decide +kernel) fun said=>PySem.W.holds_open (q:=KLaw.q) (loose:=KLaw.loose) (XP:=XL KLaw.q []) (d:=KLaw.dLaw) (kwd:=[]) (YP:=(Hd.hook5 PySem.Challenge.pw_ken_k62_swapped KLaw.ask KLaw.tas).says)
  KLaw.lft (Hd.hook5 PySem.Challenge.pw_ken_k62_swapped KLaw.ask KLaw.tas).of (Hd.hook5 PySem.Challenge.pw_ken_k62_swapped KLaw.ask KLaw.tas).keeps
  (fun s e=>xl_of s (Bool.and_eq_true_iff.mp e).1) XL.keeps (by kernel_rfl) (by kernel_rfl) rfl (fun s e=>recFacts_of (Bool.and_eq_true_iff.mp e).2)
  rfl said (by decide +kernel) ⟨rfl,rfl,rfl,rfl,rfl,by decide +kernel⟩ ?hw ?hc
 (case hw=>w_witness2)
 exact KLaw.wlk
