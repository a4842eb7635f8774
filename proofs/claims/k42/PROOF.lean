import PyProof.Rows.All
import Wide.All
import OpenK.AllK
import Wide.FinOn
import Lean
import PyProof.EqAt
import PyProof.EqKinds
import PyProof.TupleCall
import PyProof.NeData
import PyProof.P3In
import PyProof.ZipIter
import PyProof.Rows.ZipGen
import KE.KRevIter
import PyProof.CollectIter
import PyProof.ListRange
import PyProof.EnumMake
import PyProof.EnumFor
import PyProof.EnumStmt
import PyProof.Rows.SortStr
import KE.KDictList
import KE.KSortTup
import KE.KSortAsk
import PyProof.SumAny
import PyProof.WalksMore
import KE.KTupSum
import PyProof.FactsAll.set
import PyProof.Rows.SetFrom
import PyProof.InstStoreFacts
import PyProof.Rows.Range3
import PyProof.FactsAll.tuple_2
import PyProof.Rows.SeqMore2
import PyProof.Rows.SortShell
import PyProof.Draws
import KE.KxText
import PyProof.SeqI3
import PyProof.Rows.CallKwBuiltin
import PySem.Challenge.RW_ken_k42_no_kind
set_option maxRecDepth 100000 in
set_option maxHeartbeats 0 in
theorem ws0:PySem.Challenge.rw_ken_k42_no_kind.wellSaid=true:=by decide +kernel
local macro_rules | `(tactic| walk_at "o")=>`(tactic| first | lia | omega)
set_option Elab.async false
set_option linter.all false
set_option maxRecDepth 100000
namespace L2
open PySem PySem.Spec PyProof.Rows
noncomputable abbrev Key:=Sum Int Str
noncomputable def Yp2:Key→Value→Bool
 | .inl k,v=>Value.isInt k v
 | .inr x,v=>Value.isStrOf x v
noncomputable def keyH (w:World):Key→Int
 | .inl k=>hashInt k
 | .inr x=>hashStr w x
theorem Ze5:∀ {k:Key} {v:Value},Yp2 k v=true→(∃ i t,k=Sum.inl i∧v=Value.int i t)∨(∃ x t,k=Sum.inr x∧v=Value.str x t)
 | .inl i,v,h=>by
  obtain⟨t,e⟩:=Value.isInt_shape (k:=i) (v:=v) h;exact .inl ⟨i,t,rfl,e⟩
 | .inr x,v,h=>by
  obtain⟨t,e⟩:=Value.isStrOf_shape (x:=x) (v:=v) h;exact .inr ⟨x,t,rfl,e⟩
theorem Yv5 (i:Int) (t:Tok):Yp2 (.inl i) (.int i t)=true:=by simp[Yp2,Value.isInt]
theorem Yv4 (x:Str) (t:Tok):Yp2 (.inr x) (.str x t)=true:=by simp[Yp2,Value.isStrOf]
theorem Xw9 (a b:Int):decide ((Sum.inl a:Key)=Sum.inl b)=(a == b):=by
 by_cases e:a=b
 ·subst e;simp
 ·have h:¬ (Sum.inl a:Key)=Sum.inl b:=fun q=>e (Sum.inl.inj q)
  rw[decide_eq_false h];exact (beq_eq_false_iff_ne.mpr e).symm
theorem Xw6 (a b:Str):decide ((Sum.inr a:Key)=Sum.inr b)=decide (a=b):=by
 by_cases e:a=b
 ·subst e;simp
 ·have h:¬ (Sum.inr a:Key)=Sum.inr b:=fun q=>e (Sum.inr.inj q)
  rw[decide_eq_false h,decide_eq_false e]
theorem Xw8 (a:Int) (b:Str):decide ((Sum.inl a:Key)=Sum.inr b)=false:=decide_eq_false (fun q=>nomatch q)
theorem Xw7 (a:Str) (b:Int):decide ((Sum.inr a:Key)=Sum.inl b)=false:=decide_eq_false (fun q=>nomatch q)
noncomputable def Ze3 (prog:Program) (w:World):PySem.KeyKind prog w Key where
  is:=Yp2
  hash:=keyH w
  inj:=fun v a b ha hb=>by
    rcases Ze5 ha with ⟨i,t,rfl,rfl⟩ | ⟨x,t,rfl,rfl⟩
    · rcases Ze5 hb with ⟨j,u,rfl,e⟩ | ⟨y,u,rfl,e⟩
      · injection e with e1 _;rw[e1]
      · exact nomatch e
    · rcases Ze5 hb with ⟨j,u,rfl,e⟩ | ⟨y,u,rfl,e⟩
      · exact nomatch e
      · injection e with e1 _;rw[e1]
  byValue:=fun k v h=>by
    rcases Ze5 h with ⟨i,t,rfl,rfl⟩ | ⟨x,t,rfl,rfl⟩<;>rfl
  pyHash:=fun hv h=>by
    rcases Ze5 hv with ⟨i,t,rfl,rfl⟩ | ⟨x,t,rfl,rfl⟩
    · exact wpAny_pyHash_int h
    · exact wpAny_pyHash_str h
  eqBool:=fun hu hv h=>by
    rcases Ze5 hu with ⟨i,t,rfl,rfl⟩ | ⟨x,t,rfl,rfl⟩
    · rcases Ze5 hv with ⟨j,u,rfl,rfl⟩ | ⟨y,u,rfl,rfl⟩
      · rw[Xw9] at h;exact wpAny_eqBool_int h
      · rw[Xw8] at h;exact SeqAt.EqAt.int_str i t y u _ _ _ _ h
    · rcases Ze5 hv with ⟨j,u,rfl,rfl⟩ | ⟨y,u,rfl,rfl⟩
      · rw[Xw7] at h;exact SeqAt.EqAt.str_int x t j u _ _ _ _ h
      · rw[Xw6] at h;exact wpAny_eqBool_str h
  «strs»:=fun k x t v h=>by
    rcases Ze5 h with ⟨i,u,rfl,e⟩ | ⟨y,u,rfl,e⟩
    · exact nomatch e
    · injection e with e1 _
      subst e1
      cases v<;>rfl
theorem Yi6 (prog:Program) (w:World) (i:Int) (t:Tok):(Ze3 prog w).is (.inl i) (.int i t)=true:=Yv5 i t
theorem Zu2 (prog:Program) (w:World) (x:Str) (t:Tok):(Ze3 prog w).is (.inr x) (.str x t)=true:=Yv4 x t
inductive V where
 | non | bl (b:Bool) | int (i:Int) | str (x:Str) | byt (b:Array UInt8) | flt (b:UInt64) | ref (a:Addr) | ty (n:String)
 deriving DecidableEq
def RelV:V→Value→Prop
 | .non,u=>u=Value.none
 | .bl b,u=>u=Value.bool b
 | .int i,u=>∃ t,u=Value.int i t
 | .str x,u=>∃ t,u=Value.str x t
 | .byt b,u=>∃ t,u=Value.bytes b t
 | .flt b,u=>∃ t,u=Value.float b t
 | .ref a,u=>u=Value.ref a
 | .ty n,u=>u=Value.type n
abbrev Vals:List V→List Value→Prop:=Paired RelV
theorem Vals.length {xs:List V} {us:List Value} (r:Vals xs us):xs.length=us.length:=Paired.length r
theorem Vals.get:∀ {xs:List V} {us:List Value} {i:Nat} {x:V},Vals xs us→xs[i]?=some x→∃ u,us[i]?=some u∧RelV x u
 | _,_,_,_,.nil,e=>by simp at e
 | _,_,0,_,.cons r _,e=>by simp at e;subst e;exact⟨_,rfl,r⟩
 | _,_,i+1,x,.cons _ t,e=>by
  obtain⟨u,h1,h2⟩:=Vals.get (i:=i) (x:=x) t (by simpa using e);exact⟨u,by simpa using h1,h2⟩
theorem Vals.append:∀ {xs ys:List V} {us ws:List Value},Vals xs us→Vals ys ws→Vals (xs++ys) (us++ws)
 | _,_,_,_,.nil,s=>s
 | _,_,_,_,.cons r t,s=>.cons r (Vals.append t s)
theorem Vals.take:∀ {xs:List V} {us:List Value} (n:Nat),Vals xs us→Vals (xs.take n) (us.take n)
 | _,_,0,_=>.nil
 | _,_,_+1,.nil=>.nil
 | _,_,n+1,.cons r t=>.cons r (Vals.take n t)
theorem Vals.drop:∀ {xs:List V} {us:List Value} (n:Nat),Vals xs us→Vals (xs.drop n) (us.drop n)
 | _,_,0,r=>r
 | _,_,_+1,.nil=>.nil
 | _,_,n+1,.cons _ t=>Vals.drop n t
def RelO:Option V→Option Value→Prop
 | some v,some u=>RelV v u
 | none,none=>True
 | _,_=>False
def KV {κ:Type}:List (κ×V)→List (κ×Value)→Prop:=Paired fun (p:κ×V) (q:κ×Value)=>p.1=q.1∧RelV p.2 q.2
noncomputable def kV:Key→V
 | .inl i=>.int i
 | .inr x=>.str x
inductive HO where
 | lst (xs:List V)
 | tup (xs:List V)
 | dK (kvs:List (Key×V)) | dT (kvs:List (List Key×V))
 | set (S:Int→Bool) (n:Nat)
 | ins (C dx:Addr) (fs:List (Str×V))
 | own (x:Addr)
 | xd (fs:List (Str×V))
 | met (f x:Addr)
 | rng (lo hi:Int)
 | frz (o:Obj) (u:HO)
 | tbl (ps:Array Value)
 | ext (φ:Heap→Prop)
noncomputable abbrev Hp:=Addr→Option HO
noncomputable def upd (H:Hp) (a:Addr) (o:HO):Hp:=fun b=>if b=a then some o else H b
theorem Za4 {H:Hp} {a:Addr} {o:HO}:upd H a o a=some o:=by unfold upd;rw[if_pos rfl]
theorem Zb0 {H:Hp} {a b:Addr} {o:HO} (h:b≠a):upd H a o b=H b:=by unfold upd;rw[if_neg h]
theorem Zx7 {H:Hp} {a:Addr} {o u:HO}:upd (upd H a o) a u=upd H a u:=by
 funext b;unfold upd;split<;>rfl
theorem Xj5 {H:Hp} {a b:Addr} {o u:HO} (h:H a=some o) (h':H b=some u) (d:o≠u):a≠b:=by
 intro e;subst e;rw[h] at h';exact d (Option.some.inj h')
theorem Zb6 {H:Hp} {a b:Addr} {o:HO} (h:H a=some o) (h':H b=none):a≠b:=by
 intro e;subst e;rw[h] at h';cases h'
section
variable (P:Program) (w:World)
def ObjOk (H:Hp) (h:Heap) (a:Addr):HO→Prop
 | .lst xs=>xs.length≤sizeLine∧∃ (its:List Value) (n:Nat),Vals xs its∧h.get? a=some { cls:=.type "list",data:=.seq its.toArray n }
 | .tup xs=>xs.length≤sizeLine∧∃ its:List Value,Vals xs its∧IsTup h a its.toArray
 | .dK kvs=>kvs.length≤sizeLine∧(a == sysModules)=false∧∃ vs,KV kvs vs∧h.DictOf (Ze3 P w) a vs
 | .dT kvs=>kvs.length≤sizeLine∧(a == sysModules)=false∧∃ xs:List (List Key×Addr×Value),
   Paired (fun (p:List Key×V) (q:List Key×Addr×Value)=>p.1=q.1∧H q.2.1=some (.tup (p.1.map kV))∧RelV p.2 q.2.2) kvs xs ∧
   ∃ o es ep,h.get? a=some o∧o.ExactDict∧o.data=.dict es ep∧es.toList=xs.map (entryOfKey (tupleKind (Ze3 P w)))∧(xs.map (·.1)).Nodup
 | .set S n=>h.SetOf (intKind P w) a S n
 | .ins C dx fs=>H dx=some (.own a)∧fs.length≤1000∧dx≠a∧h.get? a=some (W.instObj C dx) ∧
   ∃ mA,h.Ns1 dx mA∧(∀ f,RelO (fs.lookup f) (mA f))∧PySem.Within mA (fs.map (·.1))
 | .own _=>∃ o,h.get? a=some o
 | .xd fs=>∃ mA,h.Ns1 a mA∧∀ f,RelO (fs.lookup f) (mA f)
 | .rng lo hi=>∃ t u v,h.get? a=some { cls:=.type "range",data:=.fields #[.int lo t,.int hi u,.int 1 v] }
 | .frz o u=>h.get? a=some o∧ObjOk H h a u
 | .tbl ps=>h.get? a=some { cls:=.none,data:=.fields ps }
 | .met f x=>h.get? a=some (W.methodObj (.ref f) (.ref x))
 | .ext φ=>φ h∧(∃ o,h.get? a=some o)∧∀ h1 h2:Heap,φ h1→(∀ o,h1.get? a=some o→h2.get? a=some o)→φ h2
def HOk (H:Hp) (h:Heap):Prop:=∀ a o,H a=some o→ObjOk P w H h a o
end
section
variable {P:Program} {w:World} {H H':Hp} {h h':Heap} {a:Addr} {o:HO}
theorem ObjOk.lt (x:ObjOk P w H h a o):a < h.objs.size:=by
 cases o with
 | lst xs=>obtain⟨_,_,_,_,e⟩:=x;exact Heap.lt_size e
 | tup xs=>obtain⟨_,_,_,p⟩:=x;exact p.lt
 | dK kvs=>obtain⟨_,_,_,_,o,_,_,e,_⟩:=x;exact Heap.lt_size e
 | dT kvs=>obtain⟨_,_,_,_,o,_,_,e,_⟩:=x;exact Heap.lt_size e
 | set S n=>obtain⟨o,_,_,_,e,_⟩:=x;exact Heap.lt_size e
 | ins C dx fs=>obtain⟨_,_,_,e,_⟩:=x;exact Heap.lt_size e
 | own y=>obtain⟨_,e⟩:=x;exact Heap.lt_size e
 | xd fs=>obtain⟨_,⟨_,_,_,e,_⟩,_⟩:=x;exact Heap.lt_size e
 | rng lo hi=>obtain⟨_,_,_,e⟩:=x;exact Heap.lt_size e
 | frz ob u=>obtain⟨e,_⟩:=x;exact Heap.lt_size e
 | tbl ps=>exact Heap.lt_size (show h.get? a=some _ from x)
 | met f y=>exact Heap.lt_size (show h.get? a=some _ from x)
 | ext φ=>obtain⟨_,⟨_,e⟩,_⟩:=x;exact Heap.lt_size e
theorem Paired.mapP {α β:Type} {F G:α→β→Prop}:∀ {l₁:List α} {l₂:List β},Paired F l₁ l₂→(∀ a b,F a b→G a b)→Paired G l₁ l₂
 | _,_,.nil,_=>.nil
 | _,_,.cons r t,f=>.cons (f _ _ r) (Paired.mapP t f)
theorem ObjOk.stay (x:ObjOk P w H h a o) (k:∀ b u,(b=a∨H b=some (.own a))→h.get? b=some u→h'.get? b=some u)
  (ho:∀ b,H b=some (.own a)→H' b=some (.own a)) (ht:∀ b xs,H b=some (.tup xs)→H' b=some (.tup xs)):ObjOk P w H' h' a o:=by
 induction o with
 | lst xs=>obtain⟨z,its,n,r,e⟩:=x;exact⟨z,its,n,r,k _ _ (.inl rfl) e⟩
 | tup xs=>obtain⟨z,its,r,ob,e,c⟩:=x;exact⟨z,its,r,ob,k _ _ (.inl rfl) e,c⟩
 | dK kvs=>obtain⟨z,y,vs,r,ob,es,ep,e,c⟩:=x;exact⟨z,y,vs,r,ob,es,ep,k _ _ (.inl rfl) e,c⟩
 | dT kvs =>
  obtain⟨z,y,xs,r,ob,es,ep,e,c⟩:=x;exact⟨z,y,xs,Paired.mapP r fun p q z=>⟨z.1,ht _ _ z.2.1,z.2.2⟩,ob,es,ep,k _ _ (.inl rfl) e,c⟩
 | set S n=>obtain⟨ob,es,ep,t,e,c⟩:=x;exact⟨ob,es,ep,t,k _ _ (.inl rfl) e,c⟩
 | ins C dx fs =>
  obtain⟨d,z,ne,e,mA,⟨od,es,ep,e2,c⟩,r⟩:=x;exact⟨ho _ d,z,ne,k _ _ (.inl rfl) e,mA,⟨od,es,ep,k _ _ (.inr d) e2,c⟩,r⟩
 | own y=>obtain⟨ob,e⟩:=x;exact⟨ob,k _ _ (.inl rfl) e⟩
 | xd fs=>obtain⟨mA,⟨od,es,ep,e,c⟩,r⟩:=x;exact⟨mA,⟨od,es,ep,k _ _ (.inl rfl) e,c⟩,r⟩
 | rng lo hi=>obtain⟨t,u,v,e⟩:=x;exact⟨t,u,v,k _ _ (.inl rfl) e⟩
 | frz ob u ih=>obtain⟨e,q⟩:=x;exact⟨k _ _ (.inl rfl) e,ih q⟩
 | tbl ps =>
  have e:h.get? a=some { cls:=.none,data:=.fields ps }:=x;show h'.get? a=some { cls:=.none,data:=.fields ps };exact k a _ (.inl rfl) e
 | met f y =>
  have e:h.get? a=some (W.methodObj (.ref f) (.ref y)):=x;show h'.get? a=some (W.methodObj (.ref f) (.ref y));exact k a _ (.inl rfl) e
 | ext φ=>obtain⟨p,⟨o,e⟩,st⟩:=x;exact⟨st _ _ p fun o q=>k _ _ (.inl rfl) q,⟨o,k _ _ (.inl rfl) e⟩,st⟩
theorem HOk.lt (x:HOk P w H h) (e:H a=some o):a < h.objs.size:=(x a o e).lt
theorem HOk.fresh (x:HOk P w H h) (e:h.objs.size≤a):H a=none:=by
 cases q:H a with
 | none=>rfl
 | some u=>exact absurd (Nat.lt_of_lt_of_le (x.lt q) e) (Nat.lt_irrefl _)
theorem HOk.kept (x:HOk P w H h) (k:∀ b u,h.get? b=some u→h'.get? b=some u):HOk P w H h':=fun a o e =>
 (x a o e).stay (fun b u _ q=>k b u q) (fun _ q=>q) fun _ _ q=>q
theorem HOk.laid (x:HOk P w H h) (k:∀ b u,h.get? b=some u→h'.get? b=some u) (hp:h.objs.size≤a) (new:ObjOk P w (upd H a o) h' a o):HOk P w (upd H a o) h':=fun b u e=>by
 have hn:=x.fresh hp
 by_cases hb:b=a
 ·subst hb;rw[Za4] at e;cases e;exact new
 ·rw[Zb0 hb] at e
  exact (x b u e).stay (fun c v _ q=>k c v q) (fun c q=>by rw[Zb0 (Zb6 q hn)];exact q) fun c xs q=>by rw[Zb0 (Zb6 q hn)];exact q
end
def Rd (H:Hp) (a:Addr) (u:HO):Prop:=H a=some u∨∃ o,H a=some (.frz o u)
theorem Rd.ok {P:Program} {w:World} {H:Hp} {h:Heap} {a:Addr} {u:HO} (r:Rd H a u) (x:HOk P w H h):ObjOk P w H h a u:=by
 rcases r with r | ⟨o,r⟩
 ·exact x a u r
 ·obtain⟨_,q⟩:=x a _ r
  exact q
def Mut:Option HO→Prop
 | some (.lst _)=>True
 | some (.dK _)=>True
 | some (.dT _)=>True
 | some (.set _ _)=>True
 | some (.ins _ _ _)=>True
 | some (.ext _)=>True
 | _=>False
section
variable {P:Program} {w:World} {H:Hp} {h h':Heap} {x e:Addr} {o':HO}
theorem HOk.write (ok:HOk P w H h) (mu:Mut (H x)) (he:e=x∨H e=some (.own x)) (k:∀ b u,b≠e→h.get? b=some u→h'.get? b=some u) (heo:∃ u,h'.get? e=some u)
  (new:ObjOk P w (upd H x o') h' x o'):HOk P w (upd H x o') h':=fun b u q=>by
 have nown:∀ c y,H c=some (.own y)→c≠x:=fun c y r z=>by subst z;rw[r] at mu;exact mu
 have ntup:∀ c xs,H c=some (.tup xs)→c≠x:=fun c xs r z=>by subst z;rw[r] at mu;exact mu
 by_cases hb:b=x
 ·subst hb;rw[Za4] at q;cases q;exact new
 ·rw[Zb0 hb] at q
  by_cases hbe:b=e
  ·have q':H b=some (.own x):=by
    rcases he with z | z
    ·exact absurd (hbe.trans z) hb
    ·rw[hbe];exact z
   rw[q] at q';cases q';obtain⟨v,hv⟩:=heo;exact⟨v,by rw[hbe];exact hv⟩
  ·refine (ok b u q).stay (fun c v hc r=>k c v ?_ r) (fun c r=>by rw[Zb0 (nown c b r)];exact r) fun c xs r=>by rw[Zb0 (ntup c xs r)];exact r
   rcases hc with rfl | hc
   ·exact hbe
   ·rintro rfl
    rcases he with z | z
    ·exact nown c b hc z
    ·rw[hc] at z;cases z;exact hb rfl
end
structure Un (fs ex:List Addr) (H H':Hp) (h h':Heap):Prop where
 keep:∀ b o,h.get? b=some o→H b=none→b ∉ fs→b ∉ ex→h'.get? b=some o
 slot:∀ b o,h.get? b=some o→H b=none→b∈fs→b ∉ ex→∃ sl,h'.get? b=some { o with slots:=sl }
 free:∀ b o,h.get? b=some o→H b=none→b ∉ ex→H' b=none
 there:∀ b o,h.get? b=some o→b ∉ ex→∃ o',h'.get? b=some o'
 tups:∀ b xs,H b=some (.tup xs)→H' b=some (.tup xs)
 frzs:∀ b o u,H b=some (.frz o u)→H' b=some (.frz o u)
 tbls:∀ b ps,H b=some (.tbl ps)→∃ more,H' b=some (.tbl (ps++more))
section
variable {fs fs' ex ex':List Addr} {H H1 H2:Hp} {h h1 h2 h':Heap} {a x e:Addr} {o:HO}
theorem Un.any (u:Un fs ex H H1 h h1) {b:Addr} {ob:Obj} (q:h.get? b=some ob) (n:H b=none) (hx:b ∉ ex):∃ sl,h1.get? b=some { ob with slots:=sl }:=by
 by_cases hb:b∈fs
 ·exact u.slot b ob q n hb hx
 ·exact⟨ob.slots,u.keep b ob q n hb hx⟩
theorem Un.kept (k:∀ b u,h.get? b=some u→h'.get? b=some u):Un fs ex H H h h' :=
 ⟨fun b ob q _ _ _=>k b ob q,fun b ob q _ _ _=>⟨ob.slots,k b ob q⟩,fun _ _ _ n _=>n,fun b ob q _=>⟨ob,k b ob q⟩,fun _ _ q=>q,fun _ _ _ q=>q,fun _ ps q=>⟨#[],by rw[q];simp⟩⟩
theorem Un.refl:Un fs ex H H h h:=Un.kept fun _ _ q=>q
theorem Un.laid (k:∀ b u,h.get? b=some u→h'.get? b=some u) (hp:h.objs.size≤a) (hn:H a=none):Un fs ex H (upd H a o) h h' where
 keep:=fun b u q _ _ _=>k b u q
 slot:=fun b u q _ _ _=>⟨u.slots,k b u q⟩
 free:=fun b u q n _=>by rw[Zb0 (Nat.ne_of_lt (Nat.lt_of_lt_of_le (Heap.lt_size q) hp))];exact n
 there:=fun b u q _=>⟨u,k b u q⟩
 tups:=fun b xs q=>by rw[Zb0 (Zb6 q hn)];exact q
 frzs:=fun b u xs q=>by rw[Zb0 (Zb6 q hn)];exact q
 tbls:=fun b ps q=>⟨#[],by rw[Zb0 (Zb6 q hn),q];simp⟩
theorem Un.write (mu:Mut (H x)) (he:e=x∨H e=some (.own x)) (k:∀ b u,b≠e→h.get? b=some u→h'.get? b=some u) (heo:∃ u,h'.get? e=some u):Un fs ex H (upd H x o) h h':=by
 have hx:∀ b,H b=none→b≠x:=fun b n z=>by subst z;rw[n] at mu;exact mu
 have hb:∀ b,H b=none→b≠e:=fun b n z=>by
  subst z;rcases he with r | r
  ·exact hx b n r
  ·rw[n] at r;cases r
 have hm:∀ b u,H b=some u→¬ Mut (some u)→b≠x:=fun b u q nm z=>by subst z;rw[q] at mu;exact nm mu
 refine⟨fun b u q n _ _=>k b u (hb b n) q,fun b u q n _ _=>⟨u.slots,k b u (hb b n) q⟩,fun b u q n _=>by rw[Zb0 (hx b n)];exact n,fun b u q _=>?_,
  fun b xs q=>by rw[Zb0 (hm b _ q fun z=>z)];exact q,fun b u xs q=>by rw[Zb0 (hm b _ q fun z=>z)];exact q,fun b ps q=>⟨#[],by rw[Zb0 (hm b _ q fun z=>z),q];simp⟩⟩
 by_cases hbe:b=e
 ·subst hbe;exact heo
 ·exact⟨u,k b u hbe q⟩
end
noncomputable def trk (h:Heap) (H:Hp):List Addr:=(List.range h.objs.size).filter fun a=>(H a).isSome
noncomputable def hidT (h:Heap) (H:Hp):Heap:=W.hideAll h (trk h H)
theorem Yw3 (h:Heap) (H:Hp):(hidT h H).objs.size=h.objs.size:=W.hideAll_size _ _
theorem Xd1 {h:Heap} {H:Hp} {b:Addr} {o:Obj} (e:h.get? b=some o) (n:H b=none):(hidT h H).get? b=some o :=
 W.hideAll_get _ e fun hm=>by
  have q:(H b).isSome=true:=(List.mem_filter.mp hm).2;rw[n] at q;simp at q
theorem Xj1 {h:Heap} {H:Hp} {b:Addr} {o:Obj} (e:(hidT h H).get? b=some o):h.get? b=some o∧H b=none:=by
 have e':h.get? b=some o:=W.of_hideAll (trk h H) e;refine⟨e',?_⟩
 cases q:H b with
 | none=>rfl
 | some x =>
  have hm:b∈trk h H:=List.mem_filter.mpr ⟨List.mem_range.mpr (Heap.lt_size e'),by simp[q]⟩;have z:(hidT h H).get? b=none:=W.hideAll_none (trk h H) hm;rw[z] at e;cases e
structure Mod (K:W.Frag) (mg:Str→Option Value) (base:Heap):Prop where
 kin:K.In base
 glob:base.Ns mainGlobals mg
 blt:∃ mb,base.Ns builtinsNs mb∧∀ x:Str,x≠"__name__"→mb x=bootBuiltins x
 nolimit:base.NoLimit
structure Cx where
 prog:Program
 w:World
 K:W.Frag
 mg:Str→Option Value
 base:Heap
 A:Around
 N:List Str
 s₀:Shared
 H₀:Hp
 env:Env
 outer:List Env
 stack:List Env
 ex:List Addr
 fn:Str→Bool
 calm:Bool
 pn:List (Addr×Obj)
 xe:Value→Shared→Prop
noncomputable def frs (l:List Env):List Addr:=l.filterMap (·.frame)
noncomputable abbrev Cx.fs (X:Cx):List Addr:=frs X.outer
def Vis (sc:Scope) (x:Str):Prop:=sc.names.lookup x=some .local∨sc.names.lookup x=some .cell∨sc.names.lookup x=some .free
def Loc (sc:Scope) (x:Str):Prop:=sc.names.lookup x=some .local∨sc.names.lookup x=some .cell
def Look (env:Env) (h:Heap) (m:Str→Option Value) (x:Str) (u:Value):Prop :=
 (env.kindOf x=some .local∧m x=some u)∨((env.kindOf x=some .cell∨env.kindOf x=some .free)∧∃ c,env.cells.lookup x=some c∧h.IsCell c (some u))
structure Cx.Ok (X:Cx):Prop where
 mod:Mod X.K X.mg X.base
 kind:X.env.scope.kind=.function
 glob:X.env.globals=mainGlobals
 blt:X.env.builtins=builtinsNs
 above:X.s₀.heap.objs.size≤X.env.locals
 inj:∀ x y c,X.env.cells.lookup x=some c→X.env.cells.lookup y=some c→x=y
 has:∀ x,(X.env.kindOf x=some .cell∨X.env.kindOf x=some .free)→∃ c,X.env.cells.lookup x=some c
 cab:∀ x c,X.fn x=true→X.env.cells.lookup x=some c→X.s₀.heap.objs.size≤c
 hd:X.calm=true→X.A.handled=none
 frames:X.A.frames=some X.stack
 stk:X.stack=X.outer∨(X.stack=X.env :: X.outer∧X.env.frame=some X.env.locals)
 exf:∀ b∈X.ex,b≠X.env.locals∧∀ x c,X.env.cells.lookup x=some c→c≠b
 bs:∀ b o,X.base.get? b=some o→X.s₀.heap.get? b=some o∧X.H₀ b=none
 bsz:X.base.objs.size≤X.s₀.heap.objs.size
 noex:∀ b o,X.base.get? b=some o→b ∉ X.ex
 exfs:∀ b∈X.ex,b ∉ X.fs
 funs:X.s₀.heap.FunFrames X.base X.outer
 frf:∀ b∈X.fs,X.H₀ b=none
structure Inv (X:Cx) (pins:List (Addr×Obj)) (σ:List (Option V)) (H:Hp) (s:Shared):Prop where
 ok:X.Ok
 os:s.os=X.s₀.os
 bare:AllBare s.gens
 base:Un X.fs X.ex X.H₀ H X.s₀.heap s.heap
 loc:∃ m,s.heap.Ns X.env.locals m∧∀ (i:Nat) (x:Str) (v:V),X.N[i]?=some x→σ[i]?=some (some v)→Vis X.env.scope x→∃ u,RelV v u∧Look X.env s.heap m x u
 cell:∀ x c,X.env.cells.lookup x=some c→∃ v,s.heap.IsCell c v
 free:H X.env.locals=none
 freeC:∀ x c,X.env.cells.lookup x=some c→H c=none
 pin:∀ p∈X.pn++pins,s.heap.get? p.1=some p.2∧H p.1=none∧p.1≠X.env.locals∧p.1 ∉ X.fs∧∀ v,p.2.data≠.cell v
 hok:HOk X.prog X.w H s.heap
 len:σ.length=X.N.length
section
variable {X:Cx} {pins:List (Addr×Obj)} {σ:List (Option V)} {H H':Hp} {s:Shared} {h':Heap}
theorem Cx.Ok.nofr (ok:X.Ok) {b:Addr} {o:Obj} (e:X.base.get? b=some o):b ∉ X.fs:=fun hb=>by
 have:=(ok.funs.mem hb).1;rw[e] at this;cases this
theorem Inv.bs (I:Inv X pins σ H s):∀ b o,X.base.get? b=some o→s.heap.get? b=some o∧H b=none:=fun b o e =>
 ⟨I.base.keep b o (I.ok.bs b o e).1 (I.ok.bs b o e).2 (I.ok.nofr e) (I.ok.noex b o e),I.base.free b o (I.ok.bs b o e).1 (I.ok.bs b o e).2 (I.ok.noex b o e)⟩
theorem Inv.bk (I:Inv X pins σ H s):∀ b o,X.base.get? b=some o→s.heap.get? b=some o:=fun b o e=>(I.bs b o e).1
theorem Inv.mod (I:Inv X pins σ H s):Mod X.K X.mg X.base:=I.ok.mod
theorem Inv.kIn (I:Inv X pins σ H s):X.K.In s.heap:=I.ok.mod.kin.keeps I.bk
theorem Inv.lt (I:Inv X pins σ H s):X.env.locals < s.heap.objs.size:=let ⟨_,hn,_⟩:=I.loc;hn.lt
theorem Inv.sz (I:Inv X pins σ H s):X.s₀.heap.objs.size≤s.heap.objs.size:=Nat.le_trans I.ok.above (Nat.le_of_lt I.lt)
theorem Inv.nofs (I:Inv X pins σ H s) {a:Addr} (h:s.heap.objs.size≤a):a ∉ X.fs:=fun hb=>by
 obtain⟨_,o,ho,_⟩:=I.ok.funs.mem hb;exact absurd (Nat.lt_of_lt_of_le (Heap.lt_size ho) (Nat.le_trans I.sz h)) (Nat.lt_irrefl _)
theorem Inv.cne (I:Inv X pins σ H s):∀ x c,X.env.cells.lookup x=some c→c≠X.env.locals:=fun x c e z=>by
 obtain⟨v,o,ho,hd⟩:=I.cell x c e;obtain⟨m,⟨o',es,ep,ho',hd',_⟩,_⟩:=I.loc;rw[z,ho'] at ho;cases ho;rw[hd'] at hd;cases hd
theorem Inv.funs (I:Inv X pins σ H s):s.heap.FunFrames X.base X.outer:=by
 have all:∀ (l:List Env),(∀ b∈frs l,b∈X.fs)→X.s₀.heap.FunFrames X.base l→s.heap.FunFrames X.base l:=by
  intro l
  induction l with
  | nil=>intro _ _;trivial
  | cons env r ih =>
   intro hs hl;obtain⟨hk,⟨L,o,hf,hn,ho,hd⟩,hr⟩:=hl;have hL:L∈X.fs:=hs L (by unfold frs;rw[List.filterMap_cons,hf];exact List.mem_cons_self);obtain⟨sl,e⟩:=I.base.slot L o ho (I.ok.frf L hL) hL fun z=>I.ok.exfs L z hL;exact⟨hk,⟨L,_,hf,hn,e,hd⟩,ih (fun b hb=>hs b (by unfold frs;rw[List.filterMap_cons,hf];exact List.mem_cons_of_mem _ hb)) hr⟩
 exact all X.outer (fun _ hb=>hb) I.ok.funs
theorem Inv.stack (I:Inv X pins σ H s):s.heap.FunFrames X.base X.stack:=by
 rcases I.ok.stk with e | ⟨e,hf⟩
 ·rw[e];exact I.funs
 ·rw[e]
  obtain⟨m,hn,_⟩:=I.loc;refine .cons (by rw[I.ok.kind];decide) hf hn ?_ I.funs;exact Heap.get?_none_of_le (Nat.le_trans I.ok.bsz I.ok.above)
theorem Inv.stkSub (I:Inv X pins σ H s):∀ b∈frs X.stack,b∈X.env.locals :: X.fs:=fun b hb=>by
 rcases I.ok.stk with e | ⟨e,hf⟩
 ·rw[e] at hb;exact List.mem_cons_of_mem _ hb
 ·rw[e] at hb
  unfold frs at hb;rw[List.filterMap_cons,hf] at hb;exact hb
theorem Inv.stkFree (I:Inv X pins σ H s):∀ b∈frs X.stack,H b=none:=fun b hb=>by
 rcases List.mem_cons.mp (I.stkSub b hb) with e | hb
 ·rw[e];exact I.free
 ·obtain⟨_,o,ho,_⟩:=I.ok.funs.mem hb
  exact I.base.free b o ho (I.ok.frf b hb) fun z=>I.ok.exfs b z hb
theorem Inv.step {g':Array GenState} {t':Nat} {d':Drawn} {ch:List Addr} (I:Inv X pins σ H s)
  (hch:∀ b∈ch,(b∈X.ex∨X.s₀.heap.objs.size≤b)∧b≠X.env.locals∧(∀ x c,X.env.cells.lookup x=some c→c≠b)∧∀ p∈X.pn++pins,p.1≠b)
  (keep:∀ b o,b≠X.env.locals→b ∉ X.fs→b ∉ ch→s.heap.get? b=some o→H b=none→h'.get? b=some o)
  (slot:∀ b o,b≠X.env.locals→b∈X.fs→b ∉ ch→s.heap.get? b=some o→H b=none→∃ sl,h'.get? b=some { o with slots:=sl }) (free:∀ b o,b ∉ ch→s.heap.get? b=some o→H b=none→H' b=none)
  (there:∀ b o,b ∉ ch→s.heap.get? b=some o→∃ o',h'.get? b=some o')
  (tups:∀ b xs,H b=some (.tup xs)→H' b=some (.tup xs)) (frzs:∀ b o u,H b=some (.frz o u)→H' b=some (.frz o u)) (tbls:∀ b ps,H b=some (.tbl ps)→∃ more,H' b=some (.tbl (ps++more)))
  (ns:∀ m,s.heap.Ns X.env.locals m→h'.Ns X.env.locals m) (hok:HOk X.prog X.w H' h') (hg:AllBare g') :
  Inv X pins σ H' { s with heap:=h',gens:=g',drawn:=d',toks:=t' }:=by
 have neL:∀ b o,X.s₀.heap.get? b=some o→b≠X.env.locals:=fun b o e=>Nat.ne_of_lt (Nat.lt_of_lt_of_le (Heap.lt_size e) I.ok.above)
 have neC:∀ b o,X.s₀.heap.get? b=some o→b ∉ X.ex→b ∉ ch:=fun b o e hx hb=>by
  rcases (hch b hb).1 with z | z
  ·exact hx z
  ·exact absurd (Nat.lt_of_lt_of_le (Heap.lt_size e) z) (Nat.lt_irrefl _)
 have cellK:∀ x c,X.env.cells.lookup x=some c→∀ v,s.heap.IsCell c v→h'.IsCell c v:=fun x c e v ⟨o,ho,hd⟩=>by
  have nch:c ∉ ch:=fun z=>(hch c z).2.2.1 x c e rfl
  by_cases hc:c∈X.fs
  ·obtain⟨sl,q⟩:=slot c o (I.cne x c e) hc nch ho (I.freeC x c e)
   exact⟨_,q,hd⟩
  ·exact⟨o,keep c o (I.cne x c e) hc nch ho (I.freeC x c e),hd⟩
 refine⟨I.ok,I.os,hg,⟨fun b o e n hb hx=>?_,fun b o e n hb hx=>?_,fun b o e n hx=>?_,fun b o e hx=>?_,fun b xs e=>tups b xs (I.base.tups b xs e),fun b o xs e=>frzs b o xs (I.base.frzs b o xs e),fun b ps e=>?_⟩,?_,fun x c e=>?_,?_,fun x c e=>?_,fun p hp=>?_,hok,I.len⟩
 ·exact keep b o (neL b o e) hb (neC b o e hx) (I.base.keep b o e n hb hx) (I.base.free b o e n hx)
 ·obtain⟨sl,e1⟩:=I.base.slot b o e n hb hx
  obtain⟨sl',e2⟩:=slot b _ (neL b o e) hb (neC b o e hx) e1 (I.base.free b o e n hx);exact⟨sl',e2⟩
 ·obtain⟨o',e1⟩:=I.base.there b o e hx
  exact free b o' (neC b o e hx) e1 (I.base.free b o e n hx)
 ·obtain⟨o',e1⟩:=I.base.there b o e hx
  exact there b o' (neC b o e hx) e1
 ·obtain⟨m1,e1⟩:=I.base.tbls b ps e
  obtain⟨m2,e2⟩:=tbls b _ e1;exact⟨m1++m2,by rw[e2,Array.append_assoc]⟩
 ·obtain⟨m,hn,hl⟩:=I.loc
  refine⟨m,ns m hn,fun i x v e1 e2 e3=>?_⟩;obtain⟨u,r,l⟩:=hl i x v e1 e2 e3;refine⟨u,r,?_⟩;rcases l with l | ⟨k,c,e,z⟩
  ·exact .inl l
  ·exact .inr ⟨k,c,e,cellK x c e _ z⟩
 ·obtain⟨v,z⟩:=I.cell x c e
  exact⟨v,cellK x c e v z⟩
 ·obtain⟨m,⟨o,_,_,ho,_⟩,_⟩:=I.loc
  exact free _ o (fun z=>(hch _ z).2.1 rfl) ho I.free
 ·obtain⟨v,o,ho,hd⟩:=I.cell x c e
  exact free c o (fun z=>(hch c z).2.2.1 x c e rfl) ho (I.freeC x c e)
 ·obtain⟨e,n,ne,nf,d⟩:=I.pin p hp
  have nch:p.1 ∉ ch:=fun z=>(hch p.1 z).2.2.2 p hp rfl;exact⟨keep p.1 p.2 ne nf nch e n,free p.1 p.2 nch e n,ne,nf,d⟩
theorem Inv.un {t':Nat} (I:Inv X pins σ H s) (u:Un X.fs [] H H' s.heap h') (hok:HOk X.prog X.w H' h'):Inv X pins σ H' { s with heap:=h',toks:=t' }:=by
 obtain⟨m,⟨o,es,ep,ho,r⟩,_⟩:=id I.loc;obtain⟨sl,hL⟩:=u.any ho I.free (by simp)
 exact I.step (g':=s.gens) (d':=s.drawn) (ch:=[]) (fun _ z=>nomatch z) (fun b o _ hb _ e n=>u.keep b o e n hb (by simp)) (fun b o _ hb _ e n=>u.slot b o e n hb (by simp)) (fun b o _ e n=>u.free b o e n (by simp)) (fun b o _ e=>u.there b o e (by simp)) u.tups u.frzs u.tbls (fun m' hm=>by
  obtain⟨o',es',ep',ho',r'⟩:=hm;rw[ho] at ho';cases ho'
  exact⟨_,es',ep',hL,r'⟩) hok I.bare
theorem Inv.call {g':Array GenState} {t':Nat} {d':Drawn} {ch:List Addr} (I:Inv X pins σ H s) (u:Un (frs X.stack) ch H H' s.heap h') (hok:HOk X.prog X.w H' h') (hg:AllBare g')
  (hch:∀ b∈ch,(b∈X.ex∨X.s₀.heap.objs.size≤b)∧b≠X.env.locals∧(∀ x c,X.env.cells.lookup x=some c→c≠b)∧∀ p∈X.pn++pins,p.1≠b) :
  Inv X pins σ H' { s with heap:=h',gens:=g',drawn:=d',toks:=t' }:=by
 obtain⟨m,⟨o,es,ep,ho,r⟩,_⟩:=id I.loc;obtain⟨sl,hL⟩:=u.any ho I.free fun z=>(hch _ z).2.1 rfl
 exact I.step (ch:=ch) hch (fun b o hL hb hc e n=>u.keep b o e n (fun z=>(List.mem_cons.mp (I.stkSub b z)).elim hL hb) hc) (fun b o _ _ hc e n=>u.any e n hc) (fun b o hc e n=>u.free b o e n hc) (fun b o hc e=>u.there b o e hc) u.tups u.frzs u.tbls (fun m' hm=>by
  obtain⟨o',es',ep',ho',r'⟩:=hm;rw[ho] at ho';cases ho'
  exact⟨_,es',ep',hL,r'⟩) hok hg
theorem Inv.turned {t':Nat} {it:Addr} (I:Inv X pins σ H s) (k:∀ b o,b≠it→s.heap.get? b=some o→h'.get? b=some o) (hn:H it=none) (hL:it≠X.env.locals)
  (h1:it∈X.ex∨X.s₀.heap.objs.size≤it) (h2:∀ x c,X.env.cells.lookup x=some c→c≠it) (h3:∀ p∈X.pn++pins,p.1≠it):Inv X pins σ H { s with heap:=h',toks:=t' }:=by
 have nit:∀ b u,H b=some u→b≠it:=fun b u e z=>by rw[z,hn] at e;cases e
 refine I.step (g':=s.gens) (d':=s.drawn) (ch:=[it]) (fun b hb=>?_) (fun b o _ _ hc e _=>k b o (fun z=>hc (by simp[z])) e) (fun b o _ _ hc e _=>⟨o.slots,k b o (fun z=>hc (by simp[z])) e⟩) (fun _ _ _ _ n=>n)
  (fun b o hc e=>⟨o,k b o (fun z=>hc (by simp[z])) e⟩) (fun _ _ e=>e) (fun _ _ _ e=>e) (fun b ps e=>⟨#[],by rw[e];simp⟩) (fun m hm=>?_) (fun b u e=>?_) I.bare
 ·have e:b=it:=by simpa using hb
  subst e;exact⟨h1,hL,h2,h3⟩
 ·obtain⟨o,es,ep,ho,r⟩:=hm
  exact⟨o,es,ep,k _ o (Ne.symm hL) ho,r⟩
 ·refine (I.hok b u e).stay (fun c v hc q=>k c v ?_ q) (fun _ q=>q) fun _ _ q=>q
  rcases hc with z | z
  ·rw[z];exact nit b u e
  ·exact nit c _ z
theorem Inv.tok (I:Inv X pins σ H s) (t:Nat):Inv X pins σ H { s with toks:=t }:=I.un (h':=s.heap) (t':=t) Un.refl I.hok
theorem Inv.kept {t':Nat} (I:Inv X pins σ H s) (k:∀ b u,s.heap.get? b=some u→h'.get? b=some u):Inv X pins σ H { s with heap:=h',toks:=t' }:=I.un (Un.kept k) (I.hok.kept k)
theorem Inv.laid {a:Addr} {o:HO} {t':Nat} (I:Inv X pins σ H s) (k:∀ b u,s.heap.get? b=some u→h'.get? b=some u) (hp:s.heap.objs.size≤a) (new:ObjOk X.prog X.w (upd H a o) h' a o) :
  Inv X pins σ (upd H a o) { s with heap:=h',toks:=t' }:=I.un (Un.laid k hp (I.hok.fresh hp)) (I.hok.laid k hp new)
theorem Inv.write {x e:Addr} {o:HO} {t':Nat} (I:Inv X pins σ H s) (mu:Mut (H x)) (he:e=x∨H e=some (.own x)) (k:∀ b u,b≠e→s.heap.get? b=some u→h'.get? b=some u) (heo:∃ u,h'.get? e=some u)
  (new:ObjOk X.prog X.w (upd H x o) h' x o):Inv X pins σ (upd H x o) { s with heap:=h',toks:=t' }:=I.un (Un.write mu he k heo) (I.hok.write mu he k heo new)
theorem Inv.weak {σ':List (Option V)} (I:Inv X pins σ H s) (hl:σ'.length=σ.length) (w:∀ (i:Nat) v,σ'[i]?=some (some v)→σ[i]?=some (some v)):Inv X pins σ' H s :=
 ⟨I.ok,I.os,I.bare,I.base,let ⟨m,hn,hl'⟩:=I.loc;⟨m,hn,fun i x v e1 e2 e3=>hl' i x v e1 (w i v e2) e3⟩,I.cell,I.free,I.freeC,I.pin,I.hok,hl.trans I.len⟩
theorem Inv.pins_of {pins':List (Addr×Obj)} (I:Inv X pins σ H s) (h:∀ p∈pins',s.heap.get? p.1=some p.2∧H p.1=none∧p.1≠X.env.locals∧p.1 ∉ X.fs∧∀ v,p.2.data≠.cell v):Inv X pins' σ H s :=
 ⟨I.ok,I.os,I.bare,I.base,I.loc,I.cell,I.free,I.freeC,fun p hp=>(List.mem_append.mp hp).elim (fun z=>I.pin p (List.mem_append_left _ z)) (h p),I.hok,I.len⟩
theorem Ya0 {N:List Str} (hN:N.Nodup) {i j:Nat} {x:Str} (a:N[i]?=some x) (b:N[j]?=some x):i=j:=by
 obtain⟨h1,e1⟩:=List.getElem?_eq_some_iff.mp a;obtain⟨h2,e2⟩:=List.getElem?_eq_some_iff.mp b;exact (List.getElem_inj hN).mp (e1.trans e2.symm)
theorem Ys5 {M:Model} {A:Around} {E:Value→Shared→Prop} {i:Nat} {x:Str} {v:V} {u:Value} {Q:Unit→Shared→Prop} (I:Inv X pins σ H s) (hN:X.N.Nodup) (hi:X.N[i]?=some x) (hx:Loc X.env.scope x) (r:RelV v u)
  (h:∀ s',Inv X pins (σ.set i (some v)) H s'→(∃ a,Heap.SameBut a s.heap s'.heap∧(a=X.env.locals∨X.env.cells.lookup x=some a))→Q () s') (hf:X.fn x=true∨X.env.scope.names.lookup x=some .local:=by first | exact .inl rfl | exact .inr rfl | assumption):wpAny M A (storeName X.env x u) Q E s:=by
 obtain⟨m,hn,hl⟩:=id I.loc
 have hcls:(X.env.scope.kind == .class||(X.env.scope.kind == .module&&X.env.locals != X.env.globals))=false:=by rw[I.ok.kind];rfl
 have hiσ:i < σ.length:=by rw[I.len];exact (List.getElem?_eq_some_iff.mp hi).1
 have cne:=I.cne
 have tracked:∀ {a:Addr} {h':Heap},(∃ o,s.heap.get? a=some o∧H a=none)→Heap.SameBut a s.heap h'→HOk X.prog X.w H h':=fun {a h'} ha hs b ob e=>by
  obtain⟨_,_,hfree⟩:=ha;refine (I.hok b ob e).stay (fun c w' hc q=>(hs.2 c ?_).trans q) (fun _ q=>q) fun _ _ q=>q;rintro rfl;rcases hc with rfl | hc
  ·rw[hfree] at e;cases e
  ·rw[hfree] at hc;cases hc
 rcases hx with hk | hk
 ·refine wpAny_storeName_local hk hn (fun h' hn' hs=>?_) hcls
  obtain⟨oL,_,_,hoL,_⟩:=id hn;refine h _ ⟨I.ok,I.os,I.bare,⟨fun b o e n hb hx=>?_,fun b o e n hb hx=>?_,I.base.free,fun b o e hx=>?_,I.base.tups,I.base.frzs,I.base.tbls⟩,⟨_,hn',fun j y v' e1 e2 e3=>?_⟩,fun y c e=>?_,I.free,I.freeC,fun p hp=>?_,tracked ⟨oL,hoL,I.free⟩ hs,by simpa using I.len⟩ ⟨_,hs,.inl rfl⟩
  ·exact (hs.2 b (Nat.ne_of_lt (Nat.lt_of_lt_of_le (Heap.lt_size e) I.ok.above))).trans (I.base.keep b o e n hb hx)
  ·obtain⟨sl,e1⟩:=I.base.slot b o e n hb hx
   exact⟨sl,(hs.2 b (Nat.ne_of_lt (Nat.lt_of_lt_of_le (Heap.lt_size e) I.ok.above))).trans e1⟩
  ·obtain⟨o',e1⟩:=I.base.there b o e hx
   exact⟨o',(hs.2 b (Nat.ne_of_lt (Nat.lt_of_lt_of_le (Heap.lt_size e) I.ok.above))).trans e1⟩
  ·by_cases hj:j=i
   ·subst hj
    rw[hi] at e1;cases e1;rw[List.getElem?_set_self hiσ] at e2;cases e2;exact⟨u,r,.inl ⟨hk,by simp⟩⟩
   ·rw[List.getElem?_set_ne (Ne.symm hj)] at e2
    obtain⟨u',r',q⟩:=hl j y v' e1 e2 e3;refine⟨u',r',?_⟩;rcases q with ⟨k,e⟩ | ⟨k,c,e,z⟩
    ·refine .inl ⟨k,?_⟩
     have:y≠x:=fun e=>hj (Ya0 hN e1 (e▸hi));simp[this,e]
    ·exact .inr ⟨k,c,e,z.sameBut hs (cne y c e)⟩
  ·obtain⟨w',z⟩:=I.cell y c e
   exact⟨w',z.sameBut hs (cne y c e)⟩
  ·obtain⟨e,n,ne,nf,d⟩:=I.pin p hp
   exact⟨(hs.2 p.1 ne).trans e,n,ne,nf,d⟩
 ·have hfn:X.fn x=true:=by
   rcases hf with z | z
   ·exact z
   ·rw[z] at hk;cases hk
  obtain⟨c,hc⟩:=I.ok.has x (.inl hk);obtain⟨w',z⟩:=I.cell x c hc;refine wpAny_storeName_cell I.ok.kind hk hc z (fun h' hc' hs=>?_);obtain⟨oc,hoc,hocd⟩:=id z;refine h { s with heap:=h' } ⟨I.ok,I.os,I.bare,⟨fun b o e n hb hx=>?_,fun b o e n hb hx=>?_,I.base.free,fun b o e hx=>?_,I.base.tups,I.base.frzs,I.base.tbls⟩,⟨m,hn.sameBut hs (Ne.symm (cne x c hc)),fun j y v' e1 e2 e3=>?_⟩,fun y c' e=>?_,I.free,I.freeC,fun p hp=>?_,tracked ⟨oc,hoc,I.freeC x c hc⟩ hs,by simpa using I.len⟩ ⟨c,hs,.inr hc⟩
  ·exact (hs.2 b (Nat.ne_of_lt (Nat.lt_of_lt_of_le (Heap.lt_size e) (I.ok.cab x c hfn hc)))).trans (I.base.keep b o e n hb hx)
  ·obtain⟨sl,e1⟩:=I.base.slot b o e n hb hx
   exact⟨sl,(hs.2 b (Nat.ne_of_lt (Nat.lt_of_lt_of_le (Heap.lt_size e) (I.ok.cab x c hfn hc)))).trans e1⟩
  ·obtain⟨o',e1⟩:=I.base.there b o e hx
   exact⟨o',(hs.2 b (Nat.ne_of_lt (Nat.lt_of_lt_of_le (Heap.lt_size e) (I.ok.cab x c hfn hc)))).trans e1⟩
  ·by_cases hj:j=i
   ·subst hj
    rw[hi] at e1;cases e1;rw[List.getElem?_set_self hiσ] at e2;cases e2;exact⟨u,r,.inr ⟨.inl hk,c,hc,hc'⟩⟩
   ·rw[List.getElem?_set_ne (Ne.symm hj)] at e2
    obtain⟨u',r',q⟩:=hl j y v' e1 e2 e3;refine⟨u',r',?_⟩;rcases q with q | ⟨k,c',e,z'⟩
    ·exact .inl q
    ·refine .inr ⟨k,c',e,z'.sameBut hs ?_⟩
     rintro rfl;exact hj (Ya0 hN e1 (I.ok.inj _ _ _ e hc▸hi))
  ·by_cases hcc:c'=c
   ·subst hcc;exact⟨_,hc'⟩
   ·obtain⟨w2,z2⟩:=I.cell y c' e
    exact⟨w2,z2.sameBut hs hcc⟩
  ·obtain⟨e,n,ne,nf,d⟩:=I.pin p hp
   refine⟨(hs.2 p.1 ?_).trans e,n,ne,nf,d⟩;intro q;rw[q,hoc] at e;have q':oc=p.2:=Option.some.inj e;exact d w' (by rw[← q'];exact hocd)
theorem Zi4 {M:Model} {A:Around} {E:Value→Shared→Prop} {i:Nat} {x:Str} {v:V} {u:Value} {Q:Unit→Shared→Prop} (I:Inv X pins σ H s) (hN:X.N.Nodup) (hi:X.N[i]?=some x) (hx:Loc X.env.scope x) (r:RelV v u)
  (h:∀ s',Inv X pins (σ.set i (some v)) H s'→Q () s') (hf:X.fn x=true∨X.env.scope.names.lookup x=some .local:=by first | exact .inl rfl | exact .inr rfl | assumption):wpAny M A (storeName X.env x u) Q E s :=
 Ys5 I hN hi hx r (fun s' I' _=>h s' I') hf
theorem Inv.call' {s':Shared} {ch:List Addr} (I:Inv X pins σ H s) (ho:s'.os=s.os) (u:Un (frs X.stack) ch H H' s.heap s'.heap) (hok:HOk X.prog X.w H' s'.heap) (hg:AllBare s'.gens)
  (hch:∀ b∈ch,(b∈X.ex∨X.s₀.heap.objs.size≤b)∧b≠X.env.locals∧(∀ x c,X.env.cells.lookup x=some c→c≠b)∧∀ p∈X.pn++pins,p.1≠b):Inv X pins σ H' s':=by
 obtain⟨h',g',d',t',o'⟩:=s';have e:o'=s.os:=ho;subst e;exact I.call (g':=g') (t':=t') (d':=d') u hok hg hch
end
noncomputable abbrev XK:=Value→Option Addr→Hp→Prop
noncomputable abbrev St:=List (Option V)
noncomputable abbrev VK:=V→Hp→Prop
noncomputable abbrev TE:=St→Hp→VK→Prop
noncomputable abbrev TT:=St→Hp→(Bool→Hp→Prop)→Prop
noncomputable abbrev TA:=St→Hp→(List V→Hp→Prop)→Prop
structure Ends where
 nx:St→Hp→Prop
 rt:VK
 bk:St→Hp→Prop:=fun _ _=>False
 ct:St→Hp→Prop:=fun _ _=>False
noncomputable abbrev TS:=Ends→St→Hp→Prop
def EP (X:Cx) (pins:List (Addr×Obj)) (σ:St) (Q:VK) (u:Value) (s':Shared):Prop:=∃ v H',Inv X pins σ H' s'∧RelV v u∧Q v H'
def TP (X:Cx) (pins:List (Addr×Obj)) (σ:St) (Q:Bool→Hp→Prop) (b:Bool) (s':Shared):Prop:=∃ H',Inv X pins σ H' s'∧Q b H'
def AP (X:Cx) (pins:List (Addr×Obj)) (σ:St) (Q:List V→Hp→Prop) (us:List Value) (s':Shared):Prop:=∃ vs H',Inv X pins σ H' s'∧Vals vs us∧Q vs H'
def SP (X:Cx) (pins:List (Addr×Obj)) (D:Ends) (f:Flow) (s':Shared):Prop :=
 match f with
 | .next=>∃ σ' H',Inv X pins σ' H' s'∧D.nx σ' H'
 | .brk=>∃ σ' H',Inv X pins σ' H' s'∧D.bk σ' H'
 | .cont=>∃ σ' H',Inv X pins σ' H' s'∧D.ct σ' H'
 | .ret u=>∃ v σ' H',Inv X pins σ' H' s'∧RelV v u∧D.rt v H'
def PE (X:Cx) (e:Expr) (t:TE):Prop :=
 ∀ (pins:List (Addr×Obj)) (s:Shared) (σ:St) (H:Hp) (Q:VK),Inv X pins σ H s→t σ H Q→wpAny (model X.prog X.w) X.A (eval e X.env) (EP X pins σ Q) X.xe s
def PT (X:Cx) (e:Expr) (t:TT):Prop :=
 ∀ (pins:List (Addr×Obj)) (s:Shared) (σ:St) (H:Hp) (Q:Bool→Hp→Prop),Inv X pins σ H s→t σ H Q→wpAny (model X.prog X.w) X.A (isTrue e X.env (eval e X.env)) (TP X pins σ Q) X.xe s
def PW (X:Cx) (e:Expr) (t:TT):Prop :=
 ∀ (whole:Sem Value) (pins:List (Addr×Obj)) (s:Shared) (σ:St) (H:Hp) (Q:Bool→Hp→Prop),Inv X pins σ H s→t σ H Q→wpAny (model X.prog X.w) X.A (isTrue e X.env whole) (TP X pins σ Q) X.xe s
theorem PW.pt {X:Cx} {e:Expr} {t:TT} (h:PW X e t):PT X e t:=h _
def PA (X:Cx) (es:List Expr) (t:TA):Prop :=
 ∀ (pos:Pos) (pins:List (Addr×Obj)) (s:Shared) (σ:St) (H:Hp) (Q:List V→Hp→Prop),Inv X pins σ H s→t σ H Q→wpAny (model X.prog X.w) X.A (spliced (backTo pos (starEach es X.env))) (AP X pins σ Q) X.xe s
def PS (X:Cx) (st:Stmt) (t:TS):Prop :=
 ∀ (pins:List (Addr×Obj)) (s:Shared) (σ:St) (H:Hp) (D:Ends),Inv X pins σ H s→t D σ H→wpAny (model X.prog X.w) X.A (exec st X.env) (SP X pins D) X.xe s
def PSs (X:Cx) (st:List Stmt) (t:TS):Prop :=
 ∀ (pins:List (Addr×Obj)) (s:Shared) (σ:St) (H:Hp) (D:Ends),Inv X pins σ H s→t D σ H→wpAny (model X.prog X.w) X.A (execs st X.env) (SP X pins D) X.xe s
theorem thn {α:Type} {t:Sem α} {Q Q':α→Shared→Prop} {M:Model} {A:Around} {E:Value→Shared→Prop} {s:Shared} (h:wpAny M A t Q E s) (hQ:∀ a s,Q a s→Q' a s):wpAny M A t Q' E s:=wpAny_mono h hQ fun _ _ x=>x
section
variable {X:Cx}
def tVar (i:Nat):TE:=fun σ H Q=>∃ v,σ[i]?=some (some v)∧Q v H
def tC (v:V):TE:=fun _ H Q=>Q v H
theorem Yt7 {i:Nat} {x:Str} {pos:Pos} (hN:X.N[i]?=some x) (hv:Vis X.env.scope x) (hd:(x == ("__debug__":Str))=false:=by decide) (hcd:(x == ("__classdict__":Str))=false:=by decide):PE X (.Name x pos) (tVar i):=by
 intro pins s σ H Q I h;obtain⟨v,e,h⟩:=h;obtain⟨m,hn,hl⟩:=I.loc;obtain⟨u,r,l⟩:=hl i x v hN e hv;have fin:EP X pins σ Q u s:=⟨v,H,I,r,h⟩;rcases l with ⟨hk,hm⟩ | ⟨hk,c,hc,hcell⟩
 ·exact wpAny_Name (wpAny_loadName_local I.ok.kind hk hn hm fin) hd
 ·rcases hk with hk | hk
  ·exact wpAny_Name (wpAny_loadName_cell I.ok.kind hk hc hcell fin) hd
  ·exact wpAny_Name (wpAny_loadName_free I.ok.kind hk hc hcell fin hcd) hd
theorem Za2 {i j pos}:PE X (.Constant (.int i) j pos) (tC (.int i)):=fun _ _ _ H _ I h=>wpAny_Constant_int ⟨.int i,H,I.tok _,⟨_,rfl⟩,h⟩
theorem Zv8 {b j pos}:PE X (.Constant (.bool b) j pos) (tC (.bl b)):=fun _ _ _ H _ I h=>Constant_bool ⟨.bl b,H,I,rfl,h⟩
theorem Zg7 {j pos}:PE X (.Constant .none j pos) (tC .non):=fun _ _ _ H _ I h=>Constant_none ⟨.non,H,I,rfl,h⟩
theorem Za9 {x j pos}:PE X (.Constant (.str x) j pos) (tC (.str x)):=fun _ _ _ H _ I h=>Calls.Constant_str ⟨.str x,H,I.tok _,⟨_,rfl⟩,h⟩
def Gl (X:Cx) (x:Str):Prop:=X.env.kindOf x=some .globalImplicit
theorem Zk0 {E:Value→Shared→Prop} {pins:List (Addr×Obj)} {s:Shared} {σ:St} {H:Hp} {x:Str} {u:Value} {pos:Pos} {Q:Value→Shared→Prop} (I:Inv X pins σ H s) (hg:Gl X x) (hm:X.mg x=some u) (h:Q u s)
  (hd:(x == ("__debug__":Str))=false:=by decide):wpAny (model X.prog X.w) X.A (eval (.Name x pos) X.env) Q E s :=
 Calls.Name_function_global I.ok.kind hg (Calls.loadGlobal_global (by rw[I.ok.glob];exact I.mod.glob.keeps I.bk) hm h) hd
theorem Ye9 {E:Value→Shared→Prop} {pins:List (Addr×Obj)} {s:Shared} {σ:St} {H:Hp} {x:Str} {u:Value} {pos:Pos} {Q:Value→Shared→Prop} (I:Inv X pins σ H s) (hg:Gl X x) (hm:X.mg x=none) (hv:bootBuiltins x=some u) (h:Q u s)
  (hn:x≠"__name__":=by decide) (hd:(x == ("__debug__":Str))=false:=by decide):wpAny (model X.prog X.w) X.A (eval (.Name x pos) X.env) Q E s:=by
 obtain⟨mb,h1,h2⟩:=I.mod.blt;exact Calls.Name_function_global I.ok.kind hg (Calls.loadGlobal_builtin (by rw[I.ok.glob];exact I.mod.glob.keeps I.bk) hm (by rw[I.ok.blt];exact h1.keeps I.bk) ((h2 x hn).trans hv) h) hd
theorem Zf6 {x:Str} {v:V} {u:Value} {pos:Pos} (hg:Gl X x) (hm:X.mg x=some u) (r:RelV v u) (hd:(x == ("__debug__":Str))=false:=by decide):PE X (.Name x pos) (tC v) :=
 fun _ _ _ H _ I h=>Zk0 I hg hm ⟨v,H,I,r,h⟩ hd
theorem Zz6 {x:Str} {v:V} {u:Value} {pos:Pos} (hg:Gl X x) (hm:X.mg x=none) (hv:bootBuiltins x=some u) (r:RelV v u) (hn:x≠"__name__":=by decide) (hd:(x == ("__debug__":Str))=false:=by decide):PE X (.Name x pos) (tC v) :=
 fun _ _ _ H _ I h=>Ye9 I hg hm hv ⟨v,H,I,r,h⟩ hn hd
variable {a b:Expr} {ta tb:TE} {pos:Pos}
def PC (X:Cx) (op:CmpOp) (a b:Expr) (t:TE):Prop :=
 ∀ (pins:List (Addr×Obj)) (s:Shared) (σ:St) (H:Hp) (Q:VK),Inv X pins σ H s→t σ H Q →
  wpAny (model X.prog X.w) X.A (eval a X.env) (fun v s₁=>wpAny (model X.prog X.w) X.A (eval b X.env) (fun u s₂=>wpAny (model X.prog X.w) X.A (compareOp op v u) (EP X pins σ Q) X.xe s₂) X.xe s₁) X.xe s
def tB (t:TE):TT:=fun σ H Q=>t σ H fun x H1=>∃ c,x=.bl c∧Q c H1
theorem Xq3 {op:CmpOp} {t:TE} (h:PC X op a b t) (h1:behindInMarks op b=false:=by first | exact nobehind _ (by decide) (by decide) | rfl):PT X (.Compare a [op] [b] pos) (tB t):=by
 intro pins s σ H Q I hw;refine wpAny_isTrue_Compare1 (thn (h pins s σ H _ I hw) fun v s1 h1=>thn h1 fun u s2 h2=>thn h2 fun c s3 ⟨x,H1,I1,r1,q1⟩=>?_) h1;obtain⟨d,rfl,q⟩:=q1;cases r1;exact wpAny_truthy_bool ⟨H1,I1,q⟩
theorem Yd7 {e:Expr} {t:TE} (h:PE X e t) (he:∀ whole,isTrue e X.env whole=(do let v ← whole;standAt e.pos;holding [v] (truthy v)):=by intro _;rfl):PT X e (tB t):=by
 intro pins s σ H Q I hw;refine isTrue_plain (thn (h pins s σ H _ I hw) fun v s1 ⟨x,H1,I1,r1,q1⟩=>?_) (he _);obtain⟨d,rfl,q⟩:=q1;cases r1;exact wpAny_truthy_bool ⟨H1,I1,q⟩
variable {tA tB':TT} {rest:List Expr}
def tAnd (t u:TT):TT:=fun σ H Q=>t σ H fun c H1=>if c=true then u σ H1 Q else Q false H1
def tOr (t u:TT):TT:=fun σ H Q=>t σ H fun c H1=>if c=true then Q true H1 else u σ H1 Q
def tNot (t:TT):TT:=fun σ H Q=>t σ H fun c H1=>Q (!c) H1
theorem Zt7 (ha:PT X a tA):PW X (.BoolOp .And [a] pos) tA:=by
 intro wh pins s σ H Q I h;refine isTrue_and (thn (ha pins s σ H Q I h) fun c s1 e=>?_)
 cases c with
 | true=>exact isTrue_and_nil e
 | false=>exact e
theorem Zr4 (ha:PT X a tA):PW X (.BoolOp .Or [a] pos) tA:=by
 intro wh pins s σ H Q I h;refine isTrue_or (thn (ha pins s σ H Q I h) fun c s1 e=>?_)
 cases c with
 | false=>exact isTrue_or_nil e
 | true=>exact e
theorem Yd6 (ha:PT X a tA) (hb:PW X (.BoolOp .And (b :: rest) pos) tB'):PW X (.BoolOp .And (a :: b :: rest) pos) (tAnd tA tB'):=by
 intro wh pins s σ H Q I h;refine isTrue_and (thn (ha pins s σ H _ I h) fun c s1 zq=>?_);obtain⟨H1,I1,q1⟩:=zq
 cases c with
 | true=>exact hb wh pins s1 σ H1 Q I1 q1
 | false=>exact⟨H1,I1,q1⟩
theorem Yd5 (ha:PT X a tA) (hb:PW X (.BoolOp .Or (b :: rest) pos) tB'):PW X (.BoolOp .Or (a :: b :: rest) pos) (tOr tA tB'):=by
 intro wh pins s σ H Q I h;refine isTrue_or (thn (ha pins s σ H _ I h) fun c s1 zq=>?_);obtain⟨H1,I1,q1⟩:=zq
 cases c with
 | true=>exact⟨H1,I1,q1⟩
 | false=>exact hb wh pins s1 σ H1 Q I1 q1
theorem Yd8 (ha:PT X a tA):PT X (.UnaryOp .Not a pos) (tNot tA):=by
 intro pins s σ H Q I h;exact isTrue_not (ha pins s σ H (fun c H1=>Q (!c) H1) I h)
def Yh4 (ta tb:TE):TE:=fun σ H Q=>ta σ H fun x H1=>∃ c,x=.bl c∧if c=true then tb σ H1 Q else Q (.bl false) H1
theorem Yt8 {op} {t:TE} (h:PE X a t):PE X (.BoolOp op [a] pos) t:=fun pins s σ H Q I hw=>BoolOp_one (h pins s σ H Q I hw)
theorem Yu1 (ha:PE X a ta) (hb:PE X (.BoolOp .And (b :: rest) pos) tb):PE X (.BoolOp .And (a :: b :: rest) pos) (Yh4 ta tb):=by
 intro pins s σ H Q I h;refine BoolOp_and (thn (ha pins s σ H _ I h) fun v s1 zq=>?_);obtain⟨x,H1,I1,r1,q1⟩:=zq;obtain⟨c,rfl,q1⟩:=q1;cases r1;refine wpAny_truthy_bool ?_
 cases c with
 | true=>exact hb pins s1 σ H1 Q I1 q1
 | false=>exact⟨.bl false,H1,I1,rfl,q1⟩
end
def SqL (K:W.Frag) (H:Hp) (a:Addr) (xs:List V):Prop :=
 Rd H a (.lst xs) ∨
  ∃ (o:Obj) (its:Array Value) (n:Nat),K.lookup a=some o∧o.cls=.type "list"∧o.dict=none∧o.data=.seq its n∧its.size≤sizeLine∧Vals xs its.toList
def SqT (K:W.Frag) (H:Hp) (a:Addr) (xs:List V):Prop :=
 Rd H a (.tup xs) ∨
  ∃ (o:Obj) (its:Array Value) (n:Nat),K.lookup a=some o∧o.cls=.type "tuple"∧o.data=.seq its n∧its.size≤sizeLine∧Vals xs its.toList
noncomputable def absV:Value→Option V
 | .none=>some .non
 | .bool b=>some (.bl b)
 | .int i _=>some (.int i)
 | .str x _=>some (.str x)
 | .bytes b _=>some (.byt b)
 | .float b _=>some (.flt b)
 | .ref a=>some (.ref a)
 | .type n=>some (.ty n)
 | _=>none
theorem RelV.abs {x:V} {u:Value} (r:RelV x u):absV u=some x:=by
 cases x with
 | non=>cases r;rfl
 | bl _=>cases r;rfl
 | int _=>obtain⟨t,rfl⟩:=r;rfl
 | str _=>obtain⟨t,rfl⟩:=r;rfl
 | byt _=>obtain⟨t,rfl⟩:=r;rfl
 | flt _=>obtain⟨t,rfl⟩:=r;rfl
 | ref _=>cases r;rfl
 | ty _=>cases r;rfl
theorem RelV.inj {x y:V} {u:Value} (r:RelV x u) (q:RelV y u):x=y:=Option.some.inj (r.abs.symm.trans q.abs)
theorem Vals.inj:∀ {xs ys:List V} {us:List Value},Vals xs us→Vals ys us→xs=ys
 | _,_,_,.nil,.nil=>rfl
 | _,_,_,.cons r t,.cons r' t'=>by rw[r.inj r',Vals.inj t t']
section
variable {X:Cx} {pins:List (Addr×Obj)} {σ:St} {H:Hp} {s:Shared} {a:Addr} {xs ys:List V}
theorem SqL.of {K:W.Frag} (h:H a=some (.lst xs)):SqL K H a xs:=.inl (.inl h)
theorem Inv.list (I:Inv X pins σ H s) (h:SqL X.K H a xs):∃ its:List Value,Vals xs its∧PlainL s.heap a its.toArray∧xs.length≤sizeLine:=by
 rcases h with h | ⟨o,its,n,hk,hc,hd,hs,hz,r⟩
 ·obtain⟨z,its,n,r,e⟩:=h.ok I.hok
  exact⟨its,r,⟨_,n,e,rfl,rfl,rfl⟩,z⟩
 ·refine⟨its.toList,r,⟨o,n,I.kIn a o hk,hc,hd,by simpa using hs⟩,?_⟩
  have e:=r.length;simp only[Array.length_toList] at e;walk_at "o"
theorem Inv.tuple (I:Inv X pins σ H s) (h:SqT X.K H a xs):∃ its:List Value,Vals xs its∧IsTup s.heap a its.toArray∧xs.length≤sizeLine:=by
 rcases h with h | ⟨o,its,n,hk,hc,hs,hz,r⟩
 ·obtain⟨z,its,r,p⟩:=h.ok I.hok
  exact⟨its,r,p,z⟩
 ·refine⟨its.toList,r,⟨o,I.kIn a o hk,hc,n,by simpa using hs⟩,?_⟩
  have e:=r.length;simp only[Array.length_toList] at e;walk_at "o"
theorem Inv.list_inj (I:Inv X pins σ H s) (h:SqL X.K H a xs) (h':SqL X.K H a ys):xs=ys:=by
 obtain⟨its,r,⟨o,n,e,_,_,d⟩,_⟩:=I.list h;obtain⟨its',r',⟨o',n',e',_,_,d'⟩,_⟩:=I.list h';rw[e] at e';cases e';rw[d] at d';injection d' with d1 _
 have:its=its':=by simpa using congrArg Array.toList d1
 subst this;exact r.inj r'
theorem Inv.tuple_inj (I:Inv X pins σ H s) (h:SqT X.K H a xs) (h':SqT X.K H a ys):xs=ys:=by
 obtain⟨its,r,⟨o,e,_,n,d⟩,_⟩:=I.tuple h;obtain⟨its',r',⟨o',e',_,n',d'⟩,_⟩:=I.tuple h';rw[e] at e';cases e';rw[d] at d';injection d' with d1 _
 have:its=its':=by simpa using congrArg Array.toList d1
 subst this;exact r.inj r'
end
noncomputable abbrev Cx.wish (X:Cx) (E:Value→Shared→Prop):Cx:={ X with xe:=E }
noncomputable abbrev Cx.nox (X:Cx):Cx:=X.wish fun _ _=>False
theorem Cx.Ok.wish {X:Cx} (ok:X.Ok) (E:Value→Shared→Prop):(X.wish E).Ok :=
 ⟨ok.mod,ok.kind,ok.glob,ok.blt,ok.above,ok.inj,ok.has,ok.cab,ok.hd,ok.frames,ok.stk,ok.exf,ok.bs,ok.bsz,ok.noex,ok.exfs,ok.funs,ok.frf⟩
theorem Cx.Ok.unwish {X:Cx} {E:Value→Shared→Prop} (ok:(X.wish E).Ok):X.Ok :=
 ⟨ok.mod,ok.kind,ok.glob,ok.blt,ok.above,ok.inj,ok.has,ok.cab,ok.hd,ok.frames,ok.stk,ok.exf,ok.bs,ok.bsz,ok.noex,ok.exfs,ok.funs,ok.frf⟩
section
variable {X:Cx} {pins:List (Addr×Obj)} {σ:St} {H:Hp} {s:Shared} {E:Value→Shared→Prop}
theorem Inv.wish (I:Inv X pins σ H s) (E:Value→Shared→Prop):Inv (X.wish E) pins σ H s:=⟨I.ok.wish E,I.os,I.bare,I.base,I.loc,I.cell,I.free,I.freeC,I.pin,I.hok,I.len⟩
theorem Inv.unwish (I:Inv (X.wish E) pins σ H s):Inv X pins σ H s:=⟨I.ok.unwish,I.os,I.bare,I.base,I.loc,I.cell,I.free,I.freeC,I.pin,I.hok,I.len⟩
theorem SP.unwish {D:Ends} {f:Flow} {s':Shared} (h:SP (X.wish E) pins D f s'):SP X pins D f s':=by
 cases f with
 | next=>obtain⟨σ',H',I,q⟩:=h;exact⟨σ',H',I.unwish,q⟩
 | brk=>obtain⟨σ',H',I,q⟩:=h;exact⟨σ',H',I.unwish,q⟩
 | cont=>obtain⟨σ',H',I,q⟩:=h;exact⟨σ',H',I.unwish,q⟩
 | ret u=>obtain⟨v,σ',H',I,r,q⟩:=h;exact⟨v,σ',H',I.unwish,r,q⟩
theorem PSs.nox {st:List Stmt} {t:TS} (h:PSs X.nox st t):PSs X st t:=fun pins s σ H D I hw =>
 wpAny_mono (h pins s σ H D (I.wish _) hw) (fun _ _ q=>q.unwish) fun _ _ z=>False.elim z
end
section
variable {X:Cx} {st:Stmt} {rest:List Stmt} {t u:TS} {e:Expr} {te:TE} {pos:Pos}
def Yr9:TS:=fun D σ H=>D.nx σ H
def tSeq (t u:TS):TS:=fun D σ H=>t { D with nx:=u D } σ H
theorem Zb2:PSs X [] Yr9:=fun _ _ σ H _ I h=>wpAny_execs_nil ⟨σ,H,I,h⟩
theorem Za3 (h1:PS X st t) (h2:PSs X rest u):PSs X (st :: rest) (tSeq t u):=by
 intro pins s σ H D I h;refine wpAny_execs_cons (thn (h1 pins s σ H { D with nx:=u D } I h) fun f s1 q=>?_)
 cases f with
 | next =>
  obtain⟨σ',H',I',q⟩:=q;exact h2 pins s1 σ' H' D I' q
 | ret v=>exact q
 | brk=>exact q
 | cont=>exact q
theorem Za6 (h1:PS X st t):PSs X [st] t:=by
 intro pins s σ H D I h;refine wpAny_execs_cons (thn (h1 pins s σ H D I h) fun f s1 q=>?_)
 cases f with
 | next=>exact wpAny_execs_nil q
 | ret v=>exact q
 | brk=>exact q
 | cont=>exact q
theorem Inv.quiet {pins:List (Addr×Obj)} {σ:St} {H:Hp} {s:Shared} (I:Inv X pins σ H s):interactive X.env=false:=by simp[interactive,I.ok.kind]
def Xh5 (te:TE):TS:=fun D σ H=>te σ H fun _ H1=>D.nx σ H1
theorem Zf5 (he:PE X e te) (hs:swapsWith e none pos.line X.env=pure false:=by rfl):PS X (.Expr e pos) (Xh5 te):=by
 intro pins s σ H D I h;exact wpAny_Expr_any (thn (he pins s σ H _ I h) fun v s1 ⟨x,H1,I1,r1,q1⟩=>⟨σ,H1,I1,q1⟩) I.quiet hs
def tRet (te:TE):TS:=fun D σ H=>te σ H D.rt
theorem Zb1 (he:PE X e te):PS X (.Return (some e) pos) (tRet te):=by
 intro pins s σ H D I h;exact wpAny_Return_some (thn (he pins s σ H _ I h) fun v s1 ⟨x,H1,I1,r1,q1⟩=>⟨x,σ,H1,I1,r1,q1⟩)
def tIfS (c:TT) (t u:TS):TS:=fun D σ H=>c σ H fun b H1=>if b=true then t D σ H1 else u D σ H1
theorem Zc4 {c:Expr} {a b:List Stmt} {tc:TT} (hc:PT X c tc) (ha:PSs X a t) (hb:PSs X b u):PS X (.If c a b pos) (tIfS tc t u):=by
 intro pins s σ H D I h;refine wpAny_If (thn (hc pins s σ H _ I h) fun d s1 zq=>?_);obtain⟨H1,I1,q1⟩:=zq
 cases d with
 | true=>exact ha pins s1 σ H1 D I1 q1
 | false=>exact hb pins s1 σ H1 D I1 q1
end
noncomputable abbrev TG:=V→St→Hp→(St→Hp→Prop)→Prop
noncomputable abbrev TGs:=List V→St→Hp→(St→Hp→Prop)→Prop
def PG (X:Cx) (target:Expr) (t:TG):Prop :=
 ∀ (pins:List (Addr×Obj)) (s:Shared) (σ:St) (H:Hp) (v:V) (u:Value) (Q:St→Hp→Prop),Inv X pins σ H s→RelV v u→t v σ H Q →
  wpAny (model X.prog X.w) X.A (assign target X.env u) (fun _ s'=>∃ σ' H',Inv X pins σ' H' s'∧Q σ' H') X.xe s
def PGs (X:Cx) (ts:List Expr) (t:TGs):Prop :=
 ∀ (pins:List (Addr×Obj)) (s:Shared) (σ:St) (H:Hp) (vs:List V) (us:List Value) (Q:St→Hp→Prop),Inv X pins σ H s→Vals vs us→t vs σ H Q →
  wpAny (model X.prog X.w) X.A (assignInOrder ((assignEach ts X.env).map (·.2)) us) (fun _ s'=>∃ σ' H',Inv X pins σ' H' s'∧Q σ' H') X.xe s
noncomputable abbrev TIp:=V→V→Hp→VK→Prop
def PIp (X:Cx) (op:Operator) (t:TIp):Prop :=
 ∀ (pins:List (Addr×Obj)) (s:Shared) (σ:St) (H:Hp) (x y:V) (v u:Value) (Q:VK),Inv X pins σ H s→RelV x v→RelV y u→t x y H Q →
  wpAny (model X.prog X.w) X.A (inplaceOp op v u) (EP X pins σ Q) X.xe s
section
variable {X:Cx} {pos:Pos}
def Ya9 (i:Nat):TG:=fun v σ H Q=>Q (σ.set i (some v)) H
theorem Zc8 {i:Nat} {x:Str} (hN:X.N.Nodup) (hi:X.N[i]?=some x) (hx:Loc X.env.scope x) (hf:X.fn x=true∨X.env.scope.names.lookup x=some .local:=by first | exact .inl rfl | exact .inr rfl | assumption):PG X (.Name x pos) (Ya9 i):=by
 intro pins s σ H v u Q I r h;exact wpAny_assign_Name (Zi4 I hN hi hx r (fun s' I'=>⟨_,H,I',h⟩) hf)
def gNil:TGs:=fun vs σ H Q=>vs=[]∧Q σ H
def Yw5 (t:TG) (u:TGs):TGs:=fun vs σ H Q=>∃ v r,vs=v :: r∧t v σ H fun σ' H'=>u r σ' H' Q
theorem Zh6:PGs X [] gNil:=by
 intro pins s σ H vs us Q I r h;obtain⟨e,h⟩:=h;subst e;cases r;exact assignInOrder_nil ⟨σ,H,I,h⟩
theorem Zd1 {e:Expr} {es:List Expr} {t:TG} {u:TGs} (h1:PG X e t) (h2:PGs X es u)
  (hs:(assignEach (e :: es) X.env).map (·.2)=assign e X.env :: (assignEach es X.env).map (·.2):=by rfl):PGs X (e :: es) (Yw5 t u):=by
 intro pins s σ H vs us Q I r h;obtain⟨v,vr,e1,h⟩:=h;subst e1
 cases r with
 | cons r rr =>
  rw[hs];refine assignInOrder_cons (thn (h1 pins s σ H _ _ _ I r h) fun _ s1 zq=>?_);obtain⟨σ1,H1,I1,q1⟩:=zq;exact h2 pins s1 σ1 H1 _ _ Q I1 rr q1
def gTup (K:W.Frag) (n:Nat) (t:TGs):TG:=fun v σ H Q=>∃ a xs,v=.ref a∧SqT K H a xs∧xs.length=n∧t xs σ H Q
theorem Zk6 {es:List Expr} {k:Nat} {t:TGs} {n:Nat} (hc:X.calm=true) (h:PGs X es t)
  (hn:(assignEach es X.env).length=n:=by rfl) (hst:(assignEach es X.env).findIdx? (·.1)=none:=by rfl):PG X (.Tuple es k pos) (gTup X.K n t):=by
 intro pins s σ H v u Q I r hw;obtain⟨a,xs,e1,hq,hl,hw⟩:=hw;subst e1;cases r;obtain⟨its,rv,ht,hz⟩:=I.tuple hq;refine assign_Tuple_tuple (I.ok.hd hc) ht (by simp[hn,← hl,rv.length]) hst fun h' hx=>?_;have I1:Inv X pins σ H { s with heap:=h' }:=I.kept (t':=s.toks) fun b o e=>hx b o (Nat.ne_of_lt (Heap.lt_size e)) e;exact h pins _ σ H xs _ Q I1 (by simpa using rv) hw
def tAsg (te:TE) (g:TG):TS:=fun D σ H=>te σ H fun x H1=>g x σ H1 D.nx
theorem Zk5 {tg e:Expr} {te:TE} {g:TG} (he:PE X e te) (hg:PG X tg g) (hs:swapsWithSole [tg] e pos.line X.env=pure false:=by rfl) (hw:swappedStores [tg] e X.env=pure none:=by rfl)
  (h1:(assignEach [tg] X.env).map (·.2)=[assign tg X.env]:=by rfl):PS X (.Assign [tg] e pos) (tAsg te g):=by
 intro pins s σ H D I h;refine wpAny_Assign_stores (thn (he pins s σ H _ I h) fun v s1 ⟨x,H1,I1,r1,q1⟩=>?_) hs hw;rw[h1];exact thn (hg pins s1 σ H1 x v _ I1 r1 q1) fun _ s2 q=>q
theorem Yt2 {i:Nat} {x:Str} {e:Expr} {te:TE} {pos':Pos} (hN:X.N.Nodup) (hi:X.N[i]?=some x) (hx:Loc X.env.scope x) (he:PE X e te) (hs:swapsWith e (some (.Name x pos')) pos.line X.env=pure false:=by rfl) (hf:X.fn x=true∨X.env.scope.names.lookup x=some .local:=by first | exact .inl rfl | exact .inr rfl | assumption) :
  PS X (.Assign [.Name x pos'] e pos) (tAsg te (Ya9 i)):=by
 intro pins s σ H D I h;refine wpAny_Assign_Name (thn (he pins s σ H _ I h) fun v s1 ⟨y,H1,I1,r1,q1⟩=>?_) hs;exact Zi4 I1 hN hi hx r1 (fun s2 I2=>⟨_,H1,I2,q1⟩) hf
def tAug (i:Nat) (te:TE) (ti:TIp):TS:=fun D σ H=>∃ x,σ[i]?=some (some x)∧te σ H fun y H1=>ti x y H1 fun z H2=>D.nx (σ.set i (some z)) H2
theorem Xq5 {i:Nat} {x:Str} {e:Expr} {te:TE} {op:Operator} {ti:TIp} {pos':Pos} (hN:X.N.Nodup) (hi:X.N[i]?=some x) (hx:Loc X.env.scope x) (he:PE X e te) (ho:PIp X op ti) (hf:X.fn x=true∨X.env.scope.names.lookup x=some .local:=by first | exact .inl rfl | exact .inr rfl | assumption) :
  PS X (.AugAssign (.Name x pos') op e pos) (tAug i te ti):=by
 intro pins s σ H D I h;obtain⟨v,e1,h⟩:=h;obtain⟨m,hn,hl⟩:=I.loc
 have vis:Vis X.env.scope x:=by rcases hx with k | k;exact .inl k;exact .inr (.inl k)
 obtain⟨u,r,l⟩:=hl i x v hi e1 vis;refine wpAny_AugAssign_Name ?_
 have go:wpAny (model X.prog X.w) X.A (eval e X.env) (fun w s₂=>wpAny (model X.prog X.w) X.A (inplaceOp op u w) (fun r s₃=>wpAny (model X.prog X.w) X.A (storeName X.env x r) (fun _=>SP X pins D .next) X.xe s₃) X.xe s₂) X.xe s:=by
  refine thn (he pins s σ H _ I h) fun w s1 zq=>?_;obtain⟨y,H1,I1,r1,q1⟩:=zq;refine thn (ho pins s1 σ H1 v y u w _ I1 r r1 q1) fun z s2 zq=>?_;obtain⟨zv,H2,I2,r2,q2⟩:=zq;exact Zi4 I2 hN hi hx r2 (fun s3 I3=>⟨_,H2,I3,q2⟩) hf
 rcases l with ⟨hk,hm⟩ | ⟨hk,c,hc,hcell⟩
 ·exact wpAny_loadName_local I.ok.kind hk hn hm go
 ·rcases hk with hk | hk
  ·exact wpAny_loadName_cell I.ok.kind hk hc hcell go
  ·rcases hx with k | k
   ·have:X.env.scope.names.lookup x=some .free:=hk
    rw[k] at this;cases this
   ·have:X.env.scope.names.lookup x=some .free:=hk
    rw[k] at this;cases this
noncomputable def ipI (f:Int→Int→Int):TIp:=fun x y H Q=>∃ i j,x=.int i∧y=.int j∧Q (.int (f i j)) H
theorem Xx5:PIp X .Add (ipI fun i j=>i+j):=by
 intro pins s σ H x y v u Q I r1 r2 h;obtain⟨i,j,e1,e2,q⟩:=h;subst e1;subst e2;obtain⟨t,rfl⟩:=r1;obtain⟨t',rfl⟩:=r2;exact iadd_int ⟨.int _,H,I.tok _,⟨_,rfl⟩,q⟩
end
section
variable {X:Cx} {pos:Pos}
def Xn8 (c:TT) (tb:TS):TS:=fun D σ H=>∃ W:Nat→St→Hp→Prop,(∃ m,W m σ H)∧∀ m σ H,W m σ H →
 c σ H fun b H1=>if b=true then ∃ N:St→Hp→Prop,(∀ σ' H',N σ' H'→∃ m',m' < m∧W m' σ' H')∧tb { D with nx:=N,ct:=N,bk:=D.nx } σ H1 else D.nx σ H1
theorem Zz2 {c:Expr} {body:List Stmt} {tc:TT} {tb:TS} (hp:PassesOwn (model X.prog X.w) X.A X.env X.xe) (hc:PT X c tc) (hb:PSs X body tb):PS X (.While c body [] pos) (Xn8 tc tb):=by
 intro pins s σ H D I h;obtain⟨W,⟨m0,w0⟩,turn⟩:=h;refine wpAny_While (codeAny_whileLoop (fun n s'=>∃ σ' H',Inv X pins σ' H' s'∧W n σ' H') ?_ m0 ⟨σ,H,I,w0⟩);rintro n s1 ⟨σ1,H1,I1,w1⟩;refine wpAny_passesOwn hp (thn (hc pins s1 σ1 H1 _ I1 (turn n σ1 H1 w1)) fun b s2 zq=>?_);obtain⟨H2,I2,q2⟩:=zq
 cases b with
 | true =>
  obtain⟨N,hN,q2⟩:=q2;rw[if_pos rfl];refine wpAny_passesOwn hp (thn (hb pins s2 σ1 H2 _ I2 q2) fun f s3 q3=>?_)
  cases f with
  | next =>
   obtain⟨σ3,H3,I3,n3⟩:=q3;obtain⟨m',hm,w3⟩:=hN σ3 H3 n3;exact⟨m',hm,σ3,H3,I3,w3⟩
  | cont =>
   obtain⟨σ3,H3,I3,n3⟩:=q3;obtain⟨m',hm,w3⟩:=hN σ3 H3 n3;exact⟨m',hm,σ3,H3,I3,w3⟩
  | brk=>exact q3
  | ret v=>exact q3
 | false =>
  rw[if_neg Bool.false_ne_true];exact wpAny_execs_nil ⟨σ1,H2,I2,q2⟩
end
structure It where
 go:Nat→Hp→Prop
 yld:Nat→Hp→V→Hp→Prop
 stop:Nat→Hp→Prop
def FpOk (X:Cx) (pins:List (Addr×Obj)) (H:Hp) (b:Addr):Prop :=
 H b=none∧b≠X.env.locals∧b ∉ X.fs∧(b∈X.ex∨X.s₀.heap.objs.size≤b)∧(∀ x c,X.env.cells.lookup x=some c→c≠b)∧∀ p∈X.pn++pins,p.1≠b
theorem Inv.fpOk {X:Cx} {pins:List (Addr×Obj)} {σ:St} {H H':Hp} {s:Shared} {b:Addr} (I:Inv X pins σ H s) (hb:s.heap.objs.size≤b) (hn:H' b=none):FpOk X pins H' b:=by
 refine⟨hn,Nat.ne_of_gt (Nat.lt_of_lt_of_le I.lt hb),I.nofs hb,.inr (Nat.le_trans I.sz hb),fun x c e z=>?_,fun p hp z=>?_⟩
 ·obtain⟨v,q⟩:=I.cell x c e
  exact absurd (Nat.lt_of_lt_of_le q.lt (by rw[z];exact hb)) (Nat.lt_irrefl _)
 ·exact absurd (Nat.lt_of_lt_of_le (Heap.lt_size (I.pin p hp).1) (by rw[z];exact hb)) (Nat.lt_irrefl _)
structure Turn (P:Program) (w:World) (K:W.Frag) (tg:Expr) (J:It) (fp:List Addr) (it:Addr) (tn:Nat→Heap→Prop):Prop where
  mem:it∈fp
  obj:∀ i h,tn i h→∀ b∈fp,∃ o,h.get? b=some o∧∀ v,o.data≠.cell v
  keep:∀ i h h',tn i h→(∀ b∈fp,∀ o,h.get? b=some o→h'.get? b=some o)→tn i h'
  item:∀ (X:Cx),X.prog=P→X.w=w→X.K=K→X.calm=true→∀ (i:Nat) (pins:List (Addr×Obj)) (s:Shared) (σ:St) (H:Hp) (E:Value→Shared→Prop),Inv X pins σ H s→(∀ b∈fp,FpOk X pins H b)→tn i s.heap→J.go i H →
    wpAny (model P w) X.A (pyNext (.ref it)) (fun r s1=>∃ u,r=some u ∧
      wpAny (model P w) X.A (letOwnedTupleGo tg (.ref it) u) (fun _ s2=>∃ x H',Inv X pins σ H' s2∧RelV x u∧J.yld i H x H'∧tn (i+1) s2.heap∧∀ b∈fp,H' b=none) E s1) E s
  done:∀ (X:Cx),X.prog=P→X.w=w→X.K=K→X.calm=true→∀ (i:Nat) (pins:List (Addr×Obj)) (s:Shared) (σ:St) (H:Hp) (E:Value→Shared→Prop),Inv X pins σ H s→(∀ b∈fp,FpOk X pins H b)→tn i s.heap→J.stop i H →
    wpAny (model P w) X.A (pyNext (.ref it)) (fun r s1=>r=none∧Inv X pins σ H s1) E s
  self:∀ (A:Around) (i:Nat) (s:Shared) (Q:Value→Shared→Prop) (E:Value→Shared→Prop),tn i s.heap→Q (.ref it) s→wpAny (model P w) A (pyIter (.ref it)) Q E s
noncomputable abbrev TI:=St→Hp→(It→Hp→Prop)→Prop
def PIE (X:Cx) (pins:List (Addr×Obj)) (σ:St) (tg:Expr) (R:It→Hp→Prop) (itv:Value) (s2:Shared):Prop :=
 ∃ (it:Addr) (fp:List Addr) (tn:Nat→Heap→Prop) (J:It) (H':Hp),itv=.ref it∧Inv X pins σ H' s2∧Turn X.prog X.w X.K tg J fp it tn∧tn 0 s2.heap∧(∀ b∈fp,FpOk X pins H' b)∧R J H'
def PI (X:Cx) (tg iter:Expr) (wi:TI):Prop :=
 ∀ (pins:List (Addr×Obj)) (s:Shared) (σ:St) (H:Hp) (R:It→Hp→Prop),Inv X pins σ H s→wi σ H R →
  wpAny (model X.prog X.w) X.A (eval iter X.env) (fun v s1=>wpAny (model X.prog X.w) X.A (pyIter v) (PIE X pins σ tg R) X.xe s1) X.xe s
theorem Xl0 {M:Model} {A:Around} {E:Value→Shared→Prop} {s:Shared} {tg:Expr} {it:Addr} {u:Value} {o:Obj} {n:String} {vs:Array Value} {Q:Unit→Shared→Prop} (ho:s.heap.get? it=some o) (hc:o.cls=.type n) (hd:o.data=.fields vs)
    (hn:["enumerate","zip","dict_itemiterator","dict_reverseitemiterator","odict_iterator","itertools.zip_longest","itertools.pairwise"].contains n=false) (hQ:Q () s):wpAny M A (letOwnedTupleGo tg (.ref it) u) Q E s:=by
  unfold letOwnedTupleGo
  cases tg<;>first
    | exact wpAny_pure hQ
    | (cases u<;>first
        | exact wpAny_pure hQ
        | (refine wpAny_bind (wpAny_load ho ?_)
           rw[hc,hd];show wpAny M A (if (["enumerate","zip","dict_itemiterator","dict_reverseitemiterator","odict_iterator","itertools.zip_longest","itertools.pairwise"].contains n&&vs[0]? == some (rawInt _))=true then _ else _) Q E s;rw[if_neg (by intro h;rw[hn,Bool.false_and] at h;cases h)]
           exact wpAny_pure hQ))
noncomputable def Itl (K:W.Frag) (a:Addr):It :=
 ⟨fun i H=>∃ xs x,SqL K H a xs∧xs[i]?=some x,fun i H x H'=>H'=H∧∀ xs,SqL K H a xs→xs[i]?=some x,fun i H=>∃ xs,SqL K H a xs∧xs.length≤i⟩
noncomputable def Itr (lo:Int) (n:Nat):It:=⟨fun i _=>i < n,fun i H x H'=>H'=H∧x=.int (lo+i),fun i _=>n≤i⟩
theorem Yr1 {P:Program} {w:World} {K:W.Frag} {tg:Expr} (a it:Addr):Turn P w K tg (Itl K a) [it] it (fun i h=>h.IsListIter it a i) where
  mem:=by simp
  obj:=fun i h st b hb=>by
    have e:b=it:=by simpa using hb
    subst e;obtain⟨o,e,c,d⟩:=st;exact⟨o,e,fun v z=>by rw[d] at z;cases z⟩
  keep:=fun i h h' st k=>st.at fun o e=>k it (by simp) o e
  item:=by
    intro X hP hw hK hc i pins s σ H E I hf st hg;subst hP hw hK;obtain⟨xs,x,hq,hx⟩:=hg;obtain⟨its,rv,p,hz⟩:=I.list hq;obtain⟨u,hu,ru⟩:=rv.get hx;obtain⟨f0,f1,f2,f3,f4,f5⟩:=hf it (by simp);refine wpAny_pyNext_list_item st p.isList (x:=u) (by simpa using hu) fun h' st' sb=>?_;have I1:Inv X pins σ H { s with heap:=h' }:=I.turned (t':=s.toks) (fun b o hb e=>(sb.2 b hb).trans e) f0 f1 f3 f4 f5;obtain⟨o,e,c,d⟩:=id st';exact⟨u,rfl,Xl0 (s:={ s with heap:=h' }) e c d (by decide) ⟨x,H,I1,ru,⟨rfl,fun ys hy=>by rw[I.list_inj hy hq];exact hx⟩,st',fun b hb=>(hf b hb).1⟩⟩
  done:=by
    intro X hP hw hK hc i pins s σ H E I hf st hg;subst hP hw hK;obtain⟨xs,hq,hx⟩:=hg;obtain⟨its,rv,p,hz⟩:=I.list hq;obtain⟨f0,f1,f2,f3,f4,f5⟩:=hf it (by simp);have hl:=rv.length;exact wpAny_pyNext_list_end (I.ok.hd hc) st p.isList (by simp;walk_at "o") fun h' eb=>⟨rfl,I.turned (t':=s.toks) (fun b o hb e=>eb b o hb e) f0 f1 f3 f4 f5⟩
  self:=fun _ _ _ _ _ st h=>wpAny_pyIter_listiter st h
theorem Yn9 {P:Program} {w:World} {K:W.Frag} {tg:Expr} (it:Addr) (lo:Int) (n:Nat):Turn P w K tg (Itr lo n) [it] it (fun i h=>IsRangeIter h it (lo+(i:Nat)*1) ((n:Int) - (i:Nat)) 1) where
  mem:=by simp
  obj:=fun i h st b hb=>by
    have e:b=it:=by simpa using hb
    subst e
    exact⟨_,st,fun v z=>by
      have z':Data.fields _=Data.cell v:=z
      cases z'⟩
  keep:=fun i h h' st k=>k it (by simp) _ st
  item:=by
    intro X hP hw hK hc i pins s σ H E I hf st hg;subst hP hw hK;obtain⟨f0,f1,f2,f3,f4,f5⟩:=hf it (by simp);have W:=Walks.range (prog:=X.prog) (w:=X.w) (I.ok.hd hc) it lo 1 n;refine W.item i s _ _ hg st fun v h' tk hv st' kk=>?_;obtain⟨t,rfl⟩:=hv;have I1:Inv X pins σ H { s with heap:=h',toks:=tk }:=I.turned (fun b o hb e=>kk b o (by simpa using hb) e) f0 f1 f3 f4 f5;refine⟨_,rfl,Xl0 (s:={ s with heap:=h',toks:=tk }) (n:="range_iterator") st' rfl rfl (by decide) ⟨.int (lo+i),H,I1,⟨t,?_⟩,⟨rfl,rfl⟩,st',fun b hb=>(hf b hb).1⟩⟩;rw[Int.mul_one]
  done:=by
    intro X hP hw hK hc i pins s σ H E I hf st hg;subst hP hw hK;obtain⟨f0,f1,f2,f3,f4,f5⟩:=hf it (by simp);exact wpAny_pyNext_range_end (I.ok.hd hc) st (by have:n≤i:=hg;walk_at "o") fun h' eb=>⟨rfl,I.turned (t':=s.toks) (fun b o hb e=>eb b o hb e) f0 f1 f3 f4 f5⟩
  self:=fun _ _ _ _ _ st h=>wpAny_pyIter_rangeiter st h
section
variable {X:Cx} {tg:Expr}
def Yj3 (K:W.Frag) (tl:TE):TI:=fun σ H R=>tl σ H fun x H1=>∃ a,x=.ref a∧(∃ xs,SqL K H1 a xs)∧R (Itl K a) H1
theorem Xi3 {l:Expr} {tl:TE} (hl:PE X l tl):PI X tg l (Yj3 X.K tl):=by
 intro pins s σ H R I h;refine thn (hl pins s σ H _ I h) fun v s1 zq=>?_;obtain⟨x,H1,I1,r1,q1⟩:=zq;obtain⟨a,e,⟨xs,hq⟩,q⟩:=q1;subst e;cases r1;obtain⟨its,rv,p,hz⟩:=I1.list hq;refine wpAny_pyIter_list p.isList ?_;refine⟨s1.heap.objs.size,[s1.heap.objs.size],_,_,H1,rfl,I1.kept (t':=s1.toks) fun b o e=>Heap.get?_push_of_some _ e,Yr1 a _,⟨_,Heap.get?_push_size _ rfl,rfl,rfl⟩,fun b hb=>?_,q⟩
 have e:b=s1.heap.objs.size:=by simpa using hb
 subst e;exact I1.fpOk (Nat.le_refl _) (I1.hok.fresh (Nat.le_refl _))
theorem Xb5 {pins:List (Addr×Obj)} {σ:St} {H:Hp} {s:Shared} {R:It→Hp→Prop} {E:Value→Shared→Prop} {lo hi:Int} {t u v:Tok} {tk:Nat} (I:Inv X pins σ H s) (h1:-(2 ^ 62)≤lo) (h2:lo < 2 ^ 62) (h3:-(2 ^ 62)≤hi) (h4:hi < 2 ^ 62)
  (q:R (Itr lo (hi - lo).toNat) H):wpAny (model X.prog X.w) X.A (pyIter (.ref s.heap.objs.size)) (PIE X pins σ tg R) E { s with heap:=s.heap.push { cls:=.type "range",data:=.fields #[.int lo t,.int hi u,.int 1 v] },toks:=tk }:=by
 refine wpAny_pyIter_range (IsRange.new ..) (small_one h1 h2 h3 h4) ?_;have I1:Inv X pins σ H { s with heap:=s.heap.push { cls:=.type "range",data:=.fields #[.int lo t,.int hi u,.int 1 v] },toks:=tk }:=I.kept fun b o e=>Heap.get?_push_of_some _ e
 refine⟨(s.heap.push { cls:=.type "range",data:=.fields #[.int lo t,.int hi u,.int 1 v] }).objs.size,[(s.heap.push { cls:=.type "range",data:=.fields #[.int lo t,.int hi u,.int 1 v] }).objs.size],_,_,H,rfl,
  I1.kept (t':=tk) fun b o e=>Heap.get?_push_of_some _ e,Yn9 _ lo (hi - lo).toNat,?_,fun b hb=>?_,q⟩
 ·have e1:lo+((0:Nat):Int)*1=lo:=by simp
  have e2:(((hi - lo).toNat:Nat):Int) - ((0:Nat):Int)=Builtin.Range.rangeSize lo hi 1:=by rw[rangeSize_one];split<;>walk_at "o"
  show IsRangeIter _ _ (lo+((0:Nat):Int)*1) ((((hi - lo).toNat:Nat):Int) - ((0:Nat):Int)) 1;rw[e1,e2];exact Heap.get?_push_size _ rfl
 ·have e:b=(s.heap.push { cls:=.type "range",data:=.fields #[.int lo t,.int hi u,.int 1 v] }).objs.size:=by simpa using hb
  subst e;exact I1.fpOk (Nat.le_refl _) (I1.hok.fresh (Nat.le_refl _))
def Yj2 (ta:TA):TI:=fun σ H R=>ta σ H fun vs H1=>∃ j:Int,vs=[.int j]∧-(2 ^ 62)≤j∧j < 2 ^ 62∧R (Itr 0 j.toNat) H1
theorem Zl8 {a:Expr} {ta:TA} {p pos:Pos} (hg:Gl X "range") (hm:X.mg "range"=none) (ha:PA X [a] ta) (hs:starEach [a] X.env=[(false,eval a X.env)]:=by rfl):PI X tg (.Call (.Name "range" p) [a] [] pos) (Yj2 ta):=by
 intro pins s σ H R I h;refine Call_ (Ye9 I hg hm boot_range (PyProof.Rows.callWith_type1 (thn (ha pos pins s σ H _ I h) fun us s1 ⟨vs,H1,I1,r1,q1⟩=>?_) hs rfl));obtain⟨j,e,q1,q2,q⟩:=q1;subst e
 cases r1 with
 | cons r rr =>
  cases rr;obtain⟨t,rfl⟩:=r;exact call_range_1 (Xb5 I1 (by walk_at "o") (by walk_at "o") q1 q2 (by simpa using q))
def tFor (wi:TI) (g:TG) (tb:TS):TS:=fun D σ H=>wi σ H fun J H1=>∃ W:Nat→Nat→St→Hp→Prop,(∃ m,W 0 m σ H1)∧∀ i m σ H,W i m σ H →
 (J.stop i H∧D.nx σ H)∨(J.go i H∧∃ N:St→Hp→Prop,(∀ σ' H',N σ' H'→∃ m',m' < m∧W (i+1) m' σ' H')∧∀ x H',J.yld i H x H'→g x σ H' fun σ2 H2=>tb { D with nx:=N,ct:=N,bk:=D.nx } σ2 H2)
noncomputable def Yl6 (fp:List Addr) (h:Heap):List (Addr×Obj):=fp.filterMap fun b=>(h.get? b).map fun o=>(b,o)
theorem Zm3 {fp:List Addr} {h:Heap} {b:Addr} {o:Obj} (hb:b∈fp) (e:h.get? b=some o):(b,o)∈Yl6 fp h:=List.mem_filterMap.mpr ⟨b,hb,by rw[e];rfl⟩
theorem Yu4 {fp:List Addr} {h:Heap} {p:Addr×Obj} (hp:p∈Yl6 fp h):p.1∈fp∧h.get? p.1=some p.2:=by
 obtain⟨b,hb,e⟩:=List.mem_filterMap.mp hp
 cases q:h.get? b with
 | none=>rw[q] at e;cases e
 | some o =>
  rw[q] at e;have e':(b,o)=p:=Option.some.inj e;subst e';exact⟨hb,q⟩
theorem Inv.pinned {pins:List (Addr×Obj)} {σ:St} {H:Hp} {s:Shared} {fp:List Addr} (I:Inv X pins σ H s) (hf:∀ b∈fp,FpOk X pins H b) (ho:∀ b∈fp,∃ o,s.heap.get? b=some o∧∀ v,o.data≠.cell v):Inv X (pins++Yl6 fp s.heap) σ H s :=
 I.pins_of fun p hp=>(List.mem_append.mp hp).elim (fun z=>I.pin p (List.mem_append_right _ z)) fun z=>by
  obtain⟨hb,e⟩:=Yu4 z;obtain⟨f0,f1,f2,_⟩:=hf p.1 hb;obtain⟨o,e',d⟩:=ho p.1 hb;rw[e] at e';cases e';exact⟨e,f0,f1,f2,d⟩
theorem Inv.unpinned {pins pl:List (Addr×Obj)} {σ:St} {H:Hp} {s:Shared} (I:Inv X (pins++pl) σ H s):Inv X pins σ H s:=I.pins_of fun p hp=>I.pin p (List.mem_append_right _ (List.mem_append_left _ hp))
theorem Yd9 {iter:Expr} {body:List Stmt} {wi:TI} {g:TG} {tb:TS} {pos:Pos} (hp:PassesOwn (model X.prog X.w) X.A X.env X.xe) (hc:X.calm=true) (hi:PI X tg iter wi) (hg:PG X tg g) (hb:PSs X body tb)
  (hs:∀ x,foldedSetIterable iter X.env x=pure x:=by intro _;rfl):PS X (.For tg iter body [] pos) (tFor wi g tb):=by
 intro pins s σ H D I h;refine wpAny_For (thn (hi pins s σ H _ I h) fun v s1 h1=>thn h1 fun itv s2 h2=>?_) hs;obtain⟨it,fp,tn,J,H2,e,I2,T,st2,f2,W,⟨m0,w0⟩,turn⟩:=h2;subst e;have stat:∀ {H':Hp},(∀ b∈fp,H' b=none)→∀ b∈fp,FpOk X pins H' b:=fun hn b hb=>⟨hn b hb,(f2 b hb).2⟩;refine codeAny_forLoop_any (fun n s'=>∃ i σ' H',Inv X pins σ' H' s'∧tn i s'.heap∧(∀ b∈fp,H' b=none)∧W i n σ' H') ?_ m0 ⟨0,σ,H2,I2,st2,fun b hb=>(f2 b hb).1,w0⟩;rintro n s3 ⟨i,σ3,H3,I3,st3,fr3,w3⟩;rcases turn i n σ3 H3 w3 with ⟨stop,qn⟩ | ⟨go,N,hN,step⟩
 ·refine wpAny_passesOwn hp (thn (T.done X rfl rfl rfl hc i pins s3 σ3 H3 X.xe I3 (stat fr3) st3 stop) fun r s4 zq=>?_);obtain⟨hr,I4⟩:=zq
  subst hr;exact wpAny_execs_nil ⟨σ3,H3,I4,qn⟩
 ·refine wpAny_passesOwn hp (thn (T.item X rfl rfl rfl hc i pins s3 σ3 H3 X.xe I3 (stat fr3) st3 go) fun r s4 zq=>?_);obtain⟨u,hr,h4⟩:=zq
  subst hr;refine wpAny_passesOwn hp (thn h4 fun _ s5 zq=>?_);obtain⟨x,H5,I5,r5,y5,st5,fr5⟩:=zq;have I5':=I5.pinned (stat fr5) (T.obj _ _ st5);refine wpAny_passesOwn hp (thn (hg _ s5 σ3 H5 x u _ I5' r5 (step x H5 y5)) fun _ s6 zq=>?_);obtain⟨σ6,H6,I6,q6⟩:=zq;refine wpAny_passesOwn hp (thn (hb _ s6 σ6 H6 _ I6 q6) fun f s7 q7=>?_)
  have again:∀ {σ7:St} {H7:Hp},Inv X (pins++Yl6 fp s5.heap) σ7 H7 s7→N σ7 H7→∃ m,m < n∧∃ i σ' H',Inv X pins σ' H' s7∧tn i s7.heap∧(∀ b∈fp,H' b=none)∧W i m σ' H':=fun {σ7 H7} I7 n7=>by
   obtain⟨m',hm,w7⟩:=hN σ7 H7 n7;refine⟨m',hm,i+1,σ7,H7,I7.unpinned,T.keep _ _ _ st5 fun b hb o e=>(I7.pin (b,o) (List.mem_append_right _ (List.mem_append_right _ (Zm3 hb e)))).1,fun b hb=>?_,w7⟩;obtain⟨o,e,d⟩:=T.obj _ _ st5 b hb;exact (I7.pin (b,o) (List.mem_append_right _ (List.mem_append_right _ (Zm3 hb e)))).2.1
  cases f with
  | next=>obtain⟨σ7,H7,I7,n7⟩:=q7;exact again I7 n7
  | cont=>obtain⟨σ7,H7,I7,n7⟩:=q7;exact again I7 n7
  | brk=>obtain⟨σ7,H7,I7,q7⟩:=q7;exact⟨σ7,H7,I7.unpinned,q7⟩
  | ret v=>obtain⟨x7,σ7,H7,I7,r7,q7⟩:=q7;exact⟨x7,σ7,H7,I7.unpinned,r7,q7⟩
end
theorem Xd3 {K:W.Frag} {a:Addr} {xs:List V} {g:TG} {tb:TS} {D:Ends} {σ:St} {H:Hp} (Pv:Nat→St→Hp→Prop) (h0:Pv 0 σ H) (hl:∀ i σ H,i≤xs.length→Pv i σ H→SqL K H a xs)
  (hs:∀ i x σ H,xs[i]?=some x→Pv i σ H→g x σ H fun σ2 H2=>tb { D with nx:=Pv (i+1),ct:=Pv (i+1),bk:=D.nx } σ2 H2) (hd:∀ σ H,Pv xs.length σ H→D.nx σ H) :
  ∃ W:Nat→Nat→St→Hp→Prop,(∃ m,W 0 m σ H)∧∀ i m σ H,W i m σ H →
   ((Itl K a).stop i H∧D.nx σ H)∨((Itl K a).go i H∧∃ N:St→Hp→Prop,(∀ σ' H',N σ' H'→∃ m',m' < m∧W (i+1) m' σ' H')∧∀ x H',(Itl K a).yld i H x H'→g x σ H' fun σ2 H2=>tb { D with nx:=N,ct:=N,bk:=D.nx } σ2 H2):=by
 refine⟨fun i m σ H=>m=xs.length - i∧i≤xs.length∧Pv i σ H,⟨xs.length,by simp,Nat.zero_le _,h0⟩,?_⟩;rintro i m σ H ⟨rfl,hi,p⟩;have q:=hl i σ H hi p
 by_cases hlt:i < xs.length
 ·refine .inr ⟨⟨xs,xs[i],q,by simp[hlt]⟩,Pv (i+1),fun σ' H' p'=>⟨xs.length - (i+1),by walk_at "o",rfl,hlt,p'⟩,fun x H' y=>?_⟩
  obtain⟨e,y⟩:=y;subst e;exact hs i x σ _ (y xs q) p
 ·have e:i=xs.length:=by walk_at "o"
  subst e;exact .inl ⟨⟨xs,q,Nat.le_refl _⟩,hd σ H p⟩
theorem Zv1 {lo:Int} {n:Nat} {g:TG} {tb:TS} {D:Ends} {σ:St} {H:Hp} (Pv:Nat→St→Hp→Prop) (h0:Pv 0 σ H)
  (hs:∀ i σ H,i < n→Pv i σ H→g (.int (lo+i)) σ H fun σ2 H2=>tb { D with nx:=Pv (i+1),ct:=Pv (i+1),bk:=D.nx } σ2 H2) (hd:∀ σ H,Pv n σ H→D.nx σ H) :
  ∃ W:Nat→Nat→St→Hp→Prop,(∃ m,W 0 m σ H)∧∀ i m σ H,W i m σ H →
   ((Itr lo n).stop i H∧D.nx σ H)∨((Itr lo n).go i H∧∃ N:St→Hp→Prop,(∀ σ' H',N σ' H'→∃ m',m' < m∧W (i+1) m' σ' H')∧∀ x H',(Itr lo n).yld i H x H'→g x σ H' fun σ2 H2=>tb { D with nx:=N,ct:=N,bk:=D.nx } σ2 H2):=by
 refine⟨fun i m σ H=>m=n - i∧i≤n∧Pv i σ H,⟨n,by simp,Nat.zero_le _,h0⟩,?_⟩;rintro i m σ H ⟨rfl,hi,p⟩
 by_cases hlt:i < n
 ·refine .inr ⟨hlt,Pv (i+1),fun σ' H' p'=>⟨n - (i+1),by walk_at "o",rfl,hlt,p'⟩,fun x H' y=>?_⟩
  obtain⟨e,y⟩:=y;subst e y;exact hs i σ _ hlt p
 ·have e:i=n:=by walk_at "o"
  subst e;exact .inl ⟨Nat.le_refl _,hd σ H p⟩
noncomputable abbrev R2:=V→V→Hp→VK→Prop
def OpR (X:Cx) (f:Value→Value→Sem Value) (r:R2):Prop :=
 ∀ (pins:List (Addr×Obj)) (s:Shared) (σ:St) (H:Hp) (x y:V) (v u:Value) (Q:VK),Inv X pins σ H s→RelV x v→RelV y u→r x y H Q →
  wpAny (model X.prog X.w) X.A (f v u) (EP X pins σ Q) X.xe s
def UnR (X:Cx) (f:Value→Sem Value) (r:V→Hp→VK→Prop):Prop :=
 ∀ (pins:List (Addr×Obj)) (s:Shared) (σ:St) (H:Hp) (x:V) (v:Value) (Q:VK),Inv X pins σ H s→RelV x v→r x H Q →
  wpAny (model X.prog X.w) X.A (f v) (EP X pins σ Q) X.xe s
def Zr0 (X:Cx) (f:Value) (r:List V→Hp→VK→Prop):Prop :=
 ∀ (pins:List (Addr×Obj)) (s:Shared) (σ:St) (H:Hp) (xs:List V) (us:List Value) (Q:VK),Inv X pins σ H s→Vals xs us→r xs H Q →
  wpAny (model X.prog X.w) X.A (call f us) (EP X pins σ Q) X.xe s
def TruR (X:Cx) (r:V→Hp→(Bool→Hp→Prop)→Prop):Prop :=
 ∀ (pins:List (Addr×Obj)) (s:Shared) (σ:St) (H:Hp) (x:V) (v:Value) (Q:Bool→Hp→Prop),Inv X pins σ H s→RelV x v→r x H Q →
  wpAny (model X.prog X.w) X.A (truthy v) (TP X pins σ Q) X.xe s
def tOp (r:R2) (ta tb:TE):TE:=fun σ H Q=>ta σ H fun x H1=>tb σ H1 fun y H2=>r x y H2 Q
def tUn (r:V→Hp→VK→Prop) (ta:TE):TE:=fun σ H Q=>ta σ H fun x H1=>r x H1 Q
def rI (C:Int→Int→Prop) (g:Int→Int→V):R2:=fun x y H Q=>∃ i j,x=.int i∧y=.int j∧C i j∧Q (g i j) H
def rI0 (g:Int→Int→V):R2:=fun x y H Q=>∃ i j,x=.int i∧y=.int j∧Q (g i j) H
def rU (g:Int→V):V→Hp→VK→Prop:=fun x H Q=>∃ i,x=.int i∧Q (g i) H
section
variable {X:Cx} {a b c:Expr} {ta tb tc:TE} {pos:Pos}
theorem binT (ha:PE X a ta) (hb:PE X b tb) {pins:List (Addr×Obj)} {s:Shared} {σ:St} {H:Hp} {R:V→V→Hp→Prop} (I:Inv X pins σ H s)
  (h:ta σ H fun x H1=>tb σ H1 fun y H2=>R x y H2) {Q:Value→Shared→Prop} {f:Value→Value→Sem Value}
  (hf:∀ v u s2 x y H2,Inv X pins σ H2 s2→RelV x v→RelV y u→R x y H2→wpAny (model X.prog X.w) X.A (f v u) Q X.xe s2) :
  wpAny (model X.prog X.w) X.A (eval a X.env) (fun v s₁=>wpAny (model X.prog X.w) X.A (eval b X.env) (fun u s₂=>wpAny (model X.prog X.w) X.A (f v u) Q X.xe s₂) X.xe s₁) X.xe s:=by
 refine thn (ha pins s σ H _ I h) fun v s1 zq=>?_;obtain⟨x,H1,I1,r1,q1⟩:=zq;refine thn (hb pins s1 σ H1 _ I1 q1) fun u s2 zq=>?_;obtain⟨y,H2,I2,r2,q2⟩:=zq;exact hf v u s2 x y H2 I2 r1 r2 q2
theorem Zb3 {op:Operator} {r:R2} (ho:OpR X (binaryOp op) r) (ha:PE X a ta) (hb:PE X b tb):PE X (.BinOp a op b pos) (tOp r ta tb):=by
 intro pins s σ H Q I h;exact wpAny_BinOp (binT ha hb I h fun v u s2 x y H2 I2 rx ry q=>ho pins s2 σ H2 x y v u Q I2 rx ry q)
theorem Xi4 {op:UnaryOp} {r:V→Hp→VK→Prop} (ho:UnR X (unaryOp op) r) (ha:PE X a ta):PE X (.UnaryOp op a pos) (tUn r ta):=by
 intro pins s σ H Q I h;exact UnaryOp_ (thn (ha pins s σ H _ I h) fun v s1 ⟨x,H1,I1,r1,q1⟩=>ho pins s1 σ H1 x v Q I1 r1 q1)
theorem opI {f:Value→Value→Sem Value} {C:Int→Int→Prop} {g:Int→Int→Int}
  (rule:∀ (i j:Int) (t u:Tok) (s:Shared) (Q:Value→Shared→Prop) (E:Value→Shared→Prop),C i j→Q (.int (g i j) s.toks) { s with toks:=s.toks+1 }→wpAny (model X.prog X.w) X.A (f (.int i t) (.int j u)) Q E s) :
  OpR X f (rI C fun i j=>.int (g i j)):=by
 intro pins s σ H x y v u Q I rx ry h;obtain⟨i,j,rfl,rfl,hc,q⟩:=h;obtain⟨t,rfl⟩:=rx;obtain⟨t',rfl⟩:=ry;exact rule i j t t' s _ _ hc ⟨.int (g i j),H,I.tok _,⟨_,rfl⟩,q⟩
theorem opI0 {f:Value→Value→Sem Value} {g:Int→Int→Int}
  (rule:∀ (i j:Int) (t u:Tok) (s:Shared) (Q:Value→Shared→Prop) (E:Value→Shared→Prop),Q (.int (g i j) s.toks) { s with toks:=s.toks+1 }→wpAny (model X.prog X.w) X.A (f (.int i t) (.int j u)) Q E s) :
  OpR X f (rI0 fun i j=>.int (g i j)):=by
 intro pins s σ H x y v u Q I rx ry h;obtain⟨i,j,rfl,rfl,q⟩:=h;obtain⟨t,rfl⟩:=rx;obtain⟨t',rfl⟩:=ry;exact rule i j t t' s _ _ ⟨.int (g i j),H,I.tok _,⟨_,rfl⟩,q⟩
theorem opB0 {f:Value→Value→Sem Value} {g:Int→Int→Bool}
  (rule:∀ (i j:Int) (t u:Tok) (s:Shared) (Q:Value→Shared→Prop) (E:Value→Shared→Prop),Q (.bool (g i j)) s→wpAny (model X.prog X.w) X.A (f (.int i t) (.int j u)) Q E s) :
  OpR X f (rI0 fun i j=>.bl (g i j)):=by
 intro pins s σ H x y v u Q I rx ry h;obtain⟨i,j,rfl,rfl,q⟩:=h;obtain⟨t,rfl⟩:=rx;obtain⟨t',rfl⟩:=ry;exact rule i j t t' s _ _ ⟨.bl (g i j),H,I,rfl,q⟩
def CDiv (i j:Int):Prop:=0 < j∧j < 1073741824
def CPow (i j:Int):Prop:=0≤j∧j≤1000000∧i.natAbs < 2 ^ 64
def CMul (i j:Int):Prop:=(-(2 ^ 64) < i∧i < 2 ^ 64)∨(-(2 ^ 64) < j∧j < 2 ^ 64)
theorem CMul.ok {i j:Int} (h:CMul i j):IntMulOk i j:=by
 rcases h with ⟨h1,h2⟩ | ⟨h1,h2⟩
 ·exact .of_left (intBits_le_64 h1 h2)
 ·exact .of_right (intBits_le_64 h1 h2)
theorem Xr5:OpR X (binaryOp .Add) (rI0 fun i j=>.int (i+j)):=opI0 fun _ _ _ _ _ _ _ q=>add_int q
theorem Xr1:OpR X (binaryOp .Sub) (rI0 fun i j=>.int (i - j)):=opI0 fun _ _ _ _ _ _ _ q=>sub_int q
theorem Xr3:OpR X (binaryOp .Mult) (rI CMul fun i j=>.int (i*j)):=opI fun _ _ _ _ _ _ _ hc q=>mul_int q hc.ok
theorem Xi9:OpR X (binaryOp .FloorDiv) (rI CDiv fun i j=>.int (i / j)):=opI fun i j _ _ _ _ _ hc q=>by
 have h1:(0:Int) < j:=hc.1;have h2:j < 1073741824:=hc.2;exact floordiv_int (by walk_at "o") (by rw[Int.fdiv_eq_ediv_of_nonneg i (by walk_at "o")];exact q) (.inl (PyProof.noPylong_small (by walk_at "o")))
theorem Xr4:OpR X (binaryOp .Mod) (rI (fun _ j=>0 < j) fun i j=>.int (i % j)):=opI fun i j _ _ _ _ _ hc q=>by
 have h1:(0:Int) < j:=hc;exact mod_int' (by walk_at "o") (by rw[Int.fmod_eq_emod_of_nonneg i (by walk_at "o")];exact q)
theorem Xr2:OpR X (binaryOp .Pow) (rI CPow fun i j=>.int (i ^ j.toNat)):=opI fun _ _ _ _ _ _ _ hc q=>pow_int_small hc.1 hc.2.1 hc.2.2 q
theorem unI {f:Value→Sem Value} {g:Int→Int}
  (rule:∀ (i:Int) (t:Tok) (s:Shared) (Q:Value→Shared→Prop) (E:Value→Shared→Prop),Q (.int (g i) s.toks) { s with toks:=s.toks+1 }→wpAny (model X.prog X.w) X.A (f (.int i t)) Q E s) :
  UnR X f (rU fun i=>.int (g i)):=by
 intro pins s σ H x v Q I rx h;obtain⟨i,rfl,q⟩:=h;obtain⟨t,rfl⟩:=rx;exact rule i t s _ _ ⟨.int (g i),H,I.tok _,⟨_,rfl⟩,q⟩
theorem Yr0:UnR X (unaryOp .USub) (rU fun i=>.int (-i)):=unI fun _ _ _ _ _ q=>neg_int q
end
noncomputable def scal:V→V→Bool
 | .non,.non=>true | .non,.int _=>true | .int _,.non=>true | .non,.bl _=>true | .bl _,.non=>true | .non,.str _=>true | .str _,.non=>true
 | .int _,.int _=>true | .bl _,.bl _=>true | .str _,.str _=>true | .byt _,.byt _=>true
 | .int _,.str _=>true | .str _,.int _=>true | .bl _,.str _=>true | .str _,.bl _=>true
 | _,_=>false
def rEq:R2:=fun x y H Q=>scal x y=true∧Q (.bl (decide (x=y))) H
def rNe:R2:=fun x y H Q=>scal x y=true∧Q (.bl (!decide (x=y))) H
theorem Yx0 {i j:Int}:decide (V.int i=V.int j)=(i == j):=by
 rw[Bool.eq_iff_iff];simp
theorem Xg5 {i j:Bool}:decide (V.bl i=V.bl j)=(i == j):=by
 rw[Bool.eq_iff_iff];simp
theorem Yw9 {i j:Str}:decide (V.str i=V.str j)=(i == j):=by
 rw[Bool.eq_iff_iff];simp
theorem Yx1 {i j:Array UInt8}:decide (V.byt i=V.byt j)=(i.toList == j.toList):=by
 rw[Bool.eq_iff_iff];cases i;cases j;simp
section
variable {X:Cx} {a b c:Expr} {ta tb tc:TE} {pos:Pos}
theorem Zd6 {pins:List (Addr×Obj)} {σ:St} {H:Hp} {s:Shared} {Q:VK} {k k':Bool} (I:Inv X pins σ H s) (q:Q (.bl k) H) (e:k=k'):EP X pins σ Q (.bool k') s:=by
 subst e;exact⟨.bl k,H,I,rfl,q⟩
theorem Zd8:OpR X (compareOp .Eq) rEq:=by
 intro pins s σ H x y v u Q I rx ry h;obtain⟨hs,q⟩:=h
 cases x with
 | non =>
  cases rx
  cases y with
  | non=>cases ry;exact PySem.EqNone.eq_none_none (Zd6 I q (by simp))
  | bl j=>cases ry;exact PySem.EqNone.eq_none_bool (Zd6 I q (by simp))
  | int j=>obtain⟨t',rfl⟩:=ry;exact PySem.EqNone.eq_none_int (Zd6 I q (by simp))
  | str j=>obtain⟨t',rfl⟩:=ry;exact PySem.EqNone.eq_none_str (Zd6 I q (by simp))
  | _=>exact absurd (show false=true from hs) Bool.false_ne_true
 | bl i =>
  cases rx
  cases y with
  | non=>cases ry;exact PySem.EqNone.eq_bool_none (Zd6 I q (by simp))
  | bl j=>cases ry;exact eq_bool (Zd6 I q Xg5)
  | str j=>obtain⟨t',rfl⟩:=ry;exact PySem.EqMixed.eq_bool_str (Zd6 I q (by simp))
  | _=>exact absurd (show false=true from hs) Bool.false_ne_true
 | int i =>
  obtain⟨t,rfl⟩:=rx
  cases y with
  | non=>cases ry;exact PySem.EqNone.eq_int_none (Zd6 I q (by simp))
  | int j=>obtain⟨t',rfl⟩:=ry;exact eq_int (Zd6 I q Yx0)
  | str j=>obtain⟨t',rfl⟩:=ry;exact PySem.EqMixed.eq_int_str (Zd6 I q (by simp))
  | _=>exact absurd (show false=true from hs) Bool.false_ne_true
 | str i =>
  obtain⟨t,rfl⟩:=rx
  cases y with
  | non=>cases ry;exact PySem.EqNone.eq_str_none (Zd6 I q (by simp))
  | bl j=>cases ry;exact PySem.EqMixed.eq_str_bool (Zd6 I q (by simp))
  | int j=>obtain⟨t',rfl⟩:=ry;exact PySem.EqMixed.eq_str_int (Zd6 I q (by simp))
  | str j=>obtain⟨t',rfl⟩:=ry;exact eq_str (Zd6 I q Yw9)
  | _=>exact absurd (show false=true from hs) Bool.false_ne_true
 | byt i =>
  obtain⟨t,rfl⟩:=rx
  cases y with
  | byt j=>obtain⟨t',rfl⟩:=ry;exact W.eq_bytes (Zd6 I q Yx1)
  | _=>exact absurd (show false=true from hs) Bool.false_ne_true
 | _=>cases y<;>exact absurd (show false=true from hs) Bool.false_ne_true
theorem Zz8:OpR X (compareOp .NotEq) rNe:=by
 intro pins s σ H x y v u Q I rx ry h;obtain⟨hs,q⟩:=h
 cases x with
 | non =>
  cases rx
  cases y with
  | non=>cases ry;exact PySem.EqNone.ne_none_none (Zd6 I q (by simp))
  | bl j=>cases ry;exact PySem.EqNone.ne_none_bool (Zd6 I q (by simp))
  | int j=>obtain⟨t',rfl⟩:=ry;exact PySem.EqNone.ne_none_int (Zd6 I q (by simp))
  | str j=>obtain⟨t',rfl⟩:=ry;exact PySem.EqNone.ne_none_str (Zd6 I q (by simp))
  | _=>exact absurd (show false=true from hs) Bool.false_ne_true
 | bl i =>
  cases rx
  cases y with
  | non=>cases ry;exact PySem.EqNone.ne_bool_none (Zd6 I q (by simp))
  | bl j=>cases ry;exact ne_bool (Zd6 I q (congrArg not Xg5))
  | str j=>obtain⟨t',rfl⟩:=ry;exact PySem.EqMixed.ne_bool_str (Zd6 I q (by simp))
  | _=>exact absurd (show false=true from hs) Bool.false_ne_true
 | int i =>
  obtain⟨t,rfl⟩:=rx
  cases y with
  | non=>cases ry;exact PySem.EqNone.ne_int_none (Zd6 I q (by simp))
  | int j=>obtain⟨t',rfl⟩:=ry;exact ne_int (Zd6 I q (congrArg not Yx0))
  | str j=>obtain⟨t',rfl⟩:=ry;exact PySem.EqMixed.ne_int_str (Zd6 I q (by simp))
  | _=>exact absurd (show false=true from hs) Bool.false_ne_true
 | str i =>
  obtain⟨t,rfl⟩:=rx
  cases y with
  | non=>cases ry;exact PySem.EqNone.ne_str_none (Zd6 I q (by simp))
  | bl j=>cases ry;exact PySem.EqMixed.ne_str_bool (Zd6 I q (by simp))
  | int j=>obtain⟨t',rfl⟩:=ry;exact PySem.EqMixed.ne_str_int (Zd6 I q (by simp))
  | str j=>obtain⟨t',rfl⟩:=ry;exact ne_str (Zd6 I q (congrArg not Yw9))
  | _=>exact absurd (show false=true from hs) Bool.false_ne_true
 | byt i =>
  obtain⟨t,rfl⟩:=rx
  cases y with
  | byt j=>obtain⟨t',rfl⟩:=ry;exact W.ne_bytes (Zd6 I q (congrArg not Yx1))
  | _=>exact absurd (show false=true from hs) Bool.false_ne_true
 | _=>cases y<;>exact absurd (show false=true from hs) Bool.false_ne_true
theorem Xz8:OpR X (compareOp .Lt) (rI0 fun i j=>.bl (decide (i < j))):=opB0 fun _ _ _ _ _ _ _ q=>lt_int q
theorem Xz9:OpR X (compareOp .LtE) (rI0 fun i j=>.bl (decide (i≤j))):=opB0 fun _ _ _ _ _ _ _ q=>le_int q
theorem Wa0:OpR X (compareOp .Gt) (rI0 fun i j=>.bl (decide (j < i))):=opB0 fun _ _ _ _ _ _ _ q=>gt_int q
theorem Wa1:OpR X (compareOp .GtE) (rI0 fun i j=>.bl (decide (j≤i))):=opB0 fun _ _ _ _ _ _ _ q=>ge_int q
theorem Zr6:OpR X (compareOp .Is) (fun x y H Q=>y=.non∧Q (.bl (decide (x=.non))) H):=by
 intro pins s σ H x y v u Q I rx ry h;obtain⟨rfl,q⟩:=h;cases ry;refine is_none_gen (Zd6 I q ?_)
 cases x<;>first
  | (cases rx;rfl)
  | (obtain⟨t,rfl⟩:=rx;rfl)
theorem Zk7 (b:Expr) {op:CmpOp} (h:op≠.In:=by decide) (h2:op≠.NotIn:=by decide):behindInMarks op b=false:=by
 have e1:(op == CmpOp.In)=false:=by cases op<;>first | rfl | exact absurd rfl h
 have e2:(op == CmpOp.NotIn)=false:=by cases op<;>first | rfl | exact absurd rfl h2
 cases b<;>simp[behindInMarks,e1,e2]
theorem Zi8 {op:CmpOp} {r:R2} (ho:OpR X (compareOp op) r) (ha:PE X a ta) (hb:PE X b tb) (hm:behindInMarks op b=false):PE X (.Compare a [op] [b] pos) (tOp r ta tb):=by
 intro pins s σ H Q I h;exact wpAny_Compare1 (binT ha hb I h fun v u s2 x y H2 I2 rx ry q=>ho pins s2 σ H2 x y v u Q I2 rx ry q) hm
def Zv6 (t:TE):TT:=fun σ H Q=>t σ H fun x H'=>∃ k,x=.bl k∧Q k H'
theorem Yi2 {op:CmpOp} {r:R2} (ho:OpR X (compareOp op) r) (ha:PE X a ta) (hb:PE X b tb) (hm:behindInMarks op b=false):PT X (.Compare a [op] [b] pos) (Zv6 (tOp r ta tb)):=by
 intro pins s σ H Q I h
 refine wpAny_isTrue_Compare1 (thn (ha pins s σ H _ I h) fun v s1 ⟨x,H1,I1,r1,q1⟩=>thn (hb pins s1 σ H1 _ I1 q1) fun u s2 ⟨y,H2,I2,r2,q2⟩ =>
  thn (ho pins s2 σ H2 x y v u _ I2 r1 r2 q2) fun c s3 ⟨z,H3,I3,r3,k,e,q3⟩=>?_) hm
 subst e;cases r3;exact wpAny_truthy_bool ⟨H3,I3,q3⟩
def Zt3 (r r':R2) (ta tb tc:TE):TE:=fun σ H Q=>ta σ H fun x H1=>tb σ H1 fun y H2=>r x y H2 fun z H3=>∃ k,z=.bl k ∧
 (if k=true then tc σ H3 fun w' H4=>r' y w' H4 Q else Q (.bl false) H3)
theorem Zz1 {op op':CmpOp} {r r':R2} (ho:OpR X (compareOp op) r) (ho':OpR X (compareOp op') r') (ha:PE X a ta) (hb:PE X b tb) (hc:PE X c tc)
  (hm:lastMarks [op,op'] [b,c]=false:=by with_unfolding_all rfl):PT X (.Compare a [op,op'] [b,c] pos) (Zv6 (Zt3 r r' ta tb tc)):=by
 intro pins s σ H Q I h
 refine isTrue_chain (thn (ha pins s σ H _ I h) fun v s1 ⟨x,H1,I1,r1,q1⟩=>test_link (thn (hb pins s1 σ H1 _ I1 q1) fun u s2 ⟨y,H2,I2,r2,q2⟩ =>
  thn (ho pins s2 σ H2 x y v u _ I2 r1 r2 q2) fun d s3 ⟨z,H3,I3,r3,k,e,q3⟩=>?_)) hm
 subst e;cases r3;refine wpAny_truthy_bool ?_
 cases k with
 | false =>
  obtain⟨k',e',q'⟩:=q3;cases e';exact ite_ff ⟨H3,I3,q'⟩
 | true =>
  refine ite_tt (test_last (thn (hc pins s3 σ H3 _ I3 q3) fun w' s4 ⟨z',H4,I4,r4,q4⟩=>thn (ho' pins s4 σ H4 y z' u w' _ I4 r2 r4 q4) fun d' s5 zq=>?_));obtain⟨z2,H5,I5,r5,k2,e2,q5⟩:=zq;subst e2;cases r5;exact wpAny_truthy_bool ⟨H5,I5,q5⟩
def TruV (K:W.Frag) (x:V) (H:Hp) (k:Bool):Prop :=
 match x with
 | .non=>k=false
 | .bl b=>k=b
 | .int i=>k=(i != 0)
 | .str y=>y.length≤sizeLine∧k=((y.length:Int) != 0)
 | .byt y=>y.size≤sizeLine∧k=((y.size:Int) != 0)
 | .ref p=>(∃ xs,SqL K H p xs∧k=!xs.isEmpty)∨(∃ xs,SqT K H p xs∧k=!xs.isEmpty)∨∃ kvs,H p=some (.dK kvs)∧k=!kvs.isEmpty
 | _=>False
theorem Yp3 {κ:Type} {kvs:List (κ×V)} {vs:List (κ×Value)} (r:KV kvs vs):(!vs.isEmpty)=!kvs.isEmpty:=by
 cases r<;>rfl
theorem Zx1 {xs:List V} {its:List Value} (r:Vals xs its):(!its.toArray.isEmpty)=!xs.isEmpty:=by
 cases r<;>simp
theorem Ye8:(sizeLine:Nat) < 2 ^ 63:=by rw[sizeLine_eq];decide
theorem Xn5:TruR X (fun x H Q=>∃ k,TruV X.K x H k∧Q k H):=by
 intro pins s σ H x v Q I rx h;obtain⟨k,e,q⟩:=h;have hl:=Ye8;have hs:sizeLine=16777216:=sizeLine_eq
 cases x with
 | non =>
  cases rx;have e':k=false:=e;subst e';exact truthy_none ⟨H,I,q⟩
 | bl b =>
  cases rx;have e':k=b:=e;subst e';exact wpAny_truthy_bool ⟨H,I,q⟩
 | int i =>
  obtain⟨t,rfl⟩:=rx;have e':k=(i != 0):=e;subst e';exact PySem.P.truthy_int ⟨H,I,q⟩
 | str y =>
  obtain⟨t,rfl⟩:=rx;obtain⟨hy,e'⟩:y.length≤sizeLine∧k=((y.length:Int) != 0):=e;subst e';exact PySem.P.truthy_str (by walk_at "o") ⟨H,I.tok _,q⟩
 | byt y =>
  obtain⟨t,rfl⟩:=rx;obtain⟨hy,e'⟩:y.size≤sizeLine∧k=((y.size:Int) != 0):=e;subst e';exact W.truthy_bytes (by walk_at "o") ⟨H,I.tok _,q⟩
 | ref p =>
  cases rx;have e':(∃ xs,SqL X.K H p xs∧k=!xs.isEmpty)∨(∃ xs,SqT X.K H p xs∧k=!xs.isEmpty)∨∃ kvs,H p=some (.dK kvs)∧k=!kvs.isEmpty:=e;rcases e' with ⟨xs,hx,e'⟩ | ⟨xs,hx,e'⟩ | ⟨kvs,hx,e'⟩
  ·subst e'
   obtain⟨its,r,pl,hz⟩:=I.list hx;have hlen:=r.length;exact wpAny_truthy_list pl.isList (by simp only[List.size_toArray];walk_at "o") ⟨H,I.tok _,by rw[Zx1 r];exact q⟩
  ·subst e'
   obtain⟨its,r,pl,hz⟩:=I.tuple hx;have hlen:=r.length;exact truthy_tuple pl (by simp only[List.size_toArray];walk_at "o") ⟨H,I.tok _,by rw[Zx1 r];exact q⟩
  ·subst e'
   obtain⟨hz,hS,vs,r,m⟩:kvs.length≤sizeLine∧(p == sysModules)=false∧∃ vs,KV kvs vs∧s.heap.DictOf (Ze3 X.prog X.w) p vs:=I.hok p _ hx;have hlen:kvs.length=vs.length:=Paired.length r;exact wpAny_truthy_dict hS m (by walk_at "o") ⟨H,I.tok _,by rw[Yp3 r];exact q⟩
 | _=>exact (show False from e).elim
theorem Zz0 (ha:PE X a ta) (he:∀ whole,isTrue a X.env whole=(do let v ← whole;standAt a.pos;holding [v] (truthy v))) :
  PT X a (fun σ H Q=>ta σ H fun x H'=>∃ k,TruV X.K x H' k∧Q k H'):=by
 intro pins s σ H Q I h;exact isTrue_plain (thn (ha pins s σ H _ I h) fun v s1 ⟨x,H1,I1,r1,q1⟩=>Xn5 pins s1 σ H1 x v Q I1 r1 q1) (he _)
theorem Zw8:OpR X (binaryOp .Add) (fun x y H Q=>∃ i j,x=.str i∧y=.str j∧i.length+j.length≤sizeLine∧Q (.str (i++j)) H):=by
 intro pins s σ H x y v u Q I rx ry h;obtain⟨i,j,rfl,rfl,hz,q⟩:=h;obtain⟨t,rfl⟩:=rx;obtain⟨t',rfl⟩:=ry;exact add_str (fun t' tk=>⟨.str (i++j),H,I.tok _,⟨_,rfl⟩,q⟩) hz
theorem Xa0 {x:V} {us:List Value} (r:Vals [x] us):∃ u,us=[u]∧RelV x u:=by
 cases r with
 | cons r1 r2=>cases r2;exact⟨_,rfl,r1⟩
theorem Yq8 {x y:V} {us:List Value} (r:Vals [x,y] us):∃ u w',us=[u,w']∧RelV x u∧RelV y w':=by
 cases r with
 | cons r1 r2 =>
  cases r2 with
  | cons r3 r4=>cases r4;exact⟨_,_,rfl,r1,r3⟩
theorem Yy4 (hc:X.calm=true):Zr0 X (.builtin "max") (fun xs H Q=>∃ i j,xs=[.int i,.int j]∧Q (.int (if j > i then j else i)) H):=by
 intro pins s σ H xs us Q I r h;obtain⟨i,j,rfl,q⟩:=h;obtain⟨u,w',rfl,⟨t,rfl⟩,⟨t',rfl⟩⟩:=Yq8 r;refine max_two_ints (I.ok.hd hc) fun h' tk k=>⟨_,H,I.kept k,?_,q⟩
 by_cases hj:j > i
 ·rw[if_pos hj,if_pos hj];exact⟨_,rfl⟩
 ·rw[if_neg hj,if_neg hj];exact⟨_,rfl⟩
theorem Zi3:Zr0 X (.type "int") (fun xs H Q=>(∃ i,xs=[.int i]∧Q (.int i) H)∨∃ k,xs=[.bl k]∧Q (.int (if k then 1 else 0)) H):=by
 intro pins s σ H xs us Q I r h;rcases h with ⟨i,rfl,q⟩ | ⟨k,rfl,q⟩
 ·obtain⟨u,rfl,t,rfl⟩:=Xa0 r
  exact call_int_int ⟨.int i,H,I,⟨_,rfl⟩,q⟩
 ·obtain⟨u,rfl,r1⟩:=Xa0 r
  cases r1;exact call_int_bool ⟨.int (if k then 1 else 0),H,I.tok _,⟨_,rfl⟩,q⟩
end
structure ObjM (h:Heap) (x dx C:Addr) (mA:Str→Option Value):Prop where
 obj:h.get? x=some (W.instObj C dx)
 ns:h.Ns1 dx mA
 ne:dx≠x
theorem Yv1 {h:Heap} {dx:Addr} {mA:Str→Option Value} (n:h.Ns1 dx mA):∃ od,h.get? dx=some od∧∀ name,W.lookIn name od=some (mA name):=by
 obtain⟨o,es,ep,ho,hd,hk,_,hm⟩:=n;refine⟨o,ho,fun name=>?_⟩;have e:=hm name;unfold nsFind findBy at e;rw[← Array.find?_toList] at e;unfold W.lookIn;rw[hd];dsimp only
 split
 ·rename_i y q
  rw[q] at e;exact congrArg some e
 ·rename_i q
  rw[q] at e
  have a:es.toList.any (·.refKey)=false:=by
   rw[List.any_eq_false];intro y hy;obtain⟨z,t,hkey⟩:=hk y (Array.mem_toList_iff.mp hy);simp[DictEntry.refKey,hkey]
  have a':¬ es.toList.any (·.refKey)=true:=by rw[a];exact Bool.false_ne_true
  rw[if_neg a'];exact congrArg some e
theorem ObjM.look {h:Heap} {x dx C:Addr} {mA:Str→Option Value} (I:ObjM h x dx C mA):∃ od,W.InstAt h x (W.instObj C dx) C (some od)∧∀ name,W.lookIn name od=some (mA name) :=
 let ⟨od,ho,hl⟩:=Yv1 I.ns
 ⟨od,⟨I.obj,rfl,rfl,ho⟩,hl⟩
section
variable {prog:Program} {w:World} {A:Around} {E:Value→Shared→Prop} {s:Shared} {K:W.Frag} {x dx C f:Addr} {mA:Str→Option Value} {name:Str} {v:Value}
theorem Xl1 {expr:Bool} {Q:Value→Shared→Prop} (X:K.In s.heap) (I:ObjM s.heap x dx C mA) (hg:W.plainGet K C name=true) (hh:W.hasDictIn K C=true)
  (ha:W.findIn K (.ref C) name=some none) (hv:mA name=some v) (hv':W.handedIn v=true) (h:Q v { s with toks:=s.toks+1 }) :
  wpAny (model prog w) A (getAttr (.ref x) name expr) Q E s:=by
 obtain⟨od,J,hl⟩:=I.look;exact W.get_value X J (W.plainGet_of hg).1 (W.findObj_own hh ha rfl (by rw[hl,hv])) hv' h
theorem Xh6 {ns:List Str} {Q:Unit→Shared→Prop} (X:K.In s.heap) (I:ObjM s.heap x dx C mA)
  (hs:W.findIn K (.ref C) "__setattr__"=some (some (.builtin "object.__setattr__"))) (hp:W.plainOver K C=true) (ht:W.takerIn K C name=some none) (hh:W.hasDictIn K C=true)
  (hw:PySem.Within mA ns) (hsz:ns.length≤sizeLine)
  (h:∀ h',ObjM h' x dx C (fun y=>if y=name then some v else mA y)→Heap.SameBut dx s.heap h'→Q () { s with heap:=h',toks:=s.toks+2 }) :
  wpAny (model prog w) A (setAttr (.ref x) name v) Q E s:=by
 obtain⟨od,J,hl⟩:=I.look;refine W.set_plain X J hs (W.osa_open (s:={ s with toks:=s.toks+1 }) (r:=none) X J hp ht fun b=>?_);obtain⟨cd,hc,hd'⟩:=W.any_some hh;have hx:s.heap.get? x=some ⟨.ref C,some dx,.plain,#[]⟩:=I.obj;refine wpAny_bind (wpAny_pure (wpAny_bind (wpAny_bind (wpAny_loadPart hx (wpAny_bind (W.Looks.here (s:={ s with toks:=s.toks+1 }) (W.looks_clsIn X hc) ?_))))));rw[hd'];refine wpAny_pure (a:=some dx) (wpAny_bind (wpAny_pure (wpAny_bind ?_)));refine wpAny_nsSet1 (s:={ s with toks:=s.toks+1 }) I.ns fun h' hn2 hs2=>?_;obtain⟨oD,esD,epD,hoD,hdD,hcD⟩:=hn2.count (PySem.Within.cons name v hw);refine wpAny_bind (wpAny_lookBehind hoD (by rw[hdD];exact pastItsLine_dict (Nat.le_trans hcD (by rw[List.length_cons];walk_at "o"))) ?_);exact wpAny_pure (h _ ⟨(hs2.2 _ (Ne.symm I.ne)).trans I.obj,hn2,I.ne⟩ hs2)
theorem Xc7 {R:Result→Shared→Prop} {vs:List Value} {kw:List (Str×Value)} (X:K.In s.heap) (hm:W.makesIn K C=true)
  (hi:W.findIn K (.ref C) "__init__"=some (some (.ref f))) (hf:W.typeIn K (.ref f)=some (.type "function"))
  (h:codeAny (model prog w) (A.under (.builtin "type.__call__" ⟨.ref C :: vs,kw⟩)) (.call (.ref f) ⟨.ref (s.heap.objs.size+1) :: vs,kw⟩) (W.InitBack (s.heap.objs.size+1) R)
   { s with heap:=(s.heap.push W.emptyDict).push (W.instObj C s.heap.objs.size) }) :
  codeAny (model prog w) A (.call (.ref C) ⟨vs,kw⟩) R s:=by
 obtain⟨hh,g,d,t,os⟩:=s;exact W.make_core (W.makes_of X hm) (W.looks_findIn X hi) (fun self=>W.bind_fn X self hf) (.inl rfl) h
end
noncomputable def putF (f:Str) (v:V):List (Str×V)→List (Str×V)
 | []=>[(f,v)]
 | (g,x) :: r=>if g=f then (g,v) :: r else (g,x) :: putF f v r
theorem Zu5 (f g:Str) (v:V):∀ fs:List (Str×V),(putF f v fs).lookup g=if g=f then some v else fs.lookup g
 | []=>by
  show List.lookup g [(f,v)]=_
  by_cases h:g=f
  ·have hb:(g == f)=true:=beq_iff_eq.mpr h
   simp only[List.lookup,hb,if_pos h]
  ·have hb:(g == f)=false:=beq_eq_false_iff_ne.mpr h
   simp only[List.lookup,hb,if_neg h]
 | (k,x) :: r=>by
  have ih:=Zu5 f g v r;rw[show putF f v ((k,x) :: r)=(if k=f then (k,v) :: r else (k,x) :: putF f v r) from rfl]
  by_cases hk:k=f
  ·rw[if_pos hk]
   by_cases h:g=k
   ·have hb:(g == k)=true:=beq_iff_eq.mpr h
    simp only[List.lookup,hb,if_pos (h.trans hk)]
   ·have hb:(g == k)=false:=beq_eq_false_iff_ne.mpr h
    simp only[List.lookup,hb,if_neg (fun e:g=f=>h (e.trans hk.symm))]
  ·rw[if_neg hk]
   by_cases h:g=k
   ·have hb:(g == k)=true:=beq_iff_eq.mpr h
    simp only[List.lookup,hb,if_neg (fun e:g=f=>hk (h.symm.trans e))]
   ·have hb:(g == k)=false:=beq_eq_false_iff_ne.mpr h
    simp only[List.lookup,hb];exact ih
theorem Zu8 (f:Str) (v:V):∀ fs:List (Str×V),f∈(putF f v fs).map (·.1)∧∀ g,g∈fs.map (·.1)→g∈(putF f v fs).map (·.1)
 | []=>⟨by simp[putF],fun g h=>by simp at h⟩
 | (k,x) :: r=>by
  obtain⟨i1,i2⟩:=Zu8 f v r;rw[show putF f v ((k,x) :: r)=(if k=f then (k,v) :: r else (k,x) :: putF f v r) from rfl]
  by_cases hk:k=f
  ·rw[if_pos hk]
   subst hk;exact⟨by simp,fun g h=>by simpa using h⟩
  ·rw[if_neg hk]
   refine⟨?_,fun g h=>?_⟩
   ·rw[List.map_cons]
    exact List.mem_cons_of_mem _ i1
   ·rw[List.map_cons] at h ⊢
    rcases List.mem_cons.mp h with e | e
    ·exact List.mem_cons.mpr (.inl e)
    ·exact List.mem_cons_of_mem _ (i2 g e)
theorem Zu7 (f:Str) (v:V):∀ fs:List (Str×V),(putF f v fs).length≤fs.length+1
 | []=>by simp[putF]
 | (k,x) :: r=>by
  have ih:=Zu7 f v r;rw[show putF f v ((k,x) :: r)=(if k=f then (k,v) :: r else (k,x) :: putF f v r) from rfl]
  by_cases hk:k=f
  ·rw[if_pos hk,List.length_cons,List.length_cons];walk_at "o"
  ·rw[if_neg hk,List.length_cons,List.length_cons];walk_at "o"
theorem RelO.some_of {v:V} {o:Option Value} (r:RelO (some v) o):∃ u,o=some u∧RelV v u:=by
 cases o with
 | none=>exact (show False from r).elim
 | some u=>exact⟨u,rfl,r⟩
theorem Yw4 {v:V} {u:Value} (r:RelV v u):W.handedIn u=true:=by
 cases v with
 | non=>cases (show u=Value.none from r);rfl
 | bl b=>cases (show u=Value.bool b from r);rfl
 | int i=>obtain⟨t,e⟩:=(show ∃ t,u=Value.int i t from r);cases e;rfl
 | str x=>obtain⟨t,e⟩:=(show ∃ t,u=Value.str x t from r);cases e;rfl
 | byt b=>obtain⟨t,e⟩:=(show ∃ t,u=Value.bytes b t from r);cases e;rfl
 | flt b=>obtain⟨t,e⟩:=(show ∃ t,u=Value.float b t from r);cases e;rfl
 | ref a=>cases (show u=Value.ref a from r);rfl
 | ty n=>cases (show u=Value.type n from r);rfl
section
variable {P:Program} {w:World} {H H':Hp} {h h':Heap} {a C dx:Addr} {fs fs':List (Str×V)}
theorem Yj1 (hok:HOk P w H h) (e:H a=some (.ins C dx fs)):∃ mA,ObjM h a dx C mA∧(∀ f,RelO (fs.lookup f) (mA f))∧PySem.Within mA (fs.map (·.1))∧fs.length≤1000∧H dx=some (.own a):=by
 obtain⟨d,z,ne,ob,mA,n,r,q⟩:=(show ObjOk P w H h a (.ins C dx fs) from hok a _ e);exact⟨mA,⟨ob,n,ne⟩,r,q,z,d⟩
end
structure Cls (K:W.Frag) (C:Addr):Prop where
 pg:W.plainGet K C Str.empty=true
 hd:W.hasDictIn K C=true
 po:W.plainOver K C=true
 sa:W.findIn K (.ref C) "__setattr__"=some (some (.builtin "object.__setattr__"))
theorem Cls.get {K:W.Frag} {C:Addr} (c:Cls K C) (f:Str):W.plainGet K C f=true:=c.pg
def NoAttr (K:W.Frag) (C:Addr) (f:Str):Prop:=W.findIn K (.ref C) f=some none
theorem NoAttr.taker {K:W.Frag} {C:Addr} {f:Str} (n:NoAttr K C f):W.takerIn K C f=some none:=by
 unfold W.takerIn;rw[show W.findIn K (.ref C) f=some none from n];rfl
section
variable {X:Cx} {pins:List (Addr×Obj)} {σ:St} {H:Hp} {s:Shared} {a C dx:Addr} {fs:List (Str×V)} {f:Str} {v:V} {A:Around} {E:Value→Shared→Prop}
theorem Yp5 {b:Bool} {Q:Value→Shared→Prop} (I:Inv X pins σ H s) (e:H a=some (.ins C dx fs)) (c:Cls X.K C) (n:NoAttr X.K C f) (l:fs.lookup f=some v)
  (h:∀ u s',Inv X pins σ H s'→RelV v u→Q u s'):wpAny (model X.prog X.w) A (getAttr (.ref a) f b) Q E s:=by
 obtain⟨mA,O,r,_,_,_⟩:=Yj1 I.hok e;obtain⟨u,hu,ru⟩:=RelO.some_of (v:=v) (o:=mA f) (by rw[← l];exact r f);exact Xl1 I.kIn O (c.get f) c.hd n hu (Yw4 ru) (h u _ (I.tok _) ru)
theorem Yo1 {y:V} {u:Value} {Q:Unit→Shared→Prop} (I:Inv X pins σ H s) (e:H a=some (.ins C dx fs)) (c:Cls X.K C) (n:NoAttr X.K C f) (hl:fs.length < 1000) (ry:RelV y u)
  (h:∀ s',Inv X pins σ (upd H a (.ins C dx (putF f y fs))) s'→Q () s'):wpAny (model X.prog X.w) A (setAttr (.ref a) f u) Q E s:=by
 obtain⟨mA,O,r,wi,_,ho⟩:=Yj1 I.hok e
 have hz:(fs.map (·.1)).length≤sizeLine:=by rw[List.length_map,sizeLine_eq];walk_at "o"
 refine Xh6 I.kIn O c.sa c.po n.taker c.hd wi hz fun h' O' sb=>h _ ?_
 have hd:∃ o,h'.get? dx=some o:=let ⟨o,_,_,e',_⟩:=O'.ns;⟨o,e'⟩
 refine I.write (x:=a) (e:=dx) (by rw[e];exact True.intro) (.inr ho) (fun b q hb z=>(sb.2 b hb).trans z) hd ?_;refine⟨by rw[Zb0 O.ne];exact ho,?_,O.ne,O'.obj,_,O'.ns,fun g=>?_,fun g hg=>?_⟩
 ·have:=Zu7 f y fs;walk_at "o"
 ·show RelO ((putF f y fs).lookup g) (if g=f then some u else mA g)
  rw[Zu5]
  by_cases q:g=f
  ·rw[if_pos q,if_pos q];exact ry
  ·rw[if_neg q,if_neg q];exact r g
 ·by_cases q:g=f
  ·rw[q];exact (Zu8 f y fs).1
  ·refine (Zu8 f y fs).2 g (wi g fun z=>hg ?_)
   show (if g=f then some u else mA g)=none;rw[if_neg q];exact z
theorem Inv.made (I:Inv X pins σ H s):Inv X pins σ (upd (upd H s.heap.objs.size (.own (s.heap.objs.size+1))) (s.heap.objs.size+1) (.ins C s.heap.objs.size []))
  { s with heap:=(s.heap.push W.emptyDict).push (W.instObj C s.heap.objs.size) }:=by
 have e1:(s.heap.push W.emptyDict).get? s.heap.objs.size=some W.emptyDict:=Heap.get?_push_size s.heap rfl
 have e2:((s.heap.push W.emptyDict).push (W.instObj C s.heap.objs.size)).get? (s.heap.objs.size+1)=some (W.instObj C s.heap.objs.size):=by
  have:=Heap.get?_push_size (s.heap.push W.emptyDict) (o:=W.instObj C s.heap.objs.size) rfl
  rwa [Heap.size_push] at this
 have e3:(s.heap.push W.emptyDict).Ns s.heap.objs.size (fun _=>none):=⟨W.emptyDict,#[],_,e1,rfl,(fun e he=>absurd he (by simp)),fun _=>rfl⟩;have I1:=I.laid (a:=s.heap.objs.size) (o:=.own (s.heap.objs.size+1)) (h':=s.heap.push W.emptyDict) (t':=s.toks) (fun b u q=>Heap.get?_push_of_some _ q) (Nat.le_refl _) ⟨_,e1⟩;refine I1.laid (a:=s.heap.objs.size+1) (o:=.ins C s.heap.objs.size []) (t':=s.toks) (fun b u q=>Heap.get?_push_of_some _ q) (Nat.le_of_eq (Heap.size_push _ _)) ?_;have ne:s.heap.objs.size≠s.heap.objs.size+1:=Nat.ne_of_lt (Nat.lt_succ_self _);refine⟨by rw[Zb0 ne,Za4],Nat.zero_le _,ne,e2,fun _=>none,(Heap.Ns1.of_empty e3).at fun o q=>Heap.get?_push_of_some _ q,fun _=>True.intro,fun y hy=>absurd rfl hy⟩
theorem Xm1 {prog:Program} {w:World} {env:Env} {e:Expr} {f:Str} {pos:Pos} {s:Shared} {Q:Value→Shared→Prop} (hb:attributeBase e f env (eval e env)=eval e env)
  (h:wpAny (model prog w) A (eval e env) (fun o s₁=>wpAny (model prog w) A (getAttr o f true) Q E s₁) E s):wpAny (model prog w) A (eval (.Attribute e f pos) env) Q E s :=
 Attribute_any_ h (by rw[arm_eval_Attribute,hb])
end
def tFld (K:W.Frag) (ta:TE) (f:Str):TE:=fun σ H Q=>ta σ H fun x H1=>∃ a C dx fs v,x=.ref a∧H1 a=some (.ins C dx fs)∧Cls K C∧NoAttr K C f∧fs.lookup f=some v∧Q v H1
def sFld (K:W.Frag) (ta tv:TE) (f:Str):TS:=fun D σ H=>tv σ H fun y H1=>ta σ H1 fun x H2=>∃ a C dx fs,x=.ref a∧H2 a=some (.ins C dx fs)∧Cls K C∧NoAttr K C f∧fs.length < 1000 ∧
 D.nx σ (upd H2 a (.ins C dx (putF f y fs)))
section
variable {X:Cx} {o e value:Expr} {f:Str} {pos pos' tpos:Pos} {ta tv:TE}
theorem Ze1 (he:PE X e ta) (hb:attributeBase e f X.env (eval e X.env)=eval e X.env):PE X (.Attribute e f pos) (tFld X.K ta f):=by
 intro pins s σ H Q I h;refine Xm1 hb (thn (he pins s σ H _ I h) fun u s1 zq=>?_);obtain⟨x,H1,I1,rx,a,C,dx,fs,v,ex,ea,c,n,l,q⟩:=zq;subst ex;obtain rfl:u=Value.ref a:=rx;exact Yp5 I1 ea c n l fun u' s2 I2 ru=>⟨v,H1,I2,ru,q⟩
theorem Zw6 (ha:PE X o ta) (hv:PE X value tv) (hs:swapsWith value (some (.Attribute o f pos')) pos.line X.env=pure false):PS X (.Assign [.Attribute o f pos'] value pos) (sFld X.K ta tv f):=by
 intro pins s σ H D I h;refine plainObj_wpAny_Assign_Attribute (thn (hv pins s σ H _ I h) fun u s1 ⟨y,H1,I1,ry,q⟩=>thn (ha pins s1 σ H1 _ I1 q) fun ov s2 ⟨x,H2,I2,rx,a,C,dx,fs,ex,ea,c,n,l,q2⟩=>?_) hs;subst ex;obtain rfl:ov=Value.ref a:=rx;exact Yo1 I2 ea c n l ry fun s3 I3=>⟨σ,_,I3,q2⟩
end
section
variable {X:Cx} {pins:List (Addr×Obj)} {σ:St} {H:Hp} {s:Shared} {A:Around} {E:Value→Shared→Prop} {Q:Value→Shared→Prop} {c:Value} {b:Bool}
inductive TyOf (K:W.Frag) (H:Hp):V→Value→Prop where
 | non:TyOf K H .non (.type "NoneType")
 | bl (x:Bool):TyOf K H (.bl x) (.type "bool")
 | int (i:Int):TyOf K H (.int i) (.type "int")
 | str (x:Str):TyOf K H (.str x) (.type "str")
 | flt (x:UInt64):TyOf K H (.flt x) (.type "float")
 | lst {a:Addr} {xs:List V} (e:H a=some (.lst xs)):TyOf K H (.ref a) (.type "list")
 | frz {a:Addr} {o:Obj} {xs:List V} (e:H a=some (.frz o (.lst xs))):TyOf K H (.ref a) (.type "list")
 | tup {a:Addr} {xs:List V} (e:H a=some (.tup xs)):TyOf K H (.ref a) (.type "tuple")
 | dK {a:Addr} {kvs:List (Key×V)} (e:H a=some (.dK kvs)):TyOf K H (.ref a) (.type "dict")
 | dT {a:Addr} {kvs:List (List Key×V)} (e:H a=some (.dT kvs)):TyOf K H (.ref a) (.type "dict")
 | ins {a C dx:Addr} {fs:List (Str×V)} (e:H a=some (.ins C dx fs)) (cl:Cls K C) (ha:W.findIn K (.ref C) "__class__"=some (some (.builtin "object.__class__")))
   (hn:W.specialIn K (.builtin "object.__class__") "__get__"=some (some (.builtin "getset_descriptor.__get__"))) (htk:W.takesIn K (.builtin "object.__class__")=some true)
   (hm:W.mroIn K C (.type "object")=some true):TyOf K H (.ref a) (.ref C)
theorem Yv7 {x:V} {u t:Value} (I:Inv X pins σ H s) (rx:RelV x u) (ty:TyOf X.K H x t) (e:W.kitOne X.K t c=some b) (h:∀ tk,Q (.bool b) { s with toks:=tk }) :
  wpAny (model X.prog X.w) A (call (.builtin "isinstance") [u,c]) Q E s:=by
 cases ty with
 | non=>cases (show u=Value.none from rx);exact W.kia_one W.kitx_none I.kIn True.intro e (fun z=>nomatch z) h
 | bl y=>cases (show u=Value.bool y from rx);exact W.kia_one W.kitx_bool I.kIn True.intro e (fun z=>nomatch z) h
 | int i=>obtain⟨t,q⟩:=(show ∃ t,u=Value.int i t from rx);cases q;exact W.kia_one W.kitx_int I.kIn True.intro e (fun z=>nomatch z) h
 | str y=>obtain⟨t,q⟩:=(show ∃ t,u=Value.str y t from rx);cases q;exact W.kia_one W.kitx_str I.kIn True.intro e (fun z=>nomatch z) h
 | flt y=>obtain⟨t,q⟩:=(show ∃ t,u=Value.float y t from rx);cases q;exact W.kia_one W.kitx_float I.kIn True.intro e (fun z=>nomatch z) h
 | @lst a xs ea =>
  cases (show u=Value.ref a from rx);obtain⟨_,_,n,_,h1⟩:=(show ObjOk X.prog X.w H s.heap a (.lst xs) from I.hok a _ ea);exact W.kia_one W.kitx_list I.kIn ⟨_,h1,rfl⟩ e (fun z=>nomatch z) h
 | @frz a ob xs ea =>
  cases (show u=Value.ref a from rx);obtain⟨_,_,_,n,_,h1⟩:=(show ObjOk X.prog X.w H s.heap a (.frz ob (.lst xs)) from I.hok a _ ea);exact W.kia_one W.kitx_list I.kIn ⟨_,h1,rfl⟩ e (fun z=>nomatch z) h
 | @tup a xs ea =>
  cases (show u=Value.ref a from rx);obtain⟨_,_,_,p⟩:=(show ObjOk X.prog X.w H s.heap a (.tup xs) from I.hok a _ ea);obtain⟨o,h1,h2,_⟩:=p;exact W.kia_one W.kitx_tuple I.kIn ⟨o,h1,h2⟩ e (fun z=>nomatch z) h
 | @dK a kvs ea =>
  cases (show u=Value.ref a from rx);obtain⟨_,_,vs,_,p⟩:=(show ObjOk X.prog X.w H s.heap a (.dK kvs) from I.hok a _ ea);obtain⟨o,es,ep,h1,h2,_⟩:=p;exact W.kia_one W.kitx_dict I.kIn ⟨o,h1,h2.1⟩ e (fun z=>nomatch z) h
 | @dT a kvs ea =>
  cases (show u=Value.ref a from rx);obtain⟨_,_,xs,_,o,es,ep,h1,h2,_⟩:=(show ObjOk X.prog X.w H s.heap a (.dT kvs) from I.hok a _ ea);exact W.kia_one W.kitx_dict I.kIn ⟨o,h1,h2.1⟩ e (fun z=>nomatch z) h
 | @ins a C dx fs ea cl ha hn htk hm =>
  cases (show u=Value.ref a from rx);obtain⟨mA,O,_⟩:=Yj1 I.hok ea;obtain⟨od,J,_⟩:=O.look;exact W.kia_one (W.kitx_own (cl.get _) cl.hd ha hn htk hm) I.kIn J e (fun z=>nomatch z) h
end
structure Room (k:Nat) (A:Around):Prop where
 hd:A.handled=none
 dp:A.depth+3*k+5 < recursionLimit
 un:A.units+16*k+200 < cLine
theorem Room.mono {j k:Nat} {A:Around} (r:Room k A) (h:j≤k):Room j A:=⟨r.hd,by have:=r.dp;walk_at "o",by have:=r.un;walk_at "o"⟩
theorem Room.deeper {k:Nat} {A:Around} (r:Room (k+1) A) (env:Env):Room k (A.deeper env) :=
 ⟨r.hd,by have:=r.dp;show A.depth+1+3*k+5 < _;walk_at "o",by have:=r.un;show A.units+3+16*k+200 < _;walk_at "o"⟩
theorem Yo8 {A:Around} {C:Addr} {us:List Value} {kw:List (Str×Value)}:(A.under (.builtin "type.__call__" ⟨.ref C :: us,kw⟩)).depth=A.depth+1:=by
 first | rfl | simp[Around.under,Code.weight,Code.isCreation,Code.isGuard,Code.isCaller,Code.frames,Code.isFrame,guardIds]
theorem Yo7 {A:Around} {C:Addr} {us:List Value} {kw:List (Str×Value)}:(A.under (.builtin "type.__call__" ⟨.ref C :: us,kw⟩)).units=A.units+1:=by
 first | rfl | simp[Around.under,Code.cUnits,Code.frames,Code.isFrame]
theorem Room.make {k:Nat} {A:Around} (r:Room (k+1) A) (C:Addr) (us:List Value) (kw:List (Str×Value)):Room k (A.under (.builtin "type.__call__" ⟨.ref C :: us,kw⟩)) :=
 ⟨r.hd,by have:=r.dp;rw[Yo8];walk_at "o",by have:=r.un;rw[Yo7];walk_at "o"⟩
theorem Room.depth {k:Nat} {A:Around} (r:Room k A):A.depth < recursionLimit:=by have:=r.dp;walk_at "o"
theorem Room.units {k:Nat} {A:Around} (r:Room k A):A.units+64 < cLine:=by have:=r.un;walk_at "o"
def tNil:TA:=fun _ H Q=>Q [] H
def Zt2 (ta:TE) (tr:TA):TA:=fun σ H Q=>ta σ H fun x H1=>tr σ H1 fun xs H2=>Q (x :: xs) H2
section
variable {X:Cx} {e:Expr} {es:List Expr} {te:TE} {t:TA} {pos:Pos}
theorem Za1:PA X [] tNil:=fun _ _ _ _ H Q I h=>Calls.spliced_nil ⟨[],H,I,.nil,h⟩
theorem Za0 (ha:PE X e te) (hr:PA X es t) (hs:starEach (e :: es) X.env=(false,eval e X.env) :: starEach es X.env:=by rfl):PA X (e :: es) (Zt2 te t):=by
 intro pos pins s σ H Q I h;rw[hs];show wpAny _ _ (spliced ((false,eval e X.env) :: backTo pos (starEach es X.env))) _ _ s;refine Calls.spliced_cons (thn (ha pins s σ H _ I h) fun u s1 zq=>?_);obtain⟨x,H1,I1,r1,q1⟩:=zq;exact thn (hr pos pins s1 σ H1 _ I1 q1) fun us s2 ⟨xs,H2,I2,r2,q2⟩=>⟨x :: xs,H2,I2,.cons r1 r2,q2⟩
def tTup (t:TA):TE:=fun σ H Q=>t σ H fun xs H1=>xs.length≤sizeLine∧∀ p,H1 p=none→Q (.ref p) (upd H1 p (.tup xs))
def tLst (t:TA):TE:=fun σ H Q=>t σ H fun xs H1=>xs.length≤sizeLine∧∀ p,H1 p=none→Q (.ref p) (upd H1 p (.lst xs))
theorem Zb4 {x1} (h:PA X es t):PE X (.Tuple es x1 pos) (tTup t):=by
 intro pins s σ H Q I hq;refine wpAny_Tuple_spliced (thn (h pos pins s σ H _ I hq) fun us s1 ⟨xs,H1,I1,r,z,q⟩=>⟨by rw[← r.length];exact z,?_⟩);have hf:H1 s1.heap.objs.size=none:=I1.hok.fresh (Nat.le_refl _);refine⟨.ref s1.heap.objs.size,upd H1 s1.heap.objs.size (.tup xs),I1.laid (t':=s1.toks) (fun b u e=>Heap.get?_push_of_some _ e) (Nat.le_refl _) ?_,rfl,q _ hf⟩;exact⟨z,us,r,⟨_,Heap.get?_push_size _ rfl,rfl,_,rfl⟩⟩
theorem Zc7 (h:PA X es t):PE X (.List es pos) (tLst t):=by
 intro pins s σ H Q I hq;refine wpAny_List_spliced (thn (h pos pins s σ H _ I hq) fun us s1 ⟨xs,H1,I1,r,z,q⟩=>⟨by rw[← r.length];exact z,?_⟩);have hf:H1 s1.heap.objs.size=none:=I1.hok.fresh (Nat.le_refl _);refine⟨.ref s1.heap.objs.size,upd H1 s1.heap.objs.size (.lst xs),I1.laid (t':=s1.toks) (fun b u e=>Heap.get?_push_of_some _ e) (Nat.le_refl _) ?_,rfl,q _ hf⟩;exact⟨z,us,0,r,Heap.get?_push_size _ rfl⟩
end
noncomputable abbrev Sp:=List V→Hp→VK→XK→Prop
noncomputable abbrev CXT:=List Env→Hp→Shared→XK→Value→Shared→Prop
structure Env0 (P:Program) (w:World) (K:W.Frag) (mg:Str→Option Value) (base:Heap) (A:Around) (outer:List Env) (s:Shared) (H:Hp):Prop where
 frames:A.frames=some outer
 mod:Mod K mg base
 bs:∀ b o,base.get? b=some o→s.heap.get? b=some o∧H b=none
 bsz:base.objs.size≤s.heap.objs.size
 funs:s.heap.FunFrames base outer
 frf:∀ b∈frs outer,H b=none
 hok:HOk P w H s.heap
 bare:AllBare s.gens
def CE (outer:List Env) (P:Program) (w:World) (H:Hp) (s:Shared) (Q:VK) (u:Value) (s':Shared):Prop :=
 ∃ v H',s'.os=s.os∧AllBare s'.gens∧Un (frs outer) [] H H' s.heap s'.heap∧HOk P w H' s'.heap∧RelV v u∧Q v H'
def CR (CX:CXT) (outer:List Env) (P:Program) (w:World) (H:Hp) (s:Shared) (Q:VK) (E:XK) (r:Result) (s':Shared):Prop :=
 match r with
 | .ok (.ret u)=>CE outer P w H s Q u s'
 | .ok _=>False
 | .error e=>CX outer H s E e s'
structure FnOk (P:Program) (w:World) (K:W.Frag) (mg:Str→Option Value) (base:Heap) (CX:CXT) (k:Nat) (f:Addr) (fd:FuncData) (ps:List Str) (sp:Sp):Prop where
 len:∀ vs H Q E,sp vs H Q E→vs.length=ps.length
 run:∀ (A:Around) (outer:List Env) (s:Shared) (H:Hp) (args:Args) (us:List Value) (vs:List V) (Q:VK) (E:XK),Room k A→Env0 P w K mg base A outer s H→BindsTo s fd args (ps.zip us)→Vals vs us→sp vs H Q E →
  codeAny (model P w) A (.call (.ref f) args) (CR CX outer P w H s Q E) s
theorem FnOk.mono {P:Program} {w:World} {K:W.Frag} {mg:Str→Option Value} {base:Heap} {CX:CXT} {j k:Nat} {f:Addr} {fd:FuncData} {ps:List Str} {sp:Sp} (F:FnOk P w K mg base CX j f fd ps sp) (h:j≤k) :
  FnOk P w K mg base CX k f fd ps sp:=⟨F.len,fun A outer s H args us vs Q E hr=>F.run A outer s H args us vs Q E (hr.mono h)⟩
theorem Env0.make {P:Program} {w:World} {K:W.Frag} {mg:Str→Option Value} {base:Heap} {A:Around} {outer:List Env} {s:Shared} {H:Hp} (e:Env0 P w K mg base A outer s H) (C:Addr) (us:List Value) (kw:List (Str×Value)) :
  Env0 P w K mg base (A.under (.builtin "type.__call__" ⟨.ref C :: us,kw⟩)) outer s H:=⟨by first | exact e.frames | (simpa [Around.under,Code.envs,Code.isFrame,pushEnvs] using e.frames),e.mod,e.bs,e.bsz,e.funs,e.frf,e.hok,e.bare⟩
section
variable {X:Cx} {pins:List (Addr×Obj)} {σ:St} {H:Hp} {s s':Shared}
theorem Inv.env0 (I:Inv X pins σ H s):Env0 X.prog X.w X.K X.mg X.base X.A X.stack s H :=
 ⟨I.ok.frames,I.ok.mod,I.bs,Nat.le_trans I.ok.bsz I.sz,I.stack,I.stkFree,I.hok,I.bare⟩
theorem Inv.after {Q:VK} {u:Value} (I:Inv X pins σ H s) (h:CE X.stack X.prog X.w H s Q u s'):EP X pins σ Q u s':=by
 obtain⟨v,H',os,bare,un,hok,r,q⟩:=h;obtain⟨hh,g,d,t,os'⟩:=s';obtain rfl:os'=s.os:=os;exact⟨v,H',I.call (h':=hh) (g':=g) (d':=d) (t':=t) (ch:=[]) un hok bare (fun b z=>absurd z (by simp)),r,q⟩
end
def Zt5 (sp:Sp) (dvs:List V) (E:XK) (t:TA):TE:=fun σ H Q=>t σ H fun vs H1=>sp (vs++dvs) H1 Q E
def Yc5 (C:Addr) (sp:Sp) (dvs:List V) (E:XK) (t:TA):TE:=fun σ H Q=>t σ H fun vs H1=>∀ x dx,H1 x=none→H1 dx=none→dx≠x →
 sp (.ref x :: (vs++dvs)) (upd (upd H1 dx (.own x)) x (.ins C dx [])) (fun v H2=>v=.non∧Q (.ref x) H2) E
def Binds (K:W.Frag) (fd:FuncData) (ps:List Str) (ds:List Value):Prop :=
 ∀ (s:Shared) (us:List Value),K.In s.heap→(us++ds).length=ps.length→BindsTo s fd ⟨us,[]⟩ (ps.zip (us++ds))
theorem Binds.all {K:W.Frag} {fd:FuncData} {ps:List Str} (h:∀ us:List Value,us.length=ps.length→bindArgs fd ⟨us,[]⟩=pure (ps.zip us)):Binds K fd ps []:=fun s us _ hl=>by
 rw[List.append_nil] at hl ⊢;exact .of_eq (h us hl)
def Zp6 (CX:CXT) (X:Cx) (E:XK):Prop:=∀ (pins:List (Addr×Obj)) (σ:St) (H:Hp) (s:Shared) (e:Value) (s':Shared),Inv X pins σ H s→CX X.stack H s E e s'→X.xe e s'
section
variable {X:Cx} {CX:CXT} {k:Nat} {f C:Addr} {fd:FuncData} {ps:List Str} {sp:Sp} {dvs:List V} {ds:List Value} {E:XK} {x m:Str} {p pos apos:Pos} {e o:Expr} {es:List Expr} {ta:TE} {t:TA}
theorem Xe9 {pins:List (Addr×Obj)} {σ:St} {H:Hp} {s:Shared} {Q:VK} {us:List Value} {vs:List V} (F:FnOk X.prog X.w X.K X.mg X.base CX k f fd ps sp) (hr:Room k X.A) (hb:Binds X.K fd ps ds) (hd:Vals dvs ds) (hx:Zp6 CX X E)
  (I:Inv X pins σ H s) (r:Vals vs us) (h:sp (vs++dvs) H Q E):wpAny (model X.prog X.w) X.A (call (.ref f) us) (EP X pins σ Q) X.xe s:=by
 have r2:Vals (vs++dvs) (us++ds):=r.append hd
 have hl:(us++ds).length=ps.length:=by rw[← r2.length];exact F.len _ _ _ _ h
 refine wpAny_call (codeAny_mono (F.run X.A X.stack s H ⟨us,[]⟩ (us++ds) (vs++dvs) Q E hr I.env0 (hb s us I.kIn hl) r2 h) fun r s' hq=>?_)
 cases r with
 | error e=>exact hx pins σ H s e s' I hq
 | ok fl =>
  cases fl with
  | ret u=>exact I.after hq
  | next=>exact False.elim hq
  | brk=>exact False.elim hq
  | cont=>exact False.elim hq
theorem Zi1 (F:FnOk X.prog X.w X.K X.mg X.base CX k f fd ps sp) (hr:Room k X.A) (hg:Gl X x) (hm:X.mg x=some (.ref f)) (hk:W.keepIn X.K (.ref f)=true) (hb:Binds X.K fd ps ds) (hd:Vals dvs ds) (hx:Zp6 CX X E)
  (ha:PA X (e :: es) t) (hdb:(x == ("__debug__":Str))=false:=by decide) (he:starEach (e :: es) X.env=(false,eval e X.env) :: starEach es X.env:=by rfl) (hpl:(backTo pos (starEach es X.env)).any (·.1)=false:=by rfl) :
  PE X (.Call (.Name x p) (e :: es) [] pos) (Zt5 sp dvs E t):=by
 intro pins s σ H Q I h;refine wpAny_Call_Name_kw (Zk0 I hg hm ?_ hdb);refine W.callWith_K (h₀:=X.base) I.ok.mod.kin hk (thn (ha pos pins s σ H _ I h) fun us s1 ⟨vs,H1,I1,r,q⟩=>⟨I1.kIn,?_⟩) he hpl;exact Xe9 F hr hb hd hx I1 r q
structure Mk (K:W.Frag) (C f:Addr):Prop where
 makes:W.makesIn K C=true
 init:W.findIn K (.ref C) "__init__"=some (some (.ref f))
 fn:W.isFn K (.ref f)=true
 kp:W.keepIn K (.ref C)=true
theorem Yl1 {pins:List (Addr×Obj)} {σ:St} {H:Hp} {s:Shared} {Q:VK} {us:List Value} {vs:List V} (M:Mk X.K C f) (F:FnOk X.prog X.w X.K X.mg X.base CX k f fd ps sp) (hr:Room (k+1) X.A) (hb:Binds X.K fd ps ds) (hd:Vals dvs ds)
  (hx:Zp6 CX X E) (I:Inv X pins σ H s) (r:Vals vs us)
  (h:∀ x dx,H x=none→H dx=none→dx≠x→sp (.ref x :: (vs++dvs)) (upd (upd H dx (.own x)) x (.ins C dx [])) (fun v H2=>v=.non∧Q (.ref x) H2) E) :
  wpAny (model X.prog X.w) X.A (call (.ref C) us) (EP X pins σ Q) X.xe s:=by
 have hq:=h (s.heap.objs.size+1) s.heap.objs.size (I.hok.fresh (Nat.le_succ _)) (I.hok.fresh (Nat.le_refl _)) (Nat.ne_of_lt (Nat.lt_succ_self _));have I2:=Inv.made (C:=C) I;have r2:Vals (V.ref (s.heap.objs.size+1) :: (vs++dvs)) (Value.ref (s.heap.objs.size+1) :: (us++ds)):=.cons rfl (r.append hd)
 have hl:(Value.ref (s.heap.objs.size+1) :: us++ds).length=ps.length:=by
  have e:=r2.length;rw[F.len _ _ _ _ hq] at e;exact e.symm
 refine wpAny_call (Xc7 (f:=f) I.kIn M.makes M.init (beq_iff_eq.mp M.fn) (codeAny_mono (F.run _ X.stack _ _ ⟨Value.ref (s.heap.objs.size+1) :: us,[]⟩ (Value.ref (s.heap.objs.size+1) :: (us++ds)) _ _ E (hr.make C us [])
  (I2.env0.make C us []) (hb _ (Value.ref (s.heap.objs.size+1) :: us) I2.kIn hl) r2 hq) fun r s' hq'=>?_))
 cases r with
 | error e=>exact hx pins σ _ _ e s' I2 hq'
 | ok fl =>
  cases fl with
  | ret u =>
   obtain⟨v,H',I3,rv,ev,q3⟩:=I2.after hq';subst ev;exact⟨rv,⟨V.ref (s.heap.objs.size+1),H',I3,rfl,q3⟩⟩
  | next=>exact False.elim hq'
  | brk=>exact False.elim hq'
  | cont=>exact False.elim hq'
theorem Yt9 (M:Mk X.K C f) (F:FnOk X.prog X.w X.K X.mg X.base CX k f fd ps sp) (hr:Room (k+1) X.A) (hg:Gl X x) (hm:X.mg x=some (.ref C)) (hb:Binds X.K fd ps ds) (hd:Vals dvs ds) (hx:Zp6 CX X E)
  (ha:PA X (e :: es) t) (hdb:(x == ("__debug__":Str))=false:=by decide) (he:starEach (e :: es) X.env=(false,eval e X.env) :: starEach es X.env:=by rfl) (hpl:(backTo pos (starEach es X.env)).any (·.1)=false:=by rfl) :
  PE X (.Call (.Name x p) (e :: es) [] pos) (Yc5 C sp dvs E t):=by
 intro pins s σ H Q I h;refine wpAny_Call_Name_kw (Zk0 I hg hm ?_ hdb);refine W.callWith_K (h₀:=X.base) I.ok.mod.kin M.kp (thn (ha pos pins s σ H _ I h) fun us s1 ⟨vs,H1,I1,r,q⟩=>⟨I1.kIn,?_⟩) he hpl;exact Yl1 M F hr hb hd hx I1 r q
theorem Xc0 (M:Mk X.K C f) (F:FnOk X.prog X.w X.K X.mg X.base CX k f fd ps sp) (hr:Room (k+1) X.A) (hg:Gl X x) (hm:X.mg x=some (.ref C)) (hb:Binds X.K fd ps ds) (hd:Vals dvs ds) (hx:Zp6 CX X E)
  (hdb:(x == ("__debug__":Str))=false:=by decide):PE X (.Call (.Name x p) [] [] pos) (Yc5 C sp dvs E tNil):=by
 intro pins s σ H Q I h;refine wpAny_Call_Name_kw (Zk0 I hg hm ?_ hdb);exact W.callWith_K0 I.kIn M.kp (Yl1 (us:=[]) M F hr hb hd hx I .nil h)
end
structure FnScope (N P:List Str) (sc:Scope):Prop where
 kind:sc.kind=.function
 co:sc.isCoroutine=false
 gen:sc.isGenerator=false
 nd:N.Nodup
 pre:N.take P.length=P
 par:∀ x∈P,sc.names.lookup x=some .local∨sc.names.lookup x=some .cell
 nofree:∀ y∈sc.names,y.2≠.free
theorem Yg5 {kindOf:Str→Option NameKind} {x:Str}:∀ {binds:List (Str×Value)} {m:Str→Option Value},(∀ v,(x,v) ∉ binds)→bindL kindOf binds m x=m x
 | [],_,_=>rfl
 | (n,v) :: r,m,h=>by
  unfold bindL;rw[Yg5 fun w hw=>h w (List.mem_cons_of_mem _ hw)]
  split
  ·have:x≠n:=by rintro rfl;exact h v List.mem_cons_self
   simp[this]
  ·rfl
theorem Yg7 {kindOf:Str→Option NameKind} {x:Str}:∀ {binds:List (Str×Value)} {m:Str→Option Value},(∀ v,(x,v) ∉ binds)→bindC kindOf binds m x=m x
 | [],_,_=>rfl
 | (n,v) :: r,m,h=>by
  unfold bindC;rw[Yg7 fun w hw=>h w (List.mem_cons_of_mem _ hw)]
  split
  ·rfl
  ·have:x≠n:=by rintro rfl;exact h v List.mem_cons_self
   simp[this]
theorem Yg6 {kindOf:Str→Option NameKind} {x:Str} {v:Value}:∀ {P:List Str} {vs:List Value} {i:Nat} {m:Str→Option Value},P.Nodup→P[i]?=some x→vs[i]?=some v→kindOf x=some .local →
  bindL kindOf (P.zip vs) m x=some v
 | [],_,_,_,_,h,_,_=>by simp at h
 | _ :: _,[],_,_,_,_,h,_=>by simp at h
 | p :: P,w :: vs,0,m,nd,h1,h2,hk=>by
  simp at h1 h2;subst h1;subst h2;show bindL kindOf ((p,w) :: P.zip vs) m p=_;unfold bindL;rw[Yg5 fun v hv=>(List.nodup_cons.mp nd).1 (List.of_mem_zip hv).1,if_pos hk];simp
 | p :: P,w :: vs,i+1,m,nd,h1,h2,hk=>by
  show bindL kindOf ((p,w) :: P.zip vs) m x=_;unfold bindL;exact Yg6 (i:=i) (List.nodup_cons.mp nd).2 (by simpa using h1) (by simpa using h2) hk
theorem Yg8 {kindOf:Str→Option NameKind} {x:Str} {v:Value}:∀ {P:List Str} {vs:List Value} {i:Nat} {m:Str→Option Value},P.Nodup→P[i]?=some x→vs[i]?=some v→kindOf x≠some .local →
  bindC kindOf (P.zip vs) m x=some v
 | [],_,_,_,_,h,_,_=>by simp at h
 | _ :: _,[],_,_,_,_,h,_=>by simp at h
 | p :: P,w :: vs,0,m,nd,h1,h2,hk=>by
  simp at h1 h2;subst h1;subst h2;show bindC kindOf ((p,w) :: P.zip vs) m p=_;unfold bindC;rw[Yg7 fun v hv=>(List.nodup_cons.mp nd).1 (List.of_mem_zip hv).1,if_neg hk];simp
 | p :: P,w :: vs,i+1,m,nd,h1,h2,hk=>by
  show bindC kindOf ((p,w) :: P.zip vs) m x=_;unfold bindC;exact Yg8 (i:=i) (List.nodup_cons.mp nd).2 (by simpa using h1) (by simpa using h2) hk
noncomputable def start (N:List Str) (vs:List V):St:=vs.map some++List.replicate (N.length - vs.length) none
noncomputable def cxOf (CX:CXT) (P:Program) (w:World) (K:W.Frag) (mg:Str→Option Value) (base:Heap) (N:List Str) (qual:Str) (scope:Scope) (f:Addr) (cd:Value) (A:Around) (outer:List Env) (s:Shared) (H:Hp) (E:XK):Cx where
 prog:=P
 w:=w
 K:=K
 mg:=mg
 base:=base
 A:=A.deeper (envOfC qual scope s.heap.objs.size f cd)
 N:=N
 s₀:=s
 H₀:=H
 env:=envOfC qual scope s.heap.objs.size f cd
 outer:=outer
 stack:=envOfC qual scope s.heap.objs.size f cd :: outer
 ex:=[]
 calm:=true
 fn:=fun _=>true
 pn:=[]
 xe:=fun e s'=>wpAny (model P w) (A.deeper (envOfC qual scope s.heap.objs.size f cd)) (leaving (envOfC qual scope s.heap.objs.size f cd) e) (fun _ s''=>CX outer H s E e s'') (fun e' s''=>CX outer H s E e' s'') s'
theorem Zs7 {sc:Scope} {n:Nat} {x:Str} (h:sc.names.lookup x=some .cell):∃ c,(cellsFrom n sc.names []).lookup x=some c:=by
 have q:=W.cellsFrom_some sc.names n [] (.inl h);exact Option.isSome_iff_exists.mp q
theorem Yv8 {CX:CXT} {P:Program} {w:World} {K:W.Frag} {mg:Str→Option Value} {base:Heap} {N ps:List Str} {qual:Str} {scope:Scope} {f:Addr} {cd:Value} {A:Around} {outer:List Env} {s s1:Shared} {H:Hp} {E:XK} {us:List Value} {vs:List V}
  (S:FnScope N ps scope) (hd:A.handled=none) (e0:Env0 P w K mg base A outer s H) (hl:vs.length=ps.length) (r:Vals vs us)
  (x:InCallC s s.heap.objs.size (bindL (envOfC qual scope s.heap.objs.size f cd).kindOf (ps.zip us) fun _=>none) (cellsFrom (s.heap.objs.size+1) scope.names []) (bindC (envOfC qual scope s.heap.objs.size f cd).kindOf (ps.zip us) fun _=>none) s1) :
  Inv (cxOf CX P w K mg base N qual scope f cd A outer s H E) [] (start N vs) H s1:=by
 have hpl:ps.length≤N.length:=by have:=congrArg List.length S.pre;rw[List.length_take] at this;walk_at "o"
 obtain⟨h1,tk,rfl,hk⟩:=x.done;have noA:∀ b:Addr,b ∉ (cxOf CX P w K mg base N qual scope f cd A outer s H E).ex:=fun b z=>absurd (show b∈([]:List Addr) from z) (by simp)
 refine⟨⟨e0.mod,S.kind,rfl,rfl,Nat.le_refl _,fun y z c h1 h2=>?_,fun y hy=>?_,fun y c _ h=>?_,fun _=>hd,Around.frames_deeper e0.frames,.inr ⟨rfl,rfl⟩,fun b z=>absurd z (noA b),e0.bs,e0.bsz,fun b _ _=>noA b,fun b z=>absurd z (noA b),e0.funs,e0.frf⟩,
  rfl,e0.bare,Un.kept hk,⟨_,x.toInCall.ns,fun i y v h1 h2 h3=>?_⟩,fun y c h=>⟨_,x.cell y c h⟩,e0.hok.fresh (Nat.le_refl _),fun y c h=>?_,fun p hp=>absurd (show p∈([]:List (Addr×Obj)) from hp) (by simp),e0.hok.kept hk,?_⟩
 ·exact name_of_addr x.apart (PySem.mem_of_lookup h1) (PySem.mem_of_lookup h2)
 ·have hy:scope.names.lookup y=some .cell∨scope.names.lookup y=some .free:=hy
  rcases hy with hy | hy
  ·exact Zs7 hy
  ·exact absurd rfl (S.nofree _ (PySem.mem_of_lookup hy))
 ·exact Nat.le_of_lt (x.above y c (PySem.mem_of_lookup h))
 ·have hi:i < vs.length:=by
   unfold start at h2
   by_cases hi:i < vs.length
   ·exact hi
   ·rw[List.getElem?_append_right (by simpa using hi)] at h2
    rw[List.getElem?_replicate] at h2
    split at h2<;>cases h2
  have ha:vs[i]?=some v:=by
   unfold start at h2;rw[List.getElem?_append_left (by simpa using hi),List.getElem?_map] at h2
   cases e:vs[i]? with
   | none=>rw[e] at h2;cases h2
   | some a=>rw[e] at h2;cases h2;rfl
  obtain⟨u,hu,rv⟩:=r.get ha
  have hp:ps[i]?=some y:=by
   rw[← S.pre,List.getElem?_take_of_lt (by walk_at "o")];exact h1
  have ndP:ps.Nodup:=by rw[← S.pre];exact S.nd.sublist (List.take_sublist _ _)
  refine⟨u,rv,?_⟩;rcases S.par y (List.mem_of_getElem? hp) with k | k
  ·exact .inl ⟨k,Yg6 ndP hp hu k⟩
  ·obtain⟨c,e⟩:=Zs7 (n:=s.heap.objs.size+1) k
   refine .inr ⟨.inl k,c,e,?_⟩;have q:=x.cell y c e;rw[Yg8 ndP hp hu (by show scope.names.lookup y≠_;rw[k];decide)] at q;exact q
 ·exact e0.hok.fresh (Nat.le_of_lt (x.above y c (PySem.mem_of_lookup h)))
 ·unfold start
  show _=N.length;rw[List.length_append,List.length_map,List.length_replicate];walk_at "o"
theorem fn_of {CX:CXT} {P:Program} {w:World} {K:W.Frag} {mg:Str→Option Value} {base:Heap} {k:Nat} {f:Addr} {name qual:Str} {params:Arguments} {body:List Stmt} {scope:Scope} {dV kV doc pm cdv ct oc:Value} {an od:Option Addr}
  {osl:Array (Option Value)} {N ps:List Str} {sp:Sp} (lk:K.lookup f=some ⟨oc,od,.func (W.fnOf name qual params body scope dV kV doc pm an cdv ct),osl⟩) (hcd:W.codeIn K cdv qual=true) (S:FnScope N ps scope)
  (len:∀ vs H Q E,sp vs H Q E→vs.length=ps.length)
  (hbody:∀ (A:Around) (outer:List Env) (s:Shared) (H:Hp) (vs:List V) (Q:VK) (E:XK),Room k (A.deeper (envOfC qual scope s.heap.objs.size f cdv))→sp vs H Q E →
   ∃ t,PSs (cxOf CX P w K mg base N qual scope f cdv A outer s H E) body t∧t { nx:=fun _ H'=>Q .non H',rt:=Q } (start N vs) H) :
  FnOk P w K mg base CX (k+1) f (W.fnOf name qual params body scope dV kV doc pm an cdv ct) ps sp:=by
 refine⟨len,fun A outer s H args us vs Q E hr e0 hb r hsp=>?_⟩;have hl:=len _ _ _ _ hsp;have KX:K.In s.heap:=e0.mod.kin.keeps fun b o e=>(e0.bs b o e).1;have lim:s.heap.NoLimit:=e0.mod.nolimit.keeps fun b o e=>(e0.bs b o e).1
 have hkind:∀ y∈ps.zip us,scope.names.lookup y.1=some .local∨(scope.names.lookup y.1=some .cell∧((cellsFrom (s.heap.objs.size+1) scope.names []).lookup y.1).isSome=true):=fun⟨n,v⟩ hy=>by
  rcases S.par n (List.of_mem_zip hy).1 with q | q
  ·exact .inl q
  ·exact .inr ⟨q,W.cellsFrom_some _ _ _ (.inl q)⟩
 refine codeAny_call_function hr.depth (KX _ _ lk) rfl S.co S.gen rfl (W.codeRec_of KX hcd) (hb _ _ _ _ ?_);refine wpAny_newFunctionEnv_cells S.kind hkind fun env he s1 x=>?_;subst he;refine⟨lim.keeps x.toInCall.keep,codeAny_func ?_⟩;obtain⟨t,ht,hq⟩:=hbody A outer s H vs Q E (hr.deeper _) hsp;have I:Inv (cxOf CX P w K mg base N qual scope f cdv A outer s H E) [] (start N vs) H s1:=Yv8 S hr.hd e0 hl r x;refine wpAny_mono (ht [] s1 (start N vs) H _ I hq) (fun fl s' hs=>?_) fun e s' hs=>hs
 have fin:∀ {σ':St} {H':Hp} {v:V} {u:Value},Inv (cxOf CX P w K mg base N qual scope f cdv A outer s H E) [] σ' H' s'→RelV v u→Q v H'→CE outer P w H s Q u s' :=
  fun {σ' H' v u} J rv q=>⟨v,H',J.os,J.bare,J.base,J.hok,rv,q⟩
 cases fl with
 | ret u =>
  obtain⟨v,σ',H',J,rv,q⟩:=hs;exact fin J rv q
 | next =>
  obtain⟨σ',H',J,q⟩:=hs;exact fin (v:=V.non) (u:=Value.none) J rfl q
 | brk =>
  obtain⟨_,_,_,q⟩:=hs;exact False.elim q
 | cont =>
  obtain⟨_,_,_,q⟩:=hs;exact False.elim q
section
variable {X:Cx} {x:Str} {p pos:Pos} {e:Expr} {es:List Expr} {t:TA} {id T:String} {r:List V→Hp→VK→Prop}
def tCB (r:List V→Hp→VK→Prop) (t:TA):TE:=fun σ H Q=>t σ H fun vs H1=>r vs H1 Q
theorem Zc5 (hc:Zr0 X (.builtin id) r) (hg:Gl X x) (hm:X.mg x=none) (hv:bootBuiltins x=some (.builtin id)) (ha:PA X (e :: es) t) (hn:x≠"__name__":=by decide) (hdb:(x == ("__debug__":Str))=false:=by decide)
  (he:starEach (e :: es) X.env=(false,eval e X.env) :: starEach es X.env:=by rfl) (hpl:(backTo pos (starEach es X.env)).any (·.1)=false:=by rfl):PE X (.Call (.Name x p) (e :: es) [] pos) (tCB r t):=by
 intro pins s σ H Q I h;refine wpAny_Call_Name_kw (Ye9 I hg hm hv ?_ hn hdb);exact PyProof.Rows.callWith_builtin1 (thn (ha pos pins s σ H _ I h) fun us s1 ⟨vs,H1,I1,r1,q1⟩=>hc pins s1 σ H1 vs us Q I1 r1 q1) he hpl
theorem Zh2 (hc:Zr0 X (.type T) r) (hg:Gl X x) (hm:X.mg x=none) (hv:bootBuiltins x=some (.type T)) (ha:PA X (e :: es) t) (hn:x≠"__name__":=by decide) (hdb:(x == ("__debug__":Str))=false:=by decide)
  (he:starEach (e :: es) X.env=(false,eval e X.env) :: starEach es X.env:=by rfl) (hpl:(backTo pos (starEach es X.env)).any (·.1)=false:=by rfl):PE X (.Call (.Name x p) (e :: es) [] pos) (tCB r t):=by
 intro pins s σ H Q I h;refine wpAny_Call_Name_kw (Ye9 I hg hm hv ?_ hn hdb);exact PyProof.Rows.callWith_type1 (thn (ha pos pins s σ H _ I h) fun us s1 ⟨vs,H1,I1,r1,q1⟩=>hc pins s1 σ H1 vs us Q I1 r1 q1) he hpl
end
end L2
namespace HT
open PySem PyProof.Rows
section
variable {prog:Program} {w:World} {A:Around} {E:Value→Shared→Prop} {s:Shared}
theorem cat_tup {t b:Addr} {vs ws:List Value} {Q:Value→Shared→Prop} (ht:IsTup s.heap t vs.toArray) (hb:IsTup s.heap b ws.toArray) (hv:vs≠[])
  (h1:ws=[]→Q (.ref t) s) (h2:ws≠[]→Q (.ref s.heap.objs.size) { s with heap:=s.heap.push { cls:=.type "tuple",data:=.seq (vs++ws).toArray } })
  (hsz:vs.length+ws.length≤sizeLine):wpAny (model prog w) A (binaryOp .Add (.ref t) (.ref b)) Q E s:=by
 obtain⟨⟨cls,dd,data,sl⟩,ho,hc,n,hd⟩:=id ht;obtain⟨⟨cls2,dd2,data2,sl2⟩,ho2,hc2,n2,hd2⟩:=id hb;simp only at hc hd hc2 hd2;subst hc hd hc2 hd2
 have e:vs.toArray++ws.toArray=(vs++ws).toArray:=by simp
 by_cases hw:ws=[]
 ·exact concat_meets ⟨_,ho,rfl⟩ ⟨_,ho2,rfl⟩ noFill_tuple_add seq_tuple_add PySem.F.slot_tuple_add PySem.F.entry_tuple_add (PySem.F.args_tuple_add_2 _ _)
   (tuple_addW1 t b vs.toArray ws.toArray n n2 dd dd2 sl sl2 (by simpa using hv) (by simp[hw])) ⟨ho,ho2,h1 hw⟩
 ·refine concat_meets ⟨_,ho,rfl⟩ ⟨_,ho2,rfl⟩ noFill_tuple_add seq_tuple_add PySem.F.slot_tuple_add PySem.F.entry_tuple_add (PySem.F.args_tuple_add_2 _ _)
   (tuple_addW2 t b vs.toArray ws.toArray n n2 dd dd2 sl sl2 (by simpa using hv) (by simpa using hw) (by rw[List.size_toArray,List.size_toArray];exact hsz)) ⟨ho,ho2,?_⟩
  rw[e];exact h2 hw
noncomputable def sIx (n d:Nat):Option Int→Nat
 | none=>d
 | some v=>if v < 0 then (v+(n:Int)).toNat else min v.toNat n
theorem sIx_none (n d:Nat):sIx n d none=d:=rfl
theorem sIx_nat (n d k:Nat):sIx n d (some (k:Int))=min k n:=by
 show (if (k:Int) < 0 then ((k:Int)+(n:Int)).toNat else min (k:Int).toNat n)=min k n;rw[if_neg (by walk_at "o"),Int.toNat_natCast]
theorem Xp8 (n d:Nat) (hd:d≤n) (o:Option Int):sIx n d o≤n:=by
 cases o with
 | none=>exact hd
 | some v =>
  show (if v < 0 then (v+(n:Int)).toNat else min v.toNat n)≤n
  by_cases hv:v < 0
  ·rw[if_pos hv];walk_at "o"
  ·rw[if_neg hv];exact Nat.min_le_right _ _
theorem Yy2 (v:Int) (n d:Nat):(if v < 0 then max (v+(n:Int)) 0 else min v (n:Int))=((sIx n d (some v):Nat):Int):=by
 show (if v < 0 then max (v+(n:Int)) 0 else min v (n:Int))=(((if v < 0 then (v+(n:Int)).toNat else min v.toNat n):Nat):Int)
 by_cases hv:v < 0
 ·simp only[if_pos hv];walk_at "o"
 ·simp only[if_neg hv];walk_at "o"
theorem Yq5 (lo hi:Option Int) (n:Nat):Builtin.Slice.sliceAdjust lo hi 1 (n:Int)=(((sIx n 0 lo:Nat):Int),((sIx n n hi:Nat):Int)):=by
 have h1:¬ ((1:Int) < 0):=by walk_at "o"
 unfold Builtin.Slice.sliceAdjust;simp only[h1,if_false];refine Prod.ext ?_ ?_
 ·cases lo with
  | none=>rfl
  | some v=>exact Yy2 v n 0
 ·cases hi with
  | none=>rfl
  | some v=>exact Yy2 v n n
theorem Yo3 (i j:Nat):Builtin.Slice.slicePlaces (i:Int) (j:Int) 1=j - i:=by
 unfold Builtin.Slice.slicePlaces
 have h1:(1:Int) > 0:=by walk_at "o"
 simp only[h1,if_true,Int.ediv_one]
 split<;>walk_at "o"
theorem Zw5 {v:Value} {o:Option Int} {Q:Option Int→Shared→Prop} (p:IsPart v o) (h:Q o s):wpAny (model prog w) A (Builtin.Slice.slicePartIndex v) Q E s:=by
 cases p with
 | none=>exact slicePart_none h
 | int i t=>exact slicePart_int h
theorem Zr9 {sl:Addr} {vl vu:Value} {lo hi:Option Int} {n:Nat} {Q:Int×Int×Nat→Shared→Prop} (hs:s.heap.IsSliceOf sl vl vu .none) (pl:IsPart vl lo) (pu:IsPart vu hi)
  (h:Q (((sIx n 0 lo:Nat):Int),1,sIx n n hi - sIx n 0 lo) s):wpAny (model prog w) A (Builtin.Slice.sliceApplied (.ref sl) (pure (n:Int))) Q E s:=by
 obtain⟨os,hos,hcs,hds⟩:=id hs;unfold Builtin.Slice.sliceApplied Builtin.Slice.sliceFields;refine wpAny_bind (wpAny_bind (wpAny_field hos hds (x:=vl) rfl (wpAny_bind (wpAny_field hos hds (x:=vu) rfl (wpAny_bind (wpAny_field hos hds (x:=.none) rfl (wpAny_pure ?_)))))));refine wpAny_bind (slicePart_none ?_);show wpAny _ _ (if ((1:Int) == 0)=true then _ else _) _ _ s;rw[if_neg (by decide)];refine wpAny_bind (Zw5 pl (wpAny_bind (Zw5 pu (wpAny_bind (wpAny_pure ?_)))));show wpAny _ _ (match Builtin.Slice.sliceAdjust lo hi 1 (n:Int) with | (lo,hi)=>pure (lo,(1:Int),Builtin.Slice.slicePlaces lo hi 1)) _ _ s;rw[Yq5 lo hi n];show wpAny _ _ (pure (((sIx n 0 lo:Nat):Int),(1:Int),Builtin.Slice.slicePlaces ((sIx n 0 lo:Nat):Int) ((sIx n n hi:Nat):Int) 1)) _ _ s;rw[Yo3];exact wpAny_pure h
theorem Xb9 (xs:Array Value) (i k:Nat):((List.range k).filterMap fun (m:Nat)=>xs[((i:Int)+(m:Int)*1).toNat]?).toArray=((xs.toList.drop i).take k).toArray:=by
 have e:(fun (m:Nat)=>xs[((i:Int)+(m:Int)*1).toNat]?)=fun m=>xs[i+m]?:=by
  funext m
  have:((i:Int)+(m:Int)*1).toNat=i+m:=by walk_at "o"
  rw[this]
 rw[e];have:=pick_run xs i k;rw[List.filterMap_map] at this;have e2:((fun x=>xs[x]?) ∘ fun x=>i+x)=fun m=>xs[i+m]?:=rfl;rw[e2] at this;rw[this]
theorem getItem_tuple_cut {t sl:Addr} {items:Array Value} {vl vu:Value} {lo hi:Option Int} {Q:Value→Shared→Prop} (ht:IsTup s.heap t items) (hs:s.heap.IsSliceOf sl vl vu .none) (pl:IsPart vl lo) (pu:IsPart vu hi)
  (hw:¬ (sIx items.size 0 lo=0∧sIx items.size items.size hi=items.size))
  (h:Q (.ref s.heap.objs.size) { s with heap:=s.heap.push { cls:=.type "tuple",data:=.seq ((items.toList.drop (sIx items.size 0 lo)).take (sIx items.size items.size hi - sIx items.size 0 lo)).toArray } })
  (hsz:items.size≤sizeLine):wpAny (model prog w) A (getItem (.ref t) (.ref sl)) Q E s:=by
 have htake:sizeOk (.seq ((items.toList.drop (sIx items.size 0 lo)).take (sIx items.size items.size hi - sIx items.size 0 lo)).toArray):=by
  show ((items.toList.drop (sIx items.size 0 lo)).take (sIx items.size items.size hi - sIx items.size 0 lo)).toArray.size≤sizeLine;rw[List.size_toArray,List.length_take,List.length_drop,Array.length_toList];walk_at "o"
 have hj:sIx items.size items.size hi≤items.size:=Xp8 _ _ (Nat.le_refl _) hi;obtain⟨os,hos,hcs,hds⟩:=id hs;have hTs:s.TypeIs (.ref sl) "slice":=⟨os,hos,hcs⟩;unfold getItem
 try with_reducible refine wpAny_holding ?_
 first | refine wpAny_bind (wpAny_pure ?_) | skip
 refine wpAny_bind (wpAny_sequenceKey ht.typeIs (by decide) ?_)
 refine wpAny_bind (wpAny_callSpecial?_slot (name:=Str.ofString "__getitem__") ht.typeIs PyProof.Rows.slot_tuple_getitem
  (wpAny_call_entry PyProof.Rows.slot_tuple_getitem ht.typeIs entry_tuple_getitem ?_ (args_tuple_getitem _ _)))
 show wpAny _ _ (Builtin.Tuple.tupleItemsOf (.ref t) >>= _) _ _ s;refine wpAny_bind (tupleItemsOf_ ht ?_);refine wpAny_bind (wpAny_typeOf hTs ?_);rw[if_pos (by decide)];refine wpAny_bind (Zr9 hs pl pu ?_)
 have hno:¬ ((((sIx items.size 0 lo:Nat):Int) == 0&&(1:Int) == 1&&(sIx items.size items.size hi - sIx items.size 0 lo) == items.size)=true):=by
  intro q;rw[Bool.and_eq_true,Bool.and_eq_true] at q;have q1:((sIx items.size 0 lo:Nat):Int)=0:=eq_of_beq q.1.1;have q2:sIx items.size items.size hi - sIx items.size 0 lo=items.size:=eq_of_beq q.2;exact hw ⟨by walk_at "o",by walk_at "o"⟩
 show wpAny _ _ (if (((sIx items.size 0 lo:Nat):Int) == 0&&(1:Int) == 1&&(sIx items.size items.size hi - sIx items.size 0 lo) == items.size)=true then _ else _) _ _ s;rw[if_neg hno,Xb9]
 first
  | exact wpAny_bind (m:=Builtin.Tuple.tupleExact _) (wpAny_newObj_type (wpAny_pure ⟨_,rfl,wpAny_pure h⟩) htake)
  | exact wpAny_bind (m:=Builtin.Tuple.tupleExact _) (wpAny_newObj_type (wpAny_bind (wpAny_pure (wpAny_pure ⟨_,rfl,wpAny_pure h⟩))) htake)
  | exact wpAny_bind (wpAny_bind (m:=Builtin.Tuple.tupleExact _) (wpAny_newObj_type (wpAny_pure (wpAny_pure ⟨_,rfl,wpAny_pure h⟩)) htake))
  | exact wpAny_bind (wpAny_bind (m:=Builtin.Tuple.tupleExact _) (wpAny_newObj_type (wpAny_pure ⟨_,rfl,wpAny_pure h⟩) htake))
end
end HT
namespace L2
open PySem PySem.Spec PyProof.Rows
noncomputable abbrev TO:=St→Hp→(Option Int→Hp→Prop)→Prop
def PO (X:Cx) (e:Option Expr) (t:TO):Prop :=
 ∀ (pins:List (Addr×Obj)) (s:Shared) (σ:St) (H:Hp) (Q:Option Int→Hp→Prop),Inv X pins σ H s→t σ H Q →
  wpAny (model X.prog X.w) X.A (evalPart e X.env) (fun u s'=>∃ o H',Inv X pins σ H' s'∧IsPart u o∧Q o H') X.xe s
noncomputable def Zn0:TO:=fun _ H Q=>Q none H
noncomputable def Yh2 (t:TE):TO:=fun σ H Q=>t σ H fun x H1=>∃ i,x=.int i∧Q (some i) H1
section
variable {X:Cx} {e:Expr} {te:TE} {lo hi:Option Expr} {tl th:TO} {pos p2:Pos}
theorem Zn8:PO X none Zn0:=by
 intro pins s σ H Q I h;rw[evalPart_none];exact wpAny_pure ⟨none,H,I,.none,h⟩
theorem Zn7 (h:PE X e te):PO X (some e) (Yh2 te):=by
 intro pins s σ H Q I hw;rw[evalPart_some];refine thn (h pins s σ H _ I hw) fun u s1 zq=>?_;obtain⟨x,H1,I1,r1,q1⟩:=zq;obtain⟨i,rfl,q⟩:=q1;obtain⟨t,rfl⟩:=r1;exact⟨some i,H1,I1,.int i t,q⟩
def SlR (X:Cx) (r:V→Option Int→Option Int→Hp→VK→Prop):Prop :=
 ∀ (pins:List (Addr×Obj)) (s:Shared) (σ:St) (H:Hp) (x:V) (v vl vu:Value) (lo hi:Option Int) (sl:Addr) (Q:VK),Inv X pins σ H s→RelV x v→s.heap.IsSliceOf sl vl vu .none→IsPart vl lo→IsPart vu hi→r x lo hi H Q →
  ∃ T id,typeLookup (.type T) "__getitem__"=pure (some (.builtin id))∧s.TypeIs v T∧wpAny (model X.prog X.w) X.A (getItem v (.ref sl)) (EP X pins σ Q) X.xe s
def tSl (r:V→Option Int→Option Int→Hp→VK→Prop) (te:TE) (tl th:TO):TE:=fun σ H Q=>te σ H fun x H1=>tl σ H1 fun l H2=>th σ H2 fun u H3=>r x l u H3 Q
theorem Zj8 {r:V→Option Int→Option Int→Hp→VK→Prop} (hr:SlR X r) (he:PE X e te) (hl:PO X lo tl) (hu:PO X hi th):PE X (.Subscript e (.Slice lo hi none p2) pos) (tSl r te tl th):=by
 intro pins s σ H Q I h;refine Subscript_ (thn (he pins s σ H _ I h) fun v s1 zq=>?_);obtain⟨x,H1,I1,r1,q1⟩:=zq;refine wpAny_Slice (thn (hl pins s1 σ H1 _ I1 q1) fun vl s2 ⟨l,H2,I2,pl,q2⟩=>thn (hu pins s2 σ H2 _ I2 q2) fun vu s3 zq=>?_);obtain⟨u,H3,I3,pu,q3⟩:=zq;rw[evalPart_none];refine wpAny_pure ?_;have I4:Inv X pins σ H3 { s3 with heap:=s3.heap.push { cls:=.type "slice",data:=.fields #[vl,vu,.none] } }:=I3.kept (t':=s3.toks) fun b ob q=>Heap.get?_push_of_some _ q;obtain⟨T,id,hT,ht,hg⟩:=hr pins { s3 with heap:=s3.heap.push { cls:=.type "slice",data:=.fields #[vl,vu,.none] } } σ H3 x v vl vu l u s3.heap.objs.size Q I4 r1 (Heap.IsSliceOf.new ..) pl pu q3;show wpAny (model X.prog X.w) X.A (subscriptTail e (.Slice lo hi none p2) v (.ref s3.heap.objs.size)) (EP X pins σ Q) X.xe { s3 with heap:=s3.heap.push { cls:=.type "slice",data:=.fields #[vl,vu,.none] } };exact tail_any (ops:=[.ref s3.heap.objs.size,v]) ht hT hg (by with_unfolding_all rfl)
noncomputable def cutV (xs:List V) (lo hi:Option Int):List V:=(xs.drop (HT.sIx xs.length 0 lo)).take (HT.sIx xs.length xs.length hi - HT.sIx xs.length 0 lo)
theorem Zk2 (xs:List V) (lo hi:Option Int):(cutV xs lo hi).length≤xs.length:=by
 unfold cutV;rw[List.length_take,List.length_drop];walk_at "o"
def rSlT (K:W.Frag):V→Option Int→Option Int→Hp→VK→Prop:=fun x lo hi H Q=>∃ a xs,x=.ref a∧SqT K H a xs ∧
 ¬ (HT.sIx xs.length 0 lo=0∧HT.sIx xs.length xs.length hi=xs.length)∧∀ p,H p=none→Q (.ref p) (upd H p (.tup (cutV xs lo hi)))
theorem Ys6:SlR X (rSlT X.K):=by
 intro pins s σ H x v vl vu lo hi sl Q I rx hs pl pu h;obtain⟨a,xs,rfl,hx,hw,q⟩:=h;cases rx;obtain⟨its,r,ht,hz⟩:=I.tuple hx
 have hlen:its.toArray.size=xs.length:=by rw[List.size_toArray];exact r.length.symm
 refine⟨"tuple",_,PyProof.Rows.slot_tuple_getitem.lookup,ht.typeIs,?_⟩;refine HT.getItem_tuple_cut ht hs pl pu (by rw[hlen];exact hw) ?_ (by rw[hlen];exact hz);rw[hlen];refine⟨.ref s.heap.objs.size,_,I.laid (t':=s.toks) (o:=.tup (cutV xs lo hi)) (fun b ob q=>Heap.get?_push_of_some _ q) (Nat.le_refl _) ?_,rfl,q _ (I.hok.fresh (Nat.le_refl _))⟩;exact⟨Nat.le_trans (Zk2 xs lo hi) hz,_,(r.drop (HT.sIx xs.length 0 lo)).take (HT.sIx xs.length xs.length hi - HT.sIx xs.length 0 lo),IsTup.new _ _⟩
def Yi1 (K:W.Frag):R2:=fun x y H Q=>∃ a b xs ys,x=.ref a∧y=.ref b∧SqT K H a xs∧SqT K H b ys∧xs≠[]∧xs.length+ys.length≤sizeLine ∧
 (ys=[]→Q (.ref a) H)∧(ys≠[]→∀ p,H p=none→Q (.ref p) (upd H p (.tup (xs++ys))))
theorem Vals.nil_iff {xs:List V} {us:List Value} (r:Vals xs us):us=[]↔xs=[]:=by
 cases r with
 | nil=>simp
 | cons _ _=>simp
theorem Zz9:OpR X (binaryOp .Add) (Yi1 X.K):=by
 intro pins s σ H x y v u Q I rx ry h;obtain⟨a,b,xs,ys,rfl,rfl,ha,hb,hx,hz,q1,q2⟩:=h;cases rx;cases ry;obtain⟨its,r1,p1,_⟩:=I.tuple ha;obtain⟨its2,r2,p2,_⟩:=I.tuple hb;refine HT.cat_tup p1 p2 (fun z=>hx (r1.nil_iff.mp z)) (fun z=>⟨.ref a,H,I,rfl,q1 (r2.nil_iff.mp z)⟩) (fun z=>?_) (by rw[← r1.length,← r2.length];exact hz);refine⟨.ref s.heap.objs.size,_,I.laid (t':=s.toks) (o:=.tup (xs++ys)) (fun b ob q=>Heap.get?_push_of_some _ q) (Nat.le_refl _) ?_,rfl,q2 (fun w=>z (r2.nil_iff.mpr w)) _ (I.hok.fresh (Nat.le_refl _))⟩;exact⟨by rw[List.length_append];exact hz,_,r1.append r2,IsTup.new _ _⟩
end
noncomputable def ixN (n:Nat) (i:Int):Option Nat:=if 0≤i then (if i < n then some i.toNat else none) else if -(n:Int)≤i then some (i+n).toNat else none
noncomputable def atI {α:Type} (xs:List α) (i:Int):Option α:=(ixN xs.length i).bind fun j=>xs[j]?
theorem Xk3 {n:Nat} {i:Int} {j:Nat} (h:ixN n i=some j):seqIndex? i n=some j∧j < n∧-(n:Int)≤i∧i < n:=by
 unfold ixN at h
 by_cases h0:0≤i
 ·rw[if_pos h0] at h
  by_cases h1:i < n
  ·rw[if_pos h1] at h
   have e:i.toNat=j:=Option.some.inj h;exact⟨by rw[seqIndex_of h0 h1,e],by walk_at "o",by walk_at "o",h1⟩
  ·rw[if_neg h1] at h;cases h
 ·rw[if_neg h0] at h
  by_cases h1:-(n:Int)≤i
  ·rw[if_pos h1] at h
   have e:(i+n).toNat=j:=Option.some.inj h;exact⟨by rw[seqIndex_neg (by walk_at "o") h1,e],by walk_at "o",h1,by walk_at "o"⟩
  ·rw[if_neg h1] at h;cases h
theorem Yj8 {α:Type} {xs:List α} {i:Int} {v:α} (h:atI xs i=some v):∃ j,seqIndex? i xs.length=some j∧xs[j]?=some v∧j < xs.length∧-(xs.length:Int)≤i∧i < xs.length:=by
 unfold atI at h
 cases e:ixN xs.length i with
 | none=>rw[e] at h;cases h
 | some j =>
  rw[e] at h;obtain⟨h1,h2,h3,h4⟩:=Xk3 e;exact⟨j,h1,h,h2,h3,h4⟩
theorem Zd0 {α:Type} {xs:List α} {j:Nat} {v:α} (h:xs[j]?=some v):atI xs (j:Int)=some v:=by
 have hj:j < xs.length:=(List.getElem?_eq_some_iff.mp h).1
 have e:ixN xs.length (j:Int)=some j:=by
  unfold ixN;rw[if_pos (by walk_at "o"),if_pos (by walk_at "o")];simp
 unfold atI;rw[e];exact h
theorem Yn7 {α:Type} (xs:List α) (v:α):atI (xs++[v]) (-1)=some v:=by
 have hl:(xs++[v]).length=xs.length+1:=by simp
 have e:ixN (xs++[v]).length (-1)=some xs.length:=by
  unfold ixN;rw[hl,if_neg (by decide),if_pos (by walk_at "o")]
  congr 1
  walk_at "o"
 unfold atI;rw[e];show (xs++[v])[xs.length]?=some v;simp
def Yk0 (b:Expr):Prop:=∀ o i,subscripted b false o i=operate [o,i] (getItem o i)
def IxR (X:Cx) (r:R2):Prop :=
 ∀ (value slice:Expr) (pins:List (Addr×Obj)) (s:Shared) (σ:St) (H:Hp) (x y:V) (v u:Value) (Q:VK),Inv X pins σ H s→RelV x v→RelV y u→r x y H Q →
  subscripted slice false v u=operate [v,u] (getItem v u)→wpAny (model X.prog X.w) X.A (subscriptTail value slice v u) (EP X pins σ Q) X.xe s
def MtR (X:Cx) (id:String) (r:V→List V→Hp→VK→Prop):Prop :=
 ∀ (pins:List (Addr×Obj)) (s:Shared) (σ:St) (H:Hp) (x:V) (xs:List V) (v:Value) (us:List Value) (Q:VK),Inv X pins σ H s→RelV x v→Vals xs us→r x xs H Q →
  wpAny (model X.prog X.w) X.A (call (.builtin id) (v :: us)) (EP X pins σ Q) X.xe s
section
variable {X:Cx} {a b:Expr} {ta tb:TE} {pos:Pos}
theorem Xi5 {r:R2} (hr:IxR X r) (ha:PE X a ta) (hb:PE X b tb) (hs:Yk0 b):PE X (.Subscript a b pos) (tOp r ta tb):=by
 intro pins s σ H Q I h;exact Subscript_ (binT ha hb I h fun v u s2 x y H2 I2 rx ry q=>hr a b pins s2 σ H2 x y v u Q I2 rx ry q (hs _ _))
def rIxL (K:W.Frag):R2:=fun x y H Q=>∃ p xs i v,x=.ref p∧y=.int i∧SqL K H p xs∧atI xs i=some v∧Q v H
def rIxT (K:W.Frag):R2:=fun x y H Q=>∃ p xs i v,x=.ref p∧y=.int i∧SqT K H p xs∧atI xs i=some v∧Q v H
def rIxS:R2:=fun x y H Q=>∃ z i c,x=.str z∧y=.int i∧z.length≤sizeLine∧atI z.cps.toList i=some c∧Q (.str ⟨#[c]⟩) H
theorem Xk2:IxR X (rIxL X.K):=by
 intro value slice pins s σ H x y v u Q I rx ry h hs;obtain⟨p,xs,i,z,rfl,rfl,hq,he,q⟩:=h;cases rx;obtain⟨t,rfl⟩:=ry;obtain⟨its,r,pl,hz⟩:=I.list hq;obtain⟨j,h1,h2,h3,h4,h5⟩:=Yj8 he;obtain⟨w,ew,rw'⟩:=r.get h2;have hl:=r.length;have hn:=Ye8;have fin:EP X pins σ Q w s:=⟨z,H,I,rw',q⟩
 by_cases h0:0≤i
 ·have hj:i.toNat=j:=by
   rw[seqIndex_of h0 h5] at h1;exact Option.some.inj h1
  exact item_listR pl.isList h0 (by walk_at "o") (by rw[hj];simpa using ew) fin hs
 ·have hj:(i+(its.toArray.size:Int)).toNat=j:=by
   rw[seqIndex_neg (by walk_at "o") h4] at h1;rw[List.size_toArray,← hl];exact Option.some.inj h1
  exact subscriptTail_builtinR (x:=w) pl.isList.typeIs slot_list_getitem.lookup
   (wpAny_getItem_list_neg (Q:=fun r s'=>r=w∧EP X pins σ Q r s') pl.isList (by walk_at "o") (by rw[List.size_toArray]<;>walk_at "o") (by walk_at "o") (by rw[hj];simpa using ew) ⟨rfl,fin⟩) hs
theorem Xx3:IxR X (rIxT X.K):=by
 intro value slice pins s σ H x y v u Q I rx ry h hs;obtain⟨p,xs,i,z,rfl,rfl,hq,he,q⟩:=h;cases rx;obtain⟨t,rfl⟩:=ry;obtain⟨its,r,pl,hz⟩:=I.tuple hq;obtain⟨j,h1,h2,h3,h4,h5⟩:=Yj8 he;obtain⟨w,ew,rw'⟩:=r.get h2;have hl:=r.length;have hn:=Ye8;have fin:EP X pins σ Q w s:=⟨z,H,I,rw',q⟩;exact subscriptTail_builtinR (x:=w) pl.typeIs slot_tuple_getitem.lookup
  (getItem_tuple (j:=j) (Q:=fun r s'=>r=w∧EP X pins σ Q r s') pl (by walk_at "o") (by walk_at "o") (by rw[List.size_toArray,← hl];exact h1) (by simpa using ew) ⟨rfl,fin⟩) hs
theorem Xx4:IxR X rIxS:=by
 intro value slice pins s σ H x y v u Q I rx ry h hs;obtain⟨z,i,c,rfl,rfl,hz,he,q⟩:=h;obtain⟨t,rfl⟩:=rx;obtain⟨t',rfl⟩:=ry;obtain⟨j,h1,h2,h3,h4,h5⟩:=Yj8 he
 have hl:z.cps.toList.length=z.length:=by simp[Str.length]
 rw[hl] at h1 h4 h5;have hn:=Ye8
 exact tail_any (typeIs_str s z t) slot_str_getitem.lookup (getItem_str (c:=c) (by
  have e1:decide (i < -(2 ^ 63:Int))=false:=decide_eq_false (by walk_at "o");have e2:decide (i ≥ 2 ^ 63)=false:=decide_eq_false (by walk_at "o")
  rw[e1,e2,Bool.or_false]) (by rw[h1];simpa using h2) ⟨.str ⟨#[c]⟩,H,I.tok _,⟨_,rfl⟩,q⟩) hs
theorem Yc9 (lo hi:Option Int) (n:Nat):(sliceBounds lo hi none n).1=((HT.sIx n 0 lo:Nat):Int)∧(sliceBounds lo hi none n).2.1=((HT.sIx n n hi:Nat):Int)∧(sliceBounds lo hi none n).2.2=1:=by
 refine⟨?_,?_,rfl⟩
 ·cases lo with
  | none=>simp[sliceBounds,HT.sIx]
  | some i =>
   simp only[sliceBounds,HT.sIx,Option.getD_none,show (1:Int) > 0 by decide,if_true]
   by_cases h:i < 0
   ·simp only[h,if_true]<;>walk_at "o"
   ·simp only[h,if_false]<;>walk_at "o"
 ·cases hi with
  | none=>simp[sliceBounds,HT.sIx]
  | some i =>
   simp only[sliceBounds,HT.sIx,Option.getD_none,show (1:Int) > 0 by decide,if_true]
   by_cases h:i < 0
   ·simp only[h,if_true]<;>walk_at "o"
   ·simp only[h,if_false]<;>walk_at "o"
theorem Zy5 (its:List Value) (lo hi:Option Int):slicePick its.toArray lo hi none=((its.drop (HT.sIx its.length 0 lo)).take (HT.sIx its.length its.length hi - HT.sIx its.length 0 lo)).toArray:=by
 obtain⟨h1,h2,h3⟩:=Yc9 lo hi its.toArray.size;unfold slicePick;rw[h1,h2,h3]
 simp only[sliceRange_one,pick_run,List.size_toArray]<;>rfl
def rSlL (K:W.Frag):V→Option Int→Option Int→Hp→VK→Prop:=fun x lo hi H Q=>∃ a xs,x=.ref a∧SqL K H a xs∧∀ p,H p=none→Q (.ref p) (upd H p (.lst (cutV xs lo hi)))
theorem Zy6:SlR X (rSlL X.K):=by
 intro pins s σ H x v vl vu lo hi sl Q I rx hs pl pu h;obtain⟨a,xs,rfl,hx,q⟩:=h;cases rx;obtain⟨its,r,ht,hz⟩:=I.list hx;have hlen:=r.length;refine⟨"list",_,slot_list_getitem.lookup,ht.isList.typeIs,?_⟩;refine wpAny_getItem_list_slice ht.isList hs pl pu .none (by simp) ?_ (by rw[List.size_toArray]<;>walk_at "o");rw[Zy5,← hlen];refine⟨.ref s.heap.objs.size,_,I.laid (t':=s.toks) (o:=.lst (cutV xs lo hi)) (fun b ob q=>Heap.get?_push_of_some _ q) (Nat.le_refl _) ?_,rfl,q _ (I.hok.fresh (Nat.le_refl _))⟩;exact⟨Nat.le_trans (Zk2 xs lo hi) hz,_,0,(r.drop (HT.sIx xs.length 0 lo)).take (HT.sIx xs.length xs.length hi - HT.sIx xs.length 0 lo),Heap.get?_push_size _ rfl⟩
noncomputable def Yf8:V→Bool
 | .non=>true
 | .bl _=>true
 | .int _=>true
 | .str _=>true
 | _=>false
noncomputable def eqV:V→V→Bool
 | .non,.non=>true
 | .bl a,.bl b=>a == b
 | .bl a,.int b=>(if a then 1 else 0) == b
 | .int a,.bl b=>a == (if b then 1 else 0)
 | .int a,.int b=>a == b
 | .str a,.str b=>a == b
 | _,_=>false
theorem Xy0 {A:Around} {s:Shared} {y x:V} {u v:Value} (ry:RelV y u) (rx:RelV x v) (fy:Yf8 y=true) (fx:Yf8 x=true):SeqAt.EqAt A s u v (eqV y x):=by
 cases y with
 | non =>
  cases ry
  cases x with
  | non=>cases rx;exact SeqAt.EqAt.same _
  | bl b=>cases rx;exact SeqAt.EqAt.none_bool b
  | int b=>obtain⟨t,rfl⟩:=rx;exact SeqAt.EqAt.none_int b t
  | str b=>obtain⟨t,rfl⟩:=rx;exact SeqAt.EqAt.none_str b t
  | _=>exact absurd (show false=true from fx) Bool.false_ne_true
 | bl a =>
  cases ry
  cases x with
  | non=>cases rx;exact SeqAt.EqAt.bool_none a
  | bl b=>cases rx;exact SeqAt.EqAt.bool_bool a b
  | int b=>obtain⟨t,rfl⟩:=rx;exact SeqAt.EqAt.bool_int a b t
  | str b=>obtain⟨t,rfl⟩:=rx;exact SeqAt.EqAt.bool_str a b t
  | _=>exact absurd (show false=true from fx) Bool.false_ne_true
 | int a =>
  obtain⟨t',rfl⟩:=ry
  cases x with
  | non=>cases rx;exact SeqAt.EqAt.int_none a t'
  | bl b=>cases rx;exact SeqAt.EqAt.int_bool a t' b
  | int b=>obtain⟨t,rfl⟩:=rx;exact SeqAt.EqAt.int_int a t' b t
  | str b=>obtain⟨t,rfl⟩:=rx;exact SeqAt.EqAt.int_str a t' b t
  | _=>exact absurd (show false=true from fx) Bool.false_ne_true
 | str a =>
  obtain⟨t',rfl⟩:=ry
  cases x with
  | non=>cases rx;exact SeqAt.EqAt.str_none a t'
  | bl b=>cases rx;exact SeqAt.EqAt.str_bool a t' b
  | int b=>obtain⟨t,rfl⟩:=rx;exact SeqAt.EqAt.str_int a t' b t
  | str b=>obtain⟨t,rfl⟩:=rx;exact SeqAt.EqAt.str_str a t' b t
  | _=>exact absurd (show false=true from fx) Bool.false_ne_true
 | _=>exact absurd (show false=true from fy) Bool.false_ne_true
noncomputable def eqU (x:V) (u:Value):Bool:=match u with
 | .none=>eqV .non x
 | .bool b=>eqV (.bl b) x
 | .int i _=>eqV (.int i) x
 | .str z _=>eqV (.str z) x
 | _=>false
theorem Xg4 {x y:V} {u:Value} (r:RelV y u) (f:Yf8 y=true):eqU x u=eqV y x:=by
 cases y with
 | non=>cases r;rfl
 | bl b=>cases r;rfl
 | int i=>obtain⟨t,rfl⟩:=r;rfl
 | str z=>obtain⟨t,rfl⟩:=r;rfl
 | _=>exact absurd (show false=true from f) Bool.false_ne_true
theorem Yj9 {x:V}:∀ {xs:List V} {us:List Value},Vals xs us→xs.all Yf8=true→us.any (eqU x)=xs.any fun y=>eqV y x
 | _,_,.nil,_=>rfl
 | y :: xs,u :: us,.cons r t,f=>by
  rw[List.all_cons,Bool.and_eq_true] at f;rw[List.any_cons,List.any_cons,Xg4 r f.1,Yj9 t f.2]
theorem Ya3 {A:Around} {s:Shared} {x:V} {v:Value} (rx:RelV x v) (fx:Yf8 x=true):∀ {xs:List V} {us:List Value},Vals xs us→xs.all Yf8=true→∀ u∈us,SeqAt.EqAt A s u v (eqU x u)
 | _,_,.nil,_=>fun u hu=>by cases hu
 | y :: xs,u :: us,.cons r t,f=>fun u' hu=>by
  rw[List.all_cons,Bool.and_eq_true] at f;rcases List.mem_cons.mp hu with rfl | hu
  ·rw[Xg4 r f.1];exact Xy0 r rx f.1 fx
  ·exact Ya3 rx fx t f.2 u' hu
noncomputable def inV (x:V) (xs:List V):Bool:=xs.any fun y=>eqV y x
def rIn (K:W.Frag) (neg:Bool):R2:=fun x y H Q=>∃ p xs,y=.ref p∧(SqL K H p xs∨SqT K H p xs)∧Yf8 x=true∧xs.all Yf8=true∧Q (.bl (if neg then !inV x xs else inV x xs)) H
theorem Zg5:OpR X (compareOp .In) (rIn X.K false):=by
 intro pins s σ H x y v u Q I rx ry h;obtain⟨p,xs,rfl,hq,fx,fs,q⟩:=h;cases ry;rcases hq with hq | hq
 ·obtain⟨its,r,pl,hz⟩:=I.list hq
  refine SeqAt.in_listAt (eqU x) pl.isList (fun w hw=>Ya3 rx fx r fs w (by simpa using hw)) ⟨.bl _,H,I,rfl,?_⟩;rw[show its.toArray.any (eqU x)=its.any (eqU x) by simp,Yj9 r fs];exact q
 ·obtain⟨its,r,pl,hz⟩:=I.tuple hq
  refine SeqAt.in_tupleAt (eqU x) pl (fun w hw=>Ya3 rx fx r fs w (by simpa using hw)) ⟨.bl _,H,I,rfl,?_⟩;rw[show its.toArray.any (eqU x)=its.any (eqU x) by simp,Yj9 r fs];exact q
theorem Zc2:Zr0 X (.builtin "len") (fun xs H Q=>∃ p ys,xs=[.ref p]∧(SqL X.K H p ys∨SqT X.K H p ys)∧Q (.int ys.length) H):=by
 intro pins s σ H xs us Q I r h;obtain⟨p,ys,rfl,hq,q⟩:=h;obtain⟨u,rfl,rx⟩:=Xa0 r;cases rx;have hn:=Ye8;rcases hq with hq | hq
 ·obtain⟨its,r',pl,hz⟩:=I.list hq
  have hlen:=r'.length;exact Calls.call_len_list pl.isList (by simp only[List.size_toArray]<;>walk_at "o") ⟨.int ys.length,H,I.tok _,⟨s.toks+1,by rw[List.size_toArray,hlen]⟩,q⟩
 ·obtain⟨its,r',pl,hz⟩:=I.tuple hq
  have hlen:=r'.length;exact len_tuple pl (by simp only[List.size_toArray]<;>walk_at "o") ⟨.int ys.length,H,I.tok _,⟨s.toks+1,by rw[List.size_toArray,hlen]⟩,q⟩
theorem Yg4:Zr0 X (.type "list") (fun xs H Q=>∃ p ys,xs=[.ref p]∧(SqL X.K H p ys∨SqT X.K H p ys)∧∀ l,H l=none→Q (.ref l) (upd H l (.lst ys))):=by
 intro pins s σ H xs us Q I r h;obtain⟨p,ys,rfl,hq,q⟩:=h;obtain⟨u,rfl,rx⟩:=Xa0 r;cases rx
 have fin:∀ (its:List Value),Vals ys its→ys.length≤sizeLine→∀ (h':Heap) (c':Nat),(∀ b o',s.heap.get? b=some o'→h'.get? b=some o') →
   h'.get? s.heap.objs.size=some { cls:=.type "list",dict:=none,data:=.seq its.toArray c',slots:=#[] }→EP X pins σ Q (.ref s.heap.objs.size) { s with heap:=h' }:=fun its r' hz h' c' kp e =>
  ⟨.ref s.heap.objs.size,_,I.laid (t':=s.toks) kp (Nat.le_refl _) (show ObjOk X.prog X.w _ h' _ (.lst ys) from ⟨hz,its,c',r',e⟩),rfl,q _ (I.hok.fresh (Nat.le_refl _))⟩
 rcases hq with hq | hq
 ·obtain⟨its,r',pl,hz⟩:=I.list hq
  have hlen:=r'.length;obtain⟨o,ho,hc,n,hd⟩:=pl.isList;exact call_list_seq p (.inl rfl) ho hc hd (fun h' c' kp e=>fin its r' hz h' c' kp e) (by simp only[List.size_toArray]<;>walk_at "o")
 ·obtain⟨its,r',pl,hz⟩:=I.tuple hq
  have hlen:=r'.length;obtain⟨o,ho,hc,n,hd⟩:=pl;exact call_list_seq p (.inr rfl) ho hc hd (fun h' c' kp e=>fin its r' hz h' c' kp e) (by simp only[List.size_toArray]<;>walk_at "o")
def tyV (K:W.Frag) (T:String) (x:V) (H:Hp):Prop:=match x with
 | .str _=>T="str"
 | .int _=>T="int"
 | .ref p=>(T="list"∧∃ xs,SqL K H p xs)∨(T="tuple"∧∃ o,K.lookup p=some o∧o.cls=.type "tuple"∧o.dict=none) ∨
   (T="dict"∧((∃ kvs,H p=some (.dK kvs))∨∃ kvs,H p=some (.dT kvs)))∨(T="set"∧∃ S n,H p=some (.set S n))
 | _=>False
theorem Xe8 {pins:List (Addr×Obj)} {σ:St} {H:Hp} {s:Shared} {T:String} {x:V} {v:Value} (I:Inv X pins σ H s) (r:RelV x v) (ty:tyV X.K T x H) :
  s.TypeIs v T∧∀ a,v=.ref a→∃ ob,s.heap.get? a=some ob∧ob.dict=none:=by
 cases x with
 | str z =>
  obtain⟨t,rfl⟩:=r;cases (show T="str" from ty);exact⟨typeIs_str s z t,fun _ e=>nomatch e⟩
 | int i =>
  obtain⟨t,rfl⟩:=r;cases (show T="int" from ty);exact⟨typeIs_int s i t,fun _ e=>nomatch e⟩
 | ref p =>
  cases r;rcases ty with ⟨rfl,xs,hq⟩ | ⟨rfl,o,hk,hc,hd⟩ | ⟨rfl,hk⟩ | ⟨rfl,S,n,hk⟩
  ·obtain⟨its,_,pl,_⟩:=I.list hq
   refine⟨pl.isList.typeIs,fun a e=>?_⟩;cases e;obtain⟨o,n,e,c,hd,_⟩:=pl;exact⟨o,e,hd⟩
  ·refine⟨⟨o,I.kIn p o hk,hc⟩,fun a e=>?_⟩
   cases e;exact⟨o,I.kIn _ o hk,hd⟩
  ·have z:∃ o,s.heap.get? p=some o∧o.ExactDict:=by
    rcases hk with ⟨kvs,hk⟩ | ⟨kvs,hk⟩
    ·obtain⟨_,_,_,_,o,_,_,e,ex,_⟩:=I.hok p _ hk
     exact⟨o,e,ex⟩
    ·obtain⟨_,_,_,_,o,_,_,e,ex,_⟩:=I.hok p _ hk
     exact⟨o,e,ex⟩
   obtain⟨o,e,ex⟩:=z;refine⟨⟨o,e,ex.1⟩,fun a e2=>?_⟩;cases e2;exact⟨o,e,ex.2.1⟩
  ·obtain⟨o,_,_,_,e,ex,_⟩:=I.hok p _ hk
   refine⟨⟨o,e,ex.1⟩,fun a e2=>?_⟩;cases e2;exact⟨o,e,ex.2.1⟩
 | _=>exact False.elim ty
def tBM0 (K:W.Frag) (T:String) (r:V→List V→Hp→VK→Prop) (to:TE):TE:=fun σ H Q=>to σ H fun x H1=>tyV K T x H1∧r x [] H1 Q
def tBM (K:W.Frag) (T:String) (r:V→List V→Hp→VK→Prop) (to:TE) (t:TA):TE:=fun σ H Q=>to σ H fun x H1=>tyV K T x H1∧t σ H1 fun xs H2=>r x xs H2 Q
variable {o e:Expr} {es:List Expr} {to:TE} {t:TA} {name:Str} {apos cpos:Pos} {T id:String} {r:V→List V→Hp→VK→Prop}
theorem Ye1 (pa:PlainAttrs T) (slot:Slot T name id) (hty:typeOf (.builtin id)=pure (.type "method_descriptor")) (hm:MtR X id r) (ho:PE X o to)
  (hbase:attributeBase o name X.env (eval o X.env)=eval o X.env:=by rfl) (hline:(apos.endLine == cpos.line)=true:=by rfl):PE X (.Call (.Attribute o name apos) [] [] cpos) (tBM0 X.K T r to):=by
 intro pins s σ H Q I h;refine wpAny_Call_method0_late hbase hline (thn (ho pins s σ H _ I h) fun v s1 zq=>?_);obtain⟨x,H1,I1,r1,ty,q1⟩:=zq;obtain⟨h1,h2⟩:=Xe8 I1 r1 ty;exact⟨T,id,pa,slot,hty,h1,h2,Calls.callWith_builtin rfl (PySem.evalArgs_none (hm pins s1 σ H1 x [] v [] Q I1 r1 .nil q1))⟩
theorem Zn9 (pa:PlainAttrs T) (slot:Slot T name id) (hty:typeOf (.builtin id)=pure (.type "method_descriptor")) (hm:MtR X id r) (ho:PE X o to) (ha:PA X (e :: es) t)
  (hbase:attributeBase o name X.env (eval o X.env)=eval o X.env:=by rfl)
  (hfew:((backTo cpos (starEach (e :: es) X.env)).all (fun x=>!x.1)&&(backToKw cpos (keywordEach [] X.env)).all (fun x=>x.1.isSome)
   && decide ((e :: es).length+([]:List Keyword).length+(if ([]:List Keyword).isEmpty then 0 else 1) < 30))=true:=by rfl)
  (hline:(apos.endLine == cpos.line)=true:=by rfl) (hs:starEach (e :: es) X.env=(false,eval e X.env) :: starEach es X.env:=by rfl) (hplain:(backTo cpos (starEach es X.env)).any (·.1)=false:=by rfl) :
  PE X (.Call (.Attribute o name apos) (e :: es) [] cpos) (tBM X.K T r to t):=by
 intro pins s σ H Q I h;refine wpAny_Call_method_late hbase hfew hline rfl (thn (ho pins s σ H _ I h) fun v s1 zq=>?_);obtain⟨x,H1,I1,r1,ty,q1⟩:=zq;obtain⟨h1,h2⟩:=Xe8 I1 r1 ty;refine⟨T,id,pa,slot,hty,h1,h2,?_⟩;have hA:=ha cpos pins s1 σ H1 _ I1 q1;rw[hs] at hA ⊢;refine Calls.callWith_builtin (by show (false||(backTo cpos (starEach es X.env)).any (·.1))=false;rw[hplain]<;>rfl) (Calls.evalArgs_plain ?_);exact thn hA fun us s2 ⟨vs,H2,I2,r2,q2⟩=>hm pins s2 σ H2 x vs v us Q I2 r1 r2 q2
end
def MtM (X:Cx) (id:String) (r:V→List V→Hp→VK→Prop):Prop :=
 ∀ (pins:List (Addr×Obj)) (s:Shared) (σ:St) (H:Hp) (x:V) (xs:List V) (v:Value) (us:List Value) (Q:VK),Inv X pins σ H s→RelV x v→Vals xs us→r x xs H Q →
  wpAny (model X.prog X.w) X.A (call (.builtin id) (v :: us)) (EP X pins σ Q) X.xe s
theorem Vals.one:∀ {x:V} {us:List Value},Vals [x] us→∃ u,us=[u]∧RelV x u
 | _,_,.cons r .nil=>⟨_,rfl,r⟩
theorem Vals.zero:∀ {us:List Value},Vals [] us→us=[]
 | _,.nil=>rfl
theorem Vals.dropLast {xs:List V} {us:List Value} (h:Vals xs us):Vals xs.dropLast us.dropLast:=by
 induction h with
 | nil=>exact .nil
 | cons r t ih =>
  cases t with
  | nil=>exact .nil
  | cons q t'=>exact .cons r ih
theorem Vals.reverse {xs:List V} {us:List Value} (h:Vals xs us):Vals xs.reverse us.reverse:=by
 induction h with
 | nil=>exact .nil
 | cons r t ih=>rw[List.reverse_cons,List.reverse_cons];exact Vals.append ih (.cons r .nil)
theorem Yp7 {α:Type} (l:List α):l.eraseIdx (l.length - 1)=l.dropLast:=by
 induction l with
 | nil=>rfl
 | cons a r ih =>
  cases r with
  | nil=>rfl
  | cons b r =>
   have e:(a :: b :: r).length - 1=((b :: r).length - 1)+1:=by
    have h1:(a :: b :: r).length=r.length+2:=rfl;have h2:(b :: r).length=r.length+1:=rfl;walk_at "o"
   rw[e,List.eraseIdx_cons_succ,ih]
   all_goals rfl
section
variable {X:Cx} {pins:List (Addr×Obj)} {σ:St} {H:Hp} {s:Shared} {l b:Addr} {xs ys zs:List V}
theorem Inv.lset {its its':List Value} {n:Nat} {f:Array Value→Array Value} {t':Nat} (I:Inv X pins σ H s) (hH:H l=some (.lst xs))
  (e:s.heap.get? l=some { cls:=.type "list",data:=.seq its.toArray n }) (hf:f its.toArray=its'.toArray) (hv:Vals ys its') (hz:ys.length≤sizeLine) :
  Inv X pins σ (upd H l (.lst ys)) { s with heap:=s.heap.update l (Obj.mapSeq f),toks:=t' }:=by
 have q:=PySem.IsL.update e f;rw[hf] at q;refine I.write (x:=l) (e:=l) (by rw[hH];exact trivial) (.inl rfl) (fun b' u hb hu=>(Heap.get?_update_other s.heap (Obj.mapSeq f) (Ne.symm hb)).trans hu) ⟨_,q⟩ ?_;exact⟨hz,its',_,hv,q⟩
theorem Inv.lnew {its:List Value} {t':Nat} (I:Inv X pins σ H s) (hv:Vals ys its) (hz:ys.length≤sizeLine) :
  Inv X pins σ (upd H s.heap.objs.size (.lst ys)) { s with heap:=s.heap.push { cls:=.type "list",data:=.seq its.toArray },toks:=t' } :=
 I.laid (fun _ _ q=>Heap.get?_push_of_some _ q) (Nat.le_refl _) ⟨hz,its,0,hv,Heap.get?_push_size _ rfl⟩
theorem Inv.fresh (I:Inv X pins σ H s):H s.heap.objs.size=none:=I.hok.fresh (Nat.le_refl _)
theorem Inv.lstM (I:Inv X pins σ H s) (hH:H l=some (.lst xs)):xs.length≤sizeLine∧∃ (its:List Value) (n:Nat),Vals xs its∧xs.length=its.length∧s.heap.get? l=some { cls:=.type "list",data:=.seq its.toArray n }:=by
 obtain⟨z,its,n,r,e⟩:=I.hok l _ hH;exact⟨z,its,n,r,r.length,e⟩
theorem Xc4 {n:Nat} (h:n≤sizeLine):Builtin.List.listTooLong n=false:=by
 unfold Builtin.List.listTooLong;exact decide_eq_false (by walk_at "o")
end
section
variable {X:Cx}
def Zn6:V→List V→Hp→VK→Prop:=fun x vs H Q=>∃ l xs y,x=.ref l∧vs=[y]∧H l=some (.lst xs)∧xs.length < sizeLine∧Q .non (upd H l (.lst (xs++[y])))
theorem Ze6:MtM X "list.append" Zn6:=by
 intro pins s σ H x vs v us Q I rx rv h;obtain⟨l,xs,y,rfl,rfl,hH,hz,q⟩:=h;cases rx;obtain⟨u,rfl,ru⟩:=rv.one;obtain⟨z,its,n,r,hl,e⟩:=I.lstM hH;refine call_meets F.slot_list_append ⟨_,e,rfl⟩ F.entry_list_append (F.args_list_append_2 _ _) (PySem.list_append l its.toArray n u (by rw[List.size_toArray];walk_at "o")) ⟨e,?_⟩;refine⟨.non,_,I.lset (its':=its++[u]) hH e (by simp) (r.append (.cons ru .nil)) ?_,rfl,q⟩;rw[List.length_append,List.length_singleton];walk_at "o"
def Zn5:V→List V→Hp→VK→Prop:=fun x vs H Q=>∃ l b xs zs,x=.ref l∧vs=[.ref b]∧H l=some (.lst xs)∧H b=some (.lst zs)∧xs.length+zs.length≤sizeLine∧Q .non (upd H l (.lst (xs++zs)))
theorem Ye5:MtM X "list.extend" Zn5:=by
 intro pins s σ H x vs v us Q I rx rv h;obtain⟨l,b,xs,zs,rfl,rfl,hH,hB,hz,q⟩:=h;cases rx;obtain⟨u,rfl,ru⟩:=rv.one;cases ru;obtain⟨z,its,n,r,hl,e⟩:=I.lstM hH;obtain⟨z2,its2,n2,r2,hl2,e2⟩:=I.lstM hB
 have hsz:its.toArray.size+its2.toArray.size≤sizeLine:=by rw[List.size_toArray,List.size_toArray];walk_at "o"
 have hlong:¬ (!its.toArray.isEmpty&&Builtin.List.listTooLong (its.toArray.size+its2.toArray.size))=true:=by
  rw[Xc4 hsz,Bool.and_false];exact Bool.false_ne_true
 refine call_meets F.slot_list_extend ⟨_,e,rfl⟩ F.entry_list_extend (F.args_list_extend_2 _ _)
  (AutoSeq1.list_extend_list_list_0 l its.toArray n b its2.toArray n2 hlong (by rw[List.size_toArray];walk_at "o") (by walk_at "o")) ⟨e,e2,?_⟩
 refine⟨.non,_,I.lset (its':=its++its2) hH e (by simp) (r.append r2) ?_,rfl,q⟩;rw[List.length_append];walk_at "o"
def rPop:V→List V→Hp→VK→Prop:=fun x vs H Q=>∃ l xs y,x=.ref l∧vs=[]∧H l=some (.lst xs)∧xs[xs.length - 1]?=some y∧Q y (upd H l (.lst xs.dropLast))
theorem Ye3:MtM X "list.pop" rPop:=by
 intro pins s σ H x vs v us Q I rx rv h;obtain⟨l,xs,y,rfl,rfl,hH,hy,q⟩:=h;cases rx;have hus:=rv.zero;subst hus;obtain⟨z,its,n,r,hl,e⟩:=I.lstM hH;obtain⟨u,hu,ru⟩:=r.get hy
 have hy':its.toArray[its.toArray.size - 1]?=some u:=by
  show its.toArray[its.length - 1]?=some u;rw[← Array.getElem?_toList,← hl];exact hu
 refine call_meets F.slot_list_pop ⟨_,e,rfl⟩ F.entry_list_pop (F.args_list_pop_1 _) (MeetsSeq.list_pop_last l its.toArray n u hy' (by rw[List.size_toArray];walk_at "o")) ⟨e,?_⟩;refine⟨y,_,I.lset (its':=its.dropLast) hH e ?_ r.dropLast ?_,ru,q⟩
 ·show its.toArray.eraseIdxIfInBounds (its.toArray.size - 1)=its.dropLast.toArray
  rw[List.size_toArray,List.eraseIdxIfInBounds_toArray,Yp7]
 ·rw[List.length_dropLast]
  walk_at "o"
def rCat:R2:=fun x y H Q=>∃ l b xs zs,x=.ref l∧y=.ref b∧H l=some (.lst xs)∧H b=some (.lst zs)∧xs.length+zs.length≤sizeLine∧∀ p,H p=none→Q (.ref p) (upd H p (.lst (xs++zs)))
theorem Zu0:OpR X (binaryOp .Add) rCat:=by
 intro pins s σ H x y v u Q I rx ry h;obtain⟨l,b,xs,zs,rfl,rfl,hH,hB,hz,q⟩:=h;cases rx;cases ry;obtain⟨z,its,n,r,hl,e⟩:=I.lstM hH;obtain⟨z2,its2,n2,r2,hl2,e2⟩:=I.lstM hB;refine PySem.P.add_list e e2 ?_ (by rw[List.size_toArray,List.size_toArray];walk_at "o")
 have ea:its.toArray++its2.toArray=(its++its2).toArray:=by simp
 rw[ea];exact⟨.ref _,_,I.lnew (t':=s.toks) (r.append r2) (by rw[List.length_append];walk_at "o"),rfl,q _ I.fresh⟩
end
end L2
namespace Att
open PySem PySem.W PySem.Calls PyProof.Rows
theorem Zv0 {P:Params} {h:Heap}:∀ (ns:List Int) (vs:List Value),WellAll P h vs (ns.map WData.int)→IntsAre vs ns:=by
 intro ns
 induction ns with
 | nil =>
  intro vs w;rw[List.map_nil] at w;cases w;exact .nil
 | cons n ns ih =>
  intro vs w;rw[List.map_cons] at w
  cases w with
  | cons a b =>
   cases a;exact .cons _ _ (ih _ b)
theorem Ys7 {l:OpenLaw} {n:Nat} (hn:l.most=some n) {P:Params} {h:Heap} {args:List WData} {vals:List Value}
  (hpre:l.row.toRowW.claim.pre args=true) (hwl:WellAll P h vals args) :
  ∃ a vs ns,vals=[Value.ref a]∧args=[WData.list (ns.map WData.int)]∧h.get? a=some { cls:=.type "list",data:=.seq vs.toArray }∧IntsAre vs ns∧ns.length≤n:=by
 have hsh:WShape.hasAll [] args [.list .int]=true:=(pre_splitW hpre).1;have hc:l.pre.holds [] { args:=args }=true:=(pre_splitW hpre).2;obtain⟨d,r,rfl,h1,h2⟩:=hasAllW_cons hsh;obtain rfl:=hasAllW_nil h2;obtain⟨xs,rfl,h3⟩:=hasW_list h1;obtain⟨ns,rfl⟩:=items_int h3
 have hlen:ns.length≤n:=by
  unfold OpenLaw.pre at hc
  have h4:(WTm.not (.lt (.lit (.int (n:Int))) (.len (.arg 0)))).holds [] { args:=[.list (ns.map .int)] }=true:=by
   have h4:=(holds_andW hc).1;rw[hn] at h4;exact h4
  have h5:=condW_of h4 (w_not (w_lt w_lit (w_len_list (w_arg rfl))));rw[List.length_map] at h5;refine Nat.le_of_not_lt fun q=>?_
  have q':(n:Int) < ((ns.length:Nat):Int):=by walk_at "o"
  first
   | (rw[decide_eq_true q'] at h5;exact absurd h5 (by decide))
   | (simp at h5;walk_at "o")
 cases hwl with
 | cons w1 w2 =>
  cases w2
  cases w1 with
  | list ho hall=>exact⟨_,_,ns,rfl,rfl,ho,Zv0 ns _ hall,hlen⟩
theorem Yt4 (l:OpenLaw) (args:List WData):l.row.toRowW.claim.post args (.bool true) args=true :=
 postW_of (r:=l.row.toRowW) (X:=(true == true))
  (show WShape.has [] (.bool true) .bool=true by first | rfl | decide | simp[WShape.has,WShape.arms,WShape.armsAll])
  (show (WTm.eq .res (.lit (.bool true))).value [] { args:=args,res:=some (.bool true),after:=args }=some (.bool (true == true)) from w_eq_bool (w_res rfl) w_lit) rfl
theorem attach_call {l:OpenLaw} {n:Nat} {q:Program} {loose:List Str} {XP:(Str→Option Value)→Heap→Prop} {YP:World→Heap→Prop} {d:DefRec}
  (hn:l.most=some n) (hdf:d.params.defaults=[])
  (call:∀ (w:World) (s₀ s₁:Shared) (mg mb:Str→Option Value) (fa:Addr) (o:Obj) (pm cd doc:Value) (a:Addr) (vs:List Value) (ns:List Int),
   Ground q loose [] XP w s₀ mg mb s₁.heap→YP w s₁.heap →
   s₁.heap.get? fa=some o→o.data=.func (docDef d.name d.params d.body d.scope pm cd doc)→s₁.heap.CodeRec cd d.name→mg d.name=some (.ref fa) →
   s₁.heap.get? a=some { cls:=.type "list",data:=.seq vs.toArray }→IntsAre vs ns→ns.length≤n→s₁.gens=#[] →
   codeAny (model l.prog w) callerA (.call (.ref fa) ⟨[.ref a],[]⟩) (fun r s'=>r=.ok (.ret (.bool true))∧OldK s₁.heap s'.heap∧s'.os=s₁.os∧AllBare s'.gens) s₁) :
  WalkO q loose XP YP l.row.toRowW d [] (fun f vs=>PySem.call f vs):=by
 intro w s₀ s₁ mg mb G Y fa o pm cd doc dV kV ho hd hcd hD hmg hg args vals as hpre hlay hrd hwl hlo;obtain rfl:dV=.none:=Dflts.none hD hdf;obtain rfl:kV=.none:=Dflts.noKw hD;obtain⟨a,vs,ns,rfl,rfl,hobj,hints,hlen⟩:=Ys7 hn hpre hwl;refine enter_call (codeAny_mono (call w s₀ s₁ mg mb fa o pm cd doc a vs ns G Y ho (fd_plain hd) hcd hmg hobj hints hlen hg) fun r s' hq=>?_);obtain⟨rfl,h2,h3,h4⟩:=hq;exact⟨.inl ⟨.bool true,.bool true,[],rfl,fun _=>rfl,.bool true,Yt4 l _,fun _=>⟨List.Pairwise.nil,fun _ hm=>(nomatch hm)⟩⟩,h2,h3,h4⟩
end Att
namespace L2
open PySem PySem.Spec PyProof.Rows
theorem Yb7:∀ {vs:List Value} {ns:List Int},IntsAre vs ns→Vals (ns.map V.int) vs
 | _,_,.nil=>.nil
 | _,_,.cons n t h=>.cons ⟨t,rfl⟩ (Yb7 h)
noncomputable def Zq7 (s:Stmt) (j:Nat):Stmt:=match s with
 | .ClassDef _ _ _ body _ _ _ _ _ _ _=>body.getD j (.Pass ⟨0,0,0,0⟩)
 | _=>.Pass ⟨0,0,0,0⟩
noncomputable def Zd3 (s:Stmt):Arguments:=match s with
 | .FunctionDef _ a _ _ _ _ _ _ _ _=>a
 | _=>{ posonlyargs:=[],args:=[],vararg:=none,kwonlyargs:=[],kw_defaults:=[],kwarg:=none,defaults:=[] }
noncomputable def Zc9 (s:Stmt):List Stmt:=match s with
 | .FunctionDef _ _ b _ _ _ _ _ _ _=>b
 | _=>[]
noncomputable def Za7 (s:Stmt):Scope:=match s with
 | .FunctionDef _ _ _ _ _ _ sc _ _ _=>sc
 | _=>{ kind:=.function,names:=[],isGenerator:=false,isCoroutine:=false }
noncomputable abbrev CX0:CXT:=fun _ _ _ _ _ _=>False
abbrev E0:XK:=fun _ _ _=>False
theorem Yi3 {X:Cx}:Zp6 CX0 X E0:=fun _ _ _ _ _ _ _ h=>h.elim
structure Fun (K:W.Frag) (x qual:Str) (st:Stmt) (f:Addr) (fd:FuncData):Prop where
 ex:∃ (oc:Value) (od:Option Addr) (kV doc pm:Value) (an:Option Addr) (cdv ct:Value) (osl:Array (Option Value)),
  fd=W.fnOf x qual (Zd3 st) (Zc9 st) (Za7 st) .none kV doc pm an cdv ct∧K.lookup f=some ⟨oc,od,.func fd,osl⟩∧W.codeIn K cdv qual=true
 kp:W.keepIn K (.ref f)=true
section
variable {P:Program} {w:World} {K:W.Frag} {mg:Str→Option Value} {base:Heap}
theorem Fun.ok {x qual:Str} {st:Stmt} {f:Addr} {fd:FuncData} {N ps:List Str} {k:Nat} {sp:Sp} (F:Fun K x qual st f fd) (S:FnScope N ps (Za7 st)) (len:∀ vs H Q E,sp vs H Q E→vs.length=ps.length)
  (hbody:∀ (cdv:Value) (A:Around) (outer:List Env) (s:Shared) (H:Hp) (vs:List V) (Q:VK) (E:XK),Room k (A.deeper (envOfC qual (Za7 st) s.heap.objs.size f cdv))→sp vs H Q E →
   ∃ t,PSs (cxOf CX0 P w K mg base N qual (Za7 st) f cdv A outer s H E).nox (Zc9 st) t∧t { nx:=fun _ H'=>Q .non H',rt:=Q } (start N vs) H):FnOk P w K mg base CX0 (k+1) f fd ps sp:=by
 obtain⟨oc,od,kV,doc,pm,an,cdv,ct,osl,rfl,lk,hcd⟩:=F.ex;refine fn_of lk hcd S len fun A outer s H vs Q E hr hsp=>?_;obtain⟨t,h,q⟩:=hbody cdv A outer s H vs Q E hr hsp;exact⟨t,h.nox,q⟩
theorem Fun.binds {x qual:Str} {st:Stmt} {f:Addr} {fd:FuncData} {ps:List Str} (F:Fun K x qual st f fd)
  (h:∀ (kV doc pm:Value) (an:Option Addr) (cdv ct:Value) (us:List Value),us.length=ps.length→bindArgs (W.fnOf x qual (Zd3 st) (Zc9 st) (Za7 st) .none kV doc pm an cdv ct) ⟨us,[]⟩=pure (ps.zip us)):Binds K fd ps []:=by
 obtain⟨oc,od,kV,doc,pm,an,cdv,ct,osl,rfl,lk,hcd⟩:=F.ex;exact .all (h kV doc pm an cdv ct)
theorem Ym9 {x qual:Str} {st:Stmt} {f:Addr} {oc:Value} {od an:Option Addr} {osl:Array (Option Value)} {kV doc pm cdv ct:Value} (l:K.lookup f=some ⟨oc,od,.func (W.fnOf x qual (Zd3 st) (Zc9 st) (Za7 st) .none kV doc pm an cdv ct),osl⟩)
  (c:W.codeIn K cdv qual=true) (k:W.keepIn K (.ref f)=true):Fun K x qual st f (W.fnOf x qual (Zd3 st) (Zc9 st) (Za7 st) .none kV doc pm an cdv ct):=⟨⟨oc,od,kV,doc,pm,an,cdv,ct,osl,rfl,l,c⟩,k⟩
end
theorem Xk9 {A:Around} {k:Nat} (hr:Room k A):A.units+1 < cLine:=Nat.lt_of_le_of_lt (Nat.add_le_add_left (by decide:1≤64) _) hr.units
theorem Zf3 {n:Nat} (h:n≤1000):n < sizeLine:=Nat.lt_of_le_of_lt h (by decide)
section
variable {X:Cx}
theorem pv (i:Nat) {x:Str} {pos:Pos} (hN:X.N[i]?=some x:=by rfl) (hv:Vis X.env.scope x:=by first | exact Or.inl rfl | exact Or.inr (Or.inl rfl) | exact Or.inr (Or.inr rfl)) (hd:(x == ("__debug__":Str))=false:=by decide)
  (hcd:(x == ("__classdict__":Str))=false:=by decide):PE X (.Name x pos) (tVar i):=Yt7 hN hv hd hcd
end
theorem ite2 {c A B:Prop} [Decidable c] (h1:c→A) (h2:¬ c→B):if c then A else B:=by
 by_cases h:c
 ·rw[if_pos h]
  exact h1 h
 ·rw[if_neg h]
  exact h2 h
def Same (H H':Hp):Prop:=∀ b o,H b=some o→H' b=some o
theorem Same.refl (H:Hp):Same H H:=fun _ _ h=>h
theorem Same.trans {H H1 H2:Hp} (a:Same H H1) (b:Same H1 H2):Same H H2:=fun c o h=>b c o (a c o h)
theorem Same.free {H H':Hp} (e:Same H H') {l:Addr} (h:H' l=Option.none):H l=Option.none:=by
 cases q:H l with
 | none=>rfl
 | some o =>
  rw[e l o q] at h;cases h
theorem Same.seq {K:W.Frag} {H H':Hp} {a:Addr} {xs:List V} (e:Same H H') (h:SqL K H a xs):SqL K H' a xs:=by
 rcases h with (h | ⟨o,h⟩) | h
 ·exact .inl (.inl (e _ _ h))
 ·exact .inl (.inr ⟨o,e _ _ h⟩)
 ·exact .inr h
section
variable {κ:Type} [DecidableEq κ]
noncomputable def valV (kvs:List (κ×V)) (k:κ):Option V:=(kvs.find? fun kv=>decide (kv.1=k)).map (·.2)
noncomputable def putK (kvs:List (κ×V)) (k:κ) (v:V):List (κ×V) :=
 if (kvs.any fun kv=>decide (kv.1=k))=true then kvs.map (fun kv=>if kv.1=k then (kv.1,v) else kv) else kvs++[(k,v)]
theorem Zf8 {p:κ×V} {r:List (κ×V)} {k:κ} (e:p.1=k):valV (p :: r) k=some p.2:=by simp[valV,List.find?_cons,e]
theorem Zf9 {p:κ×V} {r:List (κ×V)} {k:κ} (e:¬ p.1=k):valV (p :: r) k=valV r k:=by simp[valV,List.find?_cons,e]
theorem Zo5 (k:κ):∀ kvs:List (κ×V),(kvs.any fun kv=>decide (kv.1=k))=(valV kvs k).isSome
 | []=>rfl
 | p :: r=>by
  rw[List.any_cons]
  by_cases e:p.1=k
  ·simp only[Zf8 e,decide_eq_true e,Bool.true_or,Option.isSome_some]
  ·rw[Zf9 e,decide_eq_false e,Bool.false_or];exact Zo5 k r
theorem Yk3 (k j:κ) (y:V):∀ kvs:List (κ×V),valV (kvs.map fun kv=>if kv.1=k then (kv.1,y) else kv) j=(valV kvs j).map fun x=>if j=k then y else x
 | []=>rfl
 | p :: r=>by
  have ih:=Yk3 k j y r;rw[List.map_cons]
  by_cases h:p.1=k
  ·rw[if_pos h]
   by_cases e:p.1=j
   ·rw[Zf8 (p:=(p.1,y)) e,Zf8 e,Option.map_some,if_pos (e.symm.trans h)]
   ·rw[Zf9 (p:=(p.1,y)) e,Zf9 e,ih]
  ·rw[if_neg h]
   by_cases e:p.1=j
   ·rw[Zf8 (p:=p) e,Zf8 e,Option.map_some,if_neg (fun z=>h (e.trans z))]
   ·rw[Zf9 (p:=p) e,Zf9 e,ih]
theorem Yb8 (k j:κ) (y:V):∀ kvs:List (κ×V),valV kvs k=none→valV (kvs++[(k,y)]) j=if j=k then some y else valV kvs j
 | [],_=>by
  by_cases e:k=j
  ·rw[if_pos e.symm];exact Zf8 (p:=(k,y)) e
  ·rw[if_neg (fun z=>e z.symm)];exact Zf9 (p:=(k,y)) e
 | p :: r,hn=>by
  rw[List.cons_append]
  have hk:¬ p.1=k:=fun z=>by rw[Zf8 z] at hn;cases hn
  rw[Zf9 hk] at hn;have ih:=Yb8 k j y r hn
  by_cases e:p.1=j
  ·rw[Zf8 e,Zf8 e,if_neg (fun z=>hk (e.trans z))]
  ·rw[Zf9 e,Zf9 e,ih]
theorem Yk2 (kvs:List (κ×V)) (k j:κ) (y:V):valV (putK kvs k y) j=if j=k then some y else valV kvs j:=by
 unfold putK
 by_cases a:(kvs.any fun kv=>decide (kv.1=k))=true
 ·rw[if_pos a,Yk3]
  rw[Zo5] at a
  by_cases e:j=k
  ·obtain⟨x,hx⟩:=Option.isSome_iff_exists.mp a
   rw[if_pos e,e,hx,Option.map_some,if_pos rfl]
  ·rw[if_neg e]
   cases valV kvs j with
   | none=>rfl
   | some x=>rw[Option.map_some,if_neg e]
 ·rw[if_neg a]
  refine Yb8 k j y kvs ?_;rw[Zo5] at a
  cases q:valV kvs k with
  | none=>rfl
  | some x=>rw[q] at a;exact (a rfl).elim
theorem Zu6 (kvs:List (κ×V)) (k:κ) (v:V):(putK kvs k v).length≤kvs.length+1:=by
 unfold putK
 split
 ·rw[List.length_map];walk_at "o"
 ·rw[List.length_append,List.length_cons,List.length_nil];walk_at "o"
theorem Xb6 {kvs:List (κ×V)} {k:κ} (v:V) (h:valV kvs k=none):putK kvs k v=kvs++[(k,v)]:=by
 unfold putK;rw[Zo5,h];exact if_neg (by decide)
theorem RelO.isSome_eq {o:Option V} {u:Option Value} (r:RelO o u):o.isSome=u.isSome:=by
 cases o with
 | none=>cases u with
  | none=>rfl
  | some _=>exact (show False from r).elim
 | some _=>cases u with
  | none=>exact (show False from r).elim
  | some _=>rfl
theorem KV.val {kvs:List (κ×V)} {vs:List (κ×Value)} (r:KV kvs vs) (k:κ):RelO (valV kvs k) (valueAt vs k):=by
 unfold KV at r
 induction r with
 | nil=>exact True.intro
 | @cons p q ps qs h t ih =>
  obtain⟨h1,h2⟩:=h
  by_cases e:p.1=k
  ·have e':q.1=k:=h1.symm.trans e
   have b:valueAt (q :: qs) k=some q.2:=by simp[valueAt,List.find?_cons,e']
   rw[Zf8 e,b];exact h2
  ·have e':¬ q.1=k:=fun z=>e (h1.trans z)
   have b:valueAt (q :: qs) k=valueAt qs k:=by simp[valueAt,List.find?_cons,e']
   rw[Zf9 e,b];exact ih
theorem KV.any {kvs:List (κ×V)} {vs:List (κ×Value)} (r:KV kvs vs) (k:κ):(kvs.any fun kv=>decide (kv.1=k))=vs.any fun kv=>decide (kv.1=k):=by
 unfold KV at r
 induction r with
 | nil=>rfl
 | cons h t ih=>rw[List.any_cons,List.any_cons,ih,h.1]
theorem KV.repl {kvs:List (κ×V)} {vs:List (κ×Value)} (r:KV kvs vs) (k:κ) {y:V} {u:Value} (ry:RelV y u) :
  KV (kvs.map fun kv=>if kv.1=k then (kv.1,y) else kv) (vs.map fun kv=>if kv.1=k then (kv.1,u) else kv):=by
 unfold KV at r ⊢
 induction r with
 | nil=>exact .nil
 | @cons p q ps qs h t ih =>
  rw[List.map_cons,List.map_cons];refine .cons ?_ ih;obtain⟨h1,h2⟩:=h
  by_cases e:p.1=k
  ·rw[if_pos e,if_pos (h1.symm.trans e)];exact⟨h1,ry⟩
  ·rw[if_neg e,if_neg (fun z=>e (h1.trans z))];exact⟨h1,h2⟩
theorem KV.put {kvs:List (κ×V)} {vs:List (κ×Value)} (r:KV kvs vs) (k:κ) {y:V} {u:Value} (ry:RelV y u):KV (putK kvs k y) (stored vs k u):=by
 unfold putK stored;rw[r.any k]
 by_cases e:(vs.any fun kv=>decide (kv.1=k))=true
 ·rw[if_pos e,if_pos e];exact r.repl k ry
 ·rw[if_neg e,if_neg e];exact Paired.snoc r ⟨rfl,ry⟩
theorem KV.length {kvs:List (κ×V)} {vs:List (κ×Value)} (r:KV kvs vs):kvs.length=vs.length:=Paired.length r
end
theorem Yv6 {P:Program} {w:World} {k:Key} {u:Value} (r:RelV (kV k) u):(Ze3 P w).is k u=true:=by
 cases k with
 | inl i=>obtain⟨t,e⟩:=(show ∃ t,u=Value.int i t from r);subst e;exact Yi6 P w i t
 | inr x=>obtain⟨t,e⟩:=(show ∃ t,u=Value.str x t from r);subst e;exact Zu2 P w x t
theorem Yf6 {P:Program} {w:World}:∀ {ks:List Key} {us:List Value},Vals (ks.map kV) us→ItemsAre (Ze3 P w) ks us
 | [],_,r=>by rw[List.map_nil] at r;cases r;exact .nil
 | k :: ks,_,r=>by
  rw[List.map_cons] at r
  cases r with
  | cons h t=>exact .cons (Yv6 h) (Yf6 t)
abbrev KT (H:Hp):List (List Key×V)→List (List Key×Addr×Value)→Prop:=Paired fun p q=>p.1=q.1∧H q.2.1=some (.tup (p.1.map kV))∧RelV p.2 q.2.2
theorem KT.val {H:Hp} {kvs:List (List Key×V)} {xs:List (List Key×Addr×Value)} (r:KT H kvs xs) (k:List Key):RelO (valV kvs k) ((atKey xs k).map (·.2)):=by
 induction r with
 | nil=>exact True.intro
 | @cons p q ps qs h t ih =>
  obtain⟨h1,_,h2⟩:=h
  by_cases e:p.1=k
  ·have e':q.1=k:=h1.symm.trans e
   have b:atKey (q :: qs) k=some q.2:=by simp[atKey,List.find?_cons,e']
   rw[Zf8 e,b];exact h2
  ·have e':¬ q.1=k:=fun z=>e (h1.trans z)
   have b:atKey (q :: qs) k=atKey qs k:=by simp[atKey,List.find?_cons,e']
   rw[Zf9 e,b];exact ih
theorem KT.repl {H:Hp} {kvs:List (List Key×V)} {xs:List (List Key×Addr×Value)} (r:KT H kvs xs) (k:List Key) {y:V} {u:Value} (ry:RelV y u) :
  KT H (kvs.map fun kv=>if kv.1=k then (kv.1,y) else kv) (xs.map (putAt k u)):=by
 induction r with
 | nil=>exact .nil
 | @cons p q ps qs h t ih =>
  rw[List.map_cons,List.map_cons];refine .cons ?_ ih;obtain⟨h1,h2,h3⟩:=h;unfold putAt
  by_cases e:p.1=k
  ·rw[if_pos e,if_pos (h1.symm.trans e)];exact⟨h1,h2,ry⟩
  ·rw[if_neg e,if_neg (fun z=>e (h1.trans z))];exact⟨h1,h2,h3⟩
theorem KT.put {H:Hp} {kvs:List (List Key×V)} {xs:List (List Key×Addr×Value)} (r:KT H kvs xs) (k:List Key) {b:Addr} {y:V} {u:Value} (hb:H b=some (.tup (k.map kV))) (ry:RelV y u) :
  KT H (putK kvs k y) (storedH xs k b u):=by
 have e:(kvs.any fun kv=>decide (kv.1=k))=(atKey xs k).isSome:=by
  rw[Zo5,(r.val k).isSome_eq,Option.isSome_map]
 unfold putK storedH;rw[e]
 by_cases q:(atKey xs k).isSome=true
 ·rw[if_pos q,if_pos q];exact r.repl k ry
 ·rw[if_neg q,if_neg q];exact Paired.snoc r ⟨rfl,hb,ry⟩
theorem KT.keeps {H H':Hp} {kvs:List (List Key×V)} {xs:List (List Key×Addr×Value)} (r:KT H kvs xs) (ht:∀ b ys,H b=some (.tup ys)→H' b=some (.tup ys)):KT H' kvs xs :=
 Paired.mapP r fun _ _ z=>⟨z.1,ht _ _ z.2.1,z.2.2⟩
section
variable {P:Program} {w:World} {H:Hp} {h:Heap} {a:Addr}
theorem Xq2 {u:HO} (ok:HOk P w H h) (e:Rd H a u):ObjOk P w H h a u:=e.ok ok
theorem Xd7 {kvs:List (Key×V)} (ok:HOk P w H h) (e:Rd H a (.dK kvs)):kvs.length≤sizeLine∧(a == sysModules)=false∧∃ vs,KV kvs vs∧h.DictOf (Ze3 P w) a vs :=
 show ObjOk P w H h a (.dK kvs) from Xq2 ok e
theorem Wb0 {kvs:List (Key×V)} (ok:HOk P w H h) (e:H a=some (.dK kvs)):kvs.length≤sizeLine∧(a == sysModules)=false∧∃ vs,KV kvs vs∧h.DictOf (Ze3 P w) a vs:=Xd7 ok (.inl e)
theorem Ym5 {ks:List Key} (ok:HOk P w H h) (e:H a=some (.tup (ks.map kV))):(tupleKind (Ze3 P w)).is h ks a:=by
 obtain⟨_,its,r,o,h1,h2,n,h3⟩:=(show ObjOk P w H h a (.tup (ks.map kV)) from ok a _ e);exact⟨o,its.toArray,n,h1,h2,h3,by simpa using Yf6 r⟩
theorem Xd5 {kvs:List (List Key×V)} (ok:HOk P w H h) (e:Rd H a (.dT kvs)):kvs.length≤sizeLine∧(a == sysModules)=false ∧
  ∃ xs,KT H kvs xs∧h.DictOfH (tupleKind (Ze3 P w)) a xs:=by
 obtain⟨z,y,xs,r,o,es,ep,h1,h2,h3,h4,h5⟩:=(show ObjOk P w H h a (.dT kvs) from Xq2 ok e);refine⟨z,y,xs,r,o,es,ep,h1,h2,h3,h4,fun x hx=>?_,h5⟩
 have all:∀ {l:List (List Key×V)} {m:List (List Key×Addr×Value)},KT H l m→∀ x∈m,(tupleKind (Ze3 P w)).is h x.1 x.2.1:=by
  intro l m q
  induction q with
  | nil=>intro x hx;exact nomatch hx
  | @cons p q ps qs hq t ih =>
   intro x hx;rcases List.mem_cons.mp hx with e | hx
   ·subst e
    exact Ym5 ok (by rw[← hq.1];exact hq.2.1)
   ·exact ih x hx
 exact all r x hx
theorem Wa9 {kvs:List (List Key×V)} (ok:HOk P w H h) (e:H a=some (.dT kvs)):kvs.length≤sizeLine∧(a == sysModules)=false ∧
  ∃ xs,KT H kvs xs∧h.DictOfH (tupleKind (Ze3 P w)) a xs:=Xd5 ok (.inl e)
end
def DGet (H:Hp) (a:Addr) (y:V) (r:Option V):Prop :=
 (∃ kvs k,Rd H a (.dK kvs)∧y=kV k∧r=valV kvs k)∨∃ kvs k b,Rd H a (.dT kvs)∧y=.ref b∧H b=some (.tup (k.map kV))∧r=valV kvs k
def DPut (H:Hp) (a:Addr) (y v:V) (H':Hp):Prop :=
 (∃ kvs k,H a=some (.dK kvs)∧y=kV k∧kvs.length < sizeLine∧H'=upd H a (.dK (putK kvs k v))) ∨
 ∃ kvs k b,H a=some (.dT kvs)∧y=.ref b∧H b=some (.tup (k.map kV))∧kvs.length < sizeLine∧H'=upd H a (.dT (putK kvs k v))
theorem DGet.t {H:Hp} {a b:Addr} {kvs:List (List Key×V)} {k:List Key} (e:H a=some (.dT kvs)) (eb:H b=some (.tup (k.map kV))):DGet H a (.ref b) (valV kvs k):=.inr ⟨kvs,k,b,.inl e,rfl,eb,rfl⟩
theorem DPut.t {H:Hp} {a b:Addr} {kvs:List (List Key×V)} {k:List Key} {v:V} (e:H a=some (.dT kvs)) (eb:H b=some (.tup (k.map kV))) (hl:kvs.length < sizeLine) :
  DPut H a (.ref b) v (upd H a (.dT (putK kvs k v))):=.inr ⟨kvs,k,b,e,rfl,eb,hl,rfl⟩
section
variable {X:Cx} {pins:List (Addr×Obj)} {σ:St} {H:Hp} {s:Shared} {a:Addr} {y v:V} {u r:Value} {o:Option V} {A:Around} {E:Value→Shared→Prop}
theorem Inv.big (I:Inv X pins σ H s):sysModules < s.heap.objs.size:=by
 have h:mainGlobals < s.heap.objs.size:=(I.mod.glob.keeps I.bk).lt;exact Nat.lt_trans (by decide) h
theorem Yx6 {Q:Value→Shared→Prop} (hu:A.units+1 < cLine) (I:Inv X pins σ H s) (g:DGet H a y (some v)) (ry:RelV y u) (h:∀ w' s',Inv X pins σ H s'→RelV v w'→Q w' s') :
  wpAny (model X.prog X.w) A (getItem (.ref a) u) Q E s:=by
 rcases g with ⟨kvs,k,e,ey,l⟩ | ⟨kvs,k,b,e,ey,eb,l⟩
 ·subst ey
  obtain⟨z,hd,vs,rel,dd⟩:=Xd7 I.hok e;obtain⟨w',hw,rw'⟩:=RelO.some_of (v:=v) (o:=valueAt vs k) (by rw[l];exact rel.val k);exact wpAny_getItem_of (Yv6 ry) dd.mapOf hw (h w' _ (I.tok _) rw')
 ·subst ey
  cases (show u=Value.ref b from ry);obtain⟨z,hd,xs,rel,dd⟩:=Xd5 I.hok e;obtain⟨w',hw,rw'⟩:=RelO.some_of (v:=v) (o:=(atKey xs k).map (·.2)) (by rw[l];exact rel.val k);obtain⟨p,hp,hp2⟩:=Option.map_eq_some_iff.mp hw;refine wpAny_getItem_heap (tupleKind_room_in1 hu) (Ym5 I.hok eb) dd hp ?_;rw[hp2];exact h w' _ (I.tok _) rw'
theorem Xl8 {Q:Value→Shared→Prop} (hu:A.units+1 < cLine) (I:Inv X pins σ H s) (g:DGet H a y o) (ry:RelV y u) (h:∀ s',Inv X pins σ H s'→Q (.bool (!o.isSome)) s') :
  wpAny (model X.prog X.w) A (compareOp .NotIn u (.ref a)) Q E s:=by
 rcases g with ⟨kvs,k,e,ey,l⟩ | ⟨kvs,k,b,e,ey,eb,l⟩
 ·subst ey
  obtain⟨z,hd,vs,rel,dd⟩:=Xd7 I.hok e;refine wpAny_notIn_of (Yv6 ry) hd dd.mapOf ?_;rw[← (rel.val k).isSome_eq,← l];exact h _ (I.tok _)
 ·subst ey
  cases (show u=Value.ref b from ry);obtain⟨z,hd,xs,rel,dd⟩:=Xd5 I.hok e;refine wpAny_notIn_heap (tupleKind_room_in1 hu) (Ym5 I.hok eb) hd dd ?_;have q:=(rel.val k).isSome_eq;rw[Option.isSome_map] at q;rw[← q,← l];exact h _ (I.tok _)
theorem Yx4 {h':Heap} {t':Nat} {ob:HO} (I:Inv X pins σ H s) (mu:Mut (H a)) (hs:Heap.SameBut a s.heap h') (he:∃ q,h'.get? a=some q) (new:ObjOk X.prog X.w (upd H a ob) h' a ob) :
  Inv X pins σ (upd H a ob) { s with heap:=h',toks:=t' } :=
 I.write (x:=a) (e:=a) mu (.inl rfl) (fun b q hb z=>(hs.2 b hb).trans z) he new
theorem Xy1 {P:Program} {w:World} {H':Hp} {h':Heap} {kvs:List (Key×V)} {vs:List (Key×Value)} (z:kvs.length≤sizeLine) (hd:(a == sysModules)=false) (rel:KV kvs vs) (dd:h'.DictOf (Ze3 P w) a vs) :
  ObjOk P w H' h' a (.dK kvs):=⟨z,hd,vs,rel,dd⟩
theorem Yx5 {H':Hp} {Q:Unit→Shared→Prop} (hu:A.units+1 < cLine) (I:Inv X pins σ H s) (g:DPut H a y v H') (ry:RelV y u) (rv:RelV v r) (h:∀ s',Inv X pins σ H' s'→Q () s') :
  wpAny (model X.prog X.w) A (setItem (.ref a) u r) Q E s:=by
 rcases g with ⟨kvs,k,e,ey,l,eH⟩ | ⟨kvs,k,b,e,ey,eb,l,eH⟩
 ·subst ey eH
  obtain⟨z,hd,vs,rel,dd⟩:=Wb0 I.hok e
  have hz:vs.length≤sizeLine:=by rw[← rel.length];exact z
  have hl:(putK kvs k v).length≤sizeLine:=by have:=Zu6 kvs k v;walk_at "o"
  refine wpAny_setItem_pairs (hsz:=hz) (Yv6 ry) dd fun h' dd' hs=>h _ ?_
  have he:∃ q,h'.get? a=some q:=let ⟨q,_,_,hq,_⟩:=dd';⟨q,hq⟩
  exact Yx4 I (by rw[e];exact True.intro) hs he (Xy1 hl hd (rel.put k rv) dd')
 ·subst ey eH
  cases (show u=Value.ref b from ry);obtain⟨z,hd,xs,rel,dd⟩:=Wa9 I.hok e
  have hz:xs.length≤sizeLine:=by rw[← Paired.length rel];exact z
  have hl:(putK kvs k v).length≤sizeLine:=by have:=Zu6 kvs k v;walk_at "o"
  refine wpAny_setItem_heap (hsz:=hz) (tupleKind_room_in1 hu) (Ym5 I.hok eb) dd fun h' dd' hs=>h _ ?_;obtain⟨q,es,ep,hq,h2,h3,h4,_,h5⟩:=dd';refine Yx4 I (by rw[e];exact True.intro) hs ⟨q,hq⟩ ⟨hl,hd,_,(rel.put k eb rv).keeps fun c ys ec=>?_,q,es,ep,hq,h2,h3,h4,h5⟩;rw[Zb0 (Xj5 ec e (fun z=>nomatch z))];exact ec
end
def NoSl (i:Expr):Prop:=∀ ov iv,subscripted i false ov iv=operate [ov,iv] (getItem ov iv)
theorem Ys4 {prog:Program} {w:World} {A:Around} {E:Value→Shared→Prop} {s:Shared} {env:Env} {value slice:Expr} {pos:Pos} {T id:String} {Q:Value→Shared→Prop}
  (hl:typeLookup (.type T) "__getitem__"=pure (some (.builtin id))) (hs:NoSl slice)
  (h:wpAny (model prog w) A (eval value env) (fun o s₁=>wpAny (model prog w) A (eval slice env) (fun i s₂=>s₂.TypeIs o T∧wpAny (model prog w) A (getItem o i) Q E s₂) E s₁) E s) :
  wpAny (model prog w) A (eval (.Subscript value slice pos) env) Q E s:=by
 refine Subscript_ (wpAny_mono h (fun o s₁ h₁=>wpAny_mono h₁ (fun i s₂ h₂=>?_) fun _ _ x=>x) fun _ _ x=>x);obtain⟨hT,h₂⟩:=h₂;unfold subscriptTail;refine wpAny_bind ?_;rw[getitemInPython_of_ne hT.not_modules];refine wpAny_bind (wpAny_specialOf hT hl ?_)
 have fin:wpAny (model prog w) A (subscripted slice false o i) (fun r s₃=>wpAny (model prog w) A (letTemporaryGo value o r >>= fun _=>pure r) Q E s₃) E s₂:=by
  rw[hs o i];exact wpAny_operating (wpAny_mono h₂ (fun r s₃ h₃=>wpAny_bind (wpAny_letTemporaryGo (wpAny_pure h₃))) fun _ _ x=>x)
 first
  | exact wpAny_pure (wpAny_bind fin)
  | exact wpAny_bind (wpAny_pure (wpAny_bind fin))
  | exact wpAny_bind fin
theorem Yj6 {X:Cx} {pins:List (Addr×Obj)} {σ:St} {H:Hp} {s:Shared} {a:Addr} {y:V} {o:Option V} (I:Inv X pins σ H s) (g:DGet H a y o):s.TypeIs (.ref a) "dict":=by
 rcases g with ⟨kvs,k,e,_,_⟩ | ⟨kvs,k,b,e,_,_,_⟩
 ·obtain⟨_,_,vs,_,dd⟩:=Xd7 I.hok e
  exact dd.typeIs
 ·obtain⟨_,_,xs,_,dd⟩:=Xd5 I.hok e
  exact dd.typeIs
def Yh3 (td ty:TE):TE:=fun σ H Q=>td σ H fun x H1=>ty σ H1 fun y H2=>∃ a v,x=.ref a∧DGet H2 a y (some v)∧Q v H2
def Zn1 (ty td:TE):TE:=fun σ H Q=>ty σ H fun y H1=>td σ H1 fun x H2=>∃ a o,x=.ref a∧DGet H2 a y o∧Q (.bl (!o.isSome)) H2
def Xh7 (td ty tv:TE):TS:=fun D σ H=>tv σ H fun v H1=>td σ H1 fun x H2=>ty σ H2 fun y H3=>∃ a H4,x=.ref a∧DPut H3 a y v H4∧D.nx σ H4
section
variable {X:Cx} {o i e value:Expr} {pos pos' tpos:Pos} {td ty tv:TE}
theorem Xi7 (hu:X.A.units+1 < cLine) (ho:PE X o td) (hi:PE X i ty) (hs:NoSl i):PE X (.Subscript o i pos) (Yh3 td ty):=by
 intro pins s σ H Q I h;refine Ys4 PySem.F.slot_dict_getitem.lookup hs (thn (ho pins s σ H _ I h) fun u s1 ⟨x,H1,I1,rx,q1⟩=>thn (hi pins s1 σ H1 _ I1 q1) fun iv s2 zq=>?_);obtain⟨y,H2,I2,ry,a,v,ex,g,q2⟩:=zq;subst ex;obtain rfl:u=Value.ref a:=rx;exact⟨Yj6 I2 g,Yx6 hu I2 g ry fun w' s3 I3 rw'=>⟨v,H2,I3,rw',q2⟩⟩
theorem Yu2 (hu:X.A.units+1 < cLine) (hi:PE X i ty) (ho:PE X o td):PC X .NotIn i o (Zn1 ty td):=by
 intro pins s σ H Q I h;refine thn (hi pins s σ H _ I h) fun iv s1 ⟨y,H1,I1,ry,q1⟩=>thn (ho pins s1 σ H1 _ I1 q1) fun u s2 zq=>?_;obtain⟨x,H2,I2,rx,a,ov,ex,g,q2⟩:=zq;subst ex;obtain rfl:u=Value.ref a:=rx;exact Xl8 hu I2 g ry fun s3 I3=>⟨.bl (!ov.isSome),H2,I3,rfl,q2⟩
theorem Xi2 (hu:X.A.units+1 < cLine) (ho:PE X o td) (hi:PE X i ty) (hv:PE X value tv) (hs:swapsWith value (some (.Subscript o i pos')) pos.line X.env=pure false) :
  PS X (.Assign [.Subscript o i pos'] value pos) (Xh7 td ty tv):=by
 intro pins s σ H D I h;refine wpAny_Assign_Subscript (thn (hv pins s σ H _ I h) fun r s1 ⟨v,H1,I1,rv,q1⟩=>thn (ho pins s1 σ H1 _ I1 q1) fun u s2 ⟨x,H2,I2,rx,q2⟩=>thn (hi pins s2 σ H2 _ I2 q2) fun iv s3 ⟨y,H3,I3,ry,a,H4,ex,g,q3⟩=>?_) hs;subst ex;obtain rfl:u=Value.ref a:=rx;exact Yx5 hu I3 g ry rv fun s4 I4=>⟨σ,H4,I4,q3⟩
end
theorem Xd6 {P:Program} {w:World} {H:Hp} (h:Heap) (hb:sysModules < h.objs.size):ObjOk P w H (h.push { cls:=.type "dict",data:=.dict #[] }) h.objs.size (.dT []) :=
 ⟨Nat.zero_le _,beq_eq_false_iff_ne.mpr (Ne.symm (Nat.ne_of_lt hb)),[],.nil,_,#[],0,Heap.get?_push_size _ rfl,⟨rfl,rfl,rfl⟩,rfl,rfl,List.nodup_nil⟩
def Zt1:TE:=fun _ H Q=>∀ p,H p=none→Q (.ref p) (upd H p (.dT []))
section
variable {X:Cx} {pos:Pos}
theorem Xc1:PE X (.Dict [] [] pos) Zt1:=fun pins s σ H Q I h =>
 wpAny_Dict_empty ⟨.ref s.heap.objs.size,_,I.laid (a:=s.heap.objs.size) (o:=.dT []) (t':=s.toks) (fun _ _ q=>Heap.get?_push_of_some _ q) (Nat.le_refl _) (Xd6 s.heap I.big),rfl,h _ (I.hok.fresh (Nat.le_refl _))⟩
end
end L2
set_option maxHeartbeats 4000000
namespace L2
open PySem PySem.Spec PyProof.Rows
section
variable {X:Cx}
inductive TyX (K:W.Frag) (H:Hp):V→Value→Prop where
 | of {x:V} {t:Value} (h:TyOf K H x t):TyX K H x t
 | tupK {a:Addr} {xs:List V} (h:SqT K H a xs):TyX K H (.ref a) (.type "tuple")
 | lstK {a:Addr} {xs:List V} (h:SqL K H a xs):TyX K H (.ref a) (.type "list")
def rIsi (K:W.Frag):List V→Hp→VK→Prop:=fun xs H Q=>∃ x T t b,xs=[x,.ty T]∧TyX K H x t∧W.kitOne K t (.type T)=some b∧Q (.bl b) H
theorem Yb3:Zr0 X (.builtin "isinstance") (rIsi X.K):=by
 intro pins s σ H xs us Q I r h;obtain⟨x,T,t,b,rfl,ty,e,q⟩:=h;obtain⟨u,c,rfl,rx,rc⟩:=Yq8 r;cases (show c=Value.type T from rc)
 cases ty with
 | of h=>exact Yv7 I rx h e fun tk=>⟨.bl b,H,I.tok tk,rfl,q⟩
 | @tupK a xs h =>
  cases (show u=Value.ref a from rx);obtain⟨its,_,⟨o,h1,h2,_⟩,_⟩:=I.tuple h;exact W.kia_one W.kitx_tuple I.kIn ⟨o,h1,h2⟩ e (fun z=>nomatch z) fun tk=>⟨.bl b,H,I.tok tk,rfl,q⟩
 | @lstK a xs h =>
  cases (show u=Value.ref a from rx);obtain⟨its,_,⟨o,n,h1,h2,_⟩,_⟩:=I.list h;exact W.kia_one W.kitx_list I.kIn ⟨o,h1,h2⟩ e (fun z=>nomatch z) fun tk=>⟨.bl b,H,I.tok tk,rfl,q⟩
theorem Ya6 (K:W.Frag) (T:String):W.kitOne K (.type T) (.type T)=some true:=by
 unfold W.kitOne;rw[if_pos (beq_self_eq_true _)]
def Yi0:R2:=fun x y H Q=>∃ z n,x=.str z∧y=.int n∧z.length≤1000∧-1000≤n∧n≤1000∧Q (.str (Txt.mul z n)) H
theorem Yi5 {z:Str} {n:Int} (h1:z.length≤1000) (h2:-1000≤n) (h3:n≤1000):MulOk z n:=by
 refine⟨?_,fun h4 h5=>?_,fun h4 h5=>?_⟩
 ·have a:¬ n < -(2 ^ 63:Int):=by walk_at "o"
  have b:¬ n ≥ 2 ^ 63:=by walk_at "o"
  rw[decide_eq_false a,decide_eq_false b];rfl
 ·have:(1000:Int)≤(2 ^ 63 - 1) / n:=by
   rw[Int.le_ediv_iff_mul_le (by walk_at "o")];walk_at "o"
  walk_at "o"
 ·have:z.length*n.toNat≤1000*1000:=Nat.mul_le_mul h1 (by walk_at "o")
  unfold Builtin.Str.tooLong;rw[decide_eq_false];have e:=sizeLine_eq
  first | walk_at "o" | (simp at *;walk_at "o")
theorem Yi4:OpR X (binaryOp .Mult) Yi0:=by
 intro pins s σ H x y v u Q I rx ry h;obtain⟨z,n,rfl,rfl,h1,h2,h3,q⟩:=h;obtain⟨t,rfl⟩:=rx;obtain⟨t',rfl⟩:=ry;exact SB.mul (Yi5 h1 h2 h3) fun t' k=>⟨.str _,H,I.tok k,⟨_,rfl⟩,q⟩
theorem Xb8 (its:List Value):slicePick its.toArray none none (some (-1))=its.reverse.toArray:=by
 unfold slicePick
 have e:sliceBounds none none (some (-1)) its.toArray.size=((its.length:Int) - 1,-1,-1):=by
  simp[sliceBounds]
 rw[e]
 have e2:sliceRange ((its.length:Int) - 1) (-1) (-1)=(List.range its.length).map fun k=>its.length - 1 - k:=by
  unfold sliceRange
  have c:(if (-1:Int) > 0 then (if ((its.length:Int) - 1) < -1 then (-1 - ((its.length:Int) - 1)+-1 - 1) / -1 else 0) else (if ((its.length:Int) - 1) > -1 then (((its.length:Int) - 1) - -1 - -1 - 1) / (- -1) else 0)).toNat=its.length:=by
   rw[if_neg (by decide)]
   by_cases h:((its.length:Int) - 1) > -1
   ·rw[if_pos h]
    have:(((its.length:Int) - 1) - -1 - -1 - 1) / (- -1)=its.length:=by
     have:(- (-1:Int))=1:=rfl;rw[this,Int.ediv_one];walk_at "o"
    rw[this];simp
   ·rw[if_neg h];simp;walk_at "o"
  show (List.range (if (-1:Int) > 0 then (if ((its.length:Int) - 1) < -1 then (-1 - ((its.length:Int) - 1)+-1 - 1) / -1 else 0) else (if ((its.length:Int) - 1) > -1 then (((its.length:Int) - 1) - -1 - -1 - 1) / (- -1) else 0)).toNat).map _=_;rw[c];apply List.map_congr_left;intro k hk;walk_at "o"
 show ((sliceRange ((its.length:Int) - 1) (-1) (-1)).filterMap (its.toArray[·]?)).toArray=_;rw[e2,List.filterMap_map]
 congr 1
 apply List.ext_getElem?;intro i
 have all:(List.range its.length).filterMap ((its.toArray[·]?) ∘ fun k=>its.length - 1 - k)=its.reverse:=by
  have gen:∀ (n:Nat) (f:Nat→Option Value) (g:Nat→Value),(∀ k,k < n→f k=some (g k))→(List.range n).filterMap f=(List.range n).map g:=by
   intro n f g hf
   have aux:∀ l:List Nat,(∀ k∈l,f k=some (g k))→l.filterMap f=l.map g:=by
    intro l
    induction l with
    | nil=>intro _;rfl
    | cons k l ih =>
     intro h;rw[List.filterMap_cons,h k (List.mem_cons_self),List.map_cons,ih fun j hj=>h j (List.mem_cons_of_mem _ hj)]
   exact aux _ fun k hk=>hf k (List.mem_range.mp hk)
  rw[gen its.length _ (fun k=>its.reverse.getD k .none) (fun k hk=>by
   have h2:its.length - 1 - k < its.length:=by walk_at "o"
   simp[h2,List.getElem?_reverse,hk])]
  apply List.ext_getElem
  ·simp
  ·intro k h1 h2
   simp at h1;simp[List.getElem?_reverse,h1]
 rw[all]
def tRev (K:W.Frag) (te ts:TE):TE:=fun σ H Q=>te σ H fun x H1=>ts σ H1 fun y H2=>∃ a xs,x=.ref a∧y=.int (-1)∧SqL K H2 a xs∧∀ p,H2 p=none→Q (.ref p) (upd H2 p (.lst xs.reverse))
theorem Xr0 {e st:Expr} {te ts:TE} {p2 pos:Pos} (he:PE X e te) (hst:PE X st ts):PE X (.Subscript e (.Slice none none (some st) p2) pos) (tRev X.K te ts):=by
 intro pins s σ H Q I h;refine Subscript_ (thn (he pins s σ H _ I h) fun v s1 zq=>?_);obtain⟨x,H1,I1,r1,q1⟩:=zq;refine wpAny_Slice ?_;rw[evalPart_none,evalPart_some];refine wpAny_pure (wpAny_pure (thn (hst pins s1 σ H1 _ I1 q1) fun vs s2 zq=>?_));obtain⟨y,H2,I2,r2,q2⟩:=zq;obtain⟨a,xs,rfl,rfl,hx,q⟩:=q2;cases r1;obtain⟨t,rfl⟩:=r2;have I4:Inv X pins σ H2 { s2 with heap:=s2.heap.push { cls:=.type "slice",data:=.fields #[.none,.none,.int (-1) t] } }:=I2.kept (t':=s2.toks) fun b ob q=>Heap.get?_push_of_some _ q;obtain⟨its,r,ht,hz⟩:=I4.list hx;have hlen:=r.length;show wpAny (model X.prog X.w) X.A (subscriptTail e (.Slice none none (some st) p2) (.ref a) (.ref s2.heap.objs.size)) (EP X pins σ Q) X.xe { s2 with heap:=s2.heap.push { cls:=.type "slice",data:=.fields #[.none,.none,.int (-1) t] } };refine tail_any (ops:=[.ref a,.ref s2.heap.objs.size]) ht.isList.typeIs slot_list_getitem.lookup ?_ (by with_unfolding_all rfl);refine wpAny_getItem_list_slice ht.isList (Heap.IsSliceOf.new ..) .none .none (.int _ _) (by simp) ?_ (by rw[List.size_toArray]<;>walk_at "o");rw[Xb8];refine⟨.ref _,_,I4.laid (t':=s2.toks) (o:=.lst xs.reverse) (fun b ob q=>Heap.get?_push_of_some _ q) (Nat.le_refl _) ?_,rfl,q _ (I4.hok.fresh (Nat.le_refl _))⟩;exact⟨by rw[List.length_reverse];exact hz,_,0,r.reverse,Heap.get?_push_size _ rfl⟩
noncomputable abbrev TF:=Str→St→Hp→VK→Prop
def PF (X:Cx) (es:List Expr) (t:TF):Prop :=
 ∀ (out:Str) (pins:List (Addr×Obj)) (s:Shared) (σ:St) (H:Hp) (Q:VK),Inv X pins σ H s→t out σ H Q→wpAny (model X.prog X.w) X.A (joinParts out (evalEach es X.env)) (EP X pins σ Q) X.xe s
def tF0:TF:=fun out _ H Q=>out.length≤sizeLine∧Q (.str out) H
def tFc (x:Str) (t:TF):TF:=fun out σ H Q=>(out++x).length≤sizeLine∧t (out++x) σ H Q
def tFv (te:TE) (t:TF):TF:=fun out σ H Q=>te σ H fun v H1=>∃ y,v=.str y∧y.length≤sizeLine∧(out++y).length≤sizeLine∧t (out++y) σ H1 Q
theorem Xq9:PF X [] tF0:=fun out pins s σ H Q I h=>joinParts_nil ⟨.str out,H,I.tok _,⟨_,rfl⟩,h.2⟩ h.1
theorem Xf0 {x:Str} {j:Nat} {pos:Pos} {es:List Expr} {t:TF} (h:PF X es t) (hs:evalEach (.Constant (.str x) j pos :: es) X.env=eval (.Constant (.str x) j pos) X.env :: evalEach es X.env:=by rfl):PF X (.Constant (.str x) j pos :: es) (tFc x t):=by
 intro out pins s σ H Q I hw;rw[hs];refine joinParts_cons (Calls.Constant_str ?_);exact⟨hw.1,h _ pins _ σ H Q (I.tok _) hw.2⟩
theorem Xq8 {e:Expr} {te:TE} {pos:Pos} {es:List Expr} {t:TF} (he:PE X e te) (h:PF X es t) (hs:evalEach (.FormattedValue e (-1) none pos :: es) X.env=eval (.FormattedValue e (-1) none pos) X.env :: evalEach es X.env:=by rfl):PF X (.FormattedValue e (-1) none pos :: es) (tFv te t):=by
 intro out pins s σ H Q I hw;rw[hs];refine joinParts_cons (FormattedValue_plain (thn (he pins s σ H _ I hw) fun v s1 zq=>?_));obtain⟨x,H1,I1,r1,q1⟩:=zq;obtain⟨y,rfl,hy,hz,q⟩:=q1;obtain⟨tk,rfl⟩:=r1;exact formatField_str (fun t' k=>⟨hz,h _ pins _ σ H1 Q (I1.tok k) q⟩) hy
def tFs (t:TF):TE:=fun σ H Q=>t Str.empty σ H Q
theorem Xi6 {e1 e2:Expr} {es:List Expr} {t:TF} {pos:Pos} (h:PF X (e1 :: e2 :: es) t) (hs:evalEach (e1 :: e2 :: es) X.env=eval e1 X.env :: eval e2 X.env :: evalEach es X.env:=by rfl):PE X (.JoinedStr (e1 :: e2 :: es) pos) (tFs t):=by
 intro pins s σ H Q I hw;refine JoinedStr_many ?_;rw[← hs];exact h _ pins s σ H Q I hw
end
mutual
def Dn (K:W.Frag) (H:Hp):V→PyData→Prop
 | v,.none=>v=.non
 | v,.bool b=>v=.bl b
 | v,.int i=>v=.int i
 | v,.str x=>v=.str x
 | v,.list ds=>∃ a xs,v=.ref a∧SqL K H a xs∧DnAll K H xs ds
 | v,.tuple ds=>∃ a xs,v=.ref a∧SqT K H a xs∧DnAll K H xs ds
 | _,.dict _=>False
def DnAll (K:W.Frag) (H:Hp):List V→List PyData→Prop
 | xs,[]=>xs=[]
 | xs,d :: ds=>∃ x r,xs=x :: r∧Dn K H x d∧DnAll K H r ds
end
theorem DnAll.length {K:W.Frag} {H:Hp}:∀ {xs:List V} {ds:List PyData},DnAll K H xs ds→xs.length=ds.length
 | xs,[],h=>by rw[DnAll] at h;rw[h];rfl
 | xs,d :: ds,h=>by
  rw[DnAll] at h;obtain⟨x,r,rfl,_,h⟩:=h;simp[DnAll.length h]
def KeepT (K:W.Frag) (H H':Hp):Prop:=∀ a xs,SqT K H a xs→SqT K H' a xs
mutual
noncomputable def noList:PyData→Bool
 | .list _=>false
 | .tuple ds=>noLists ds
 | .dict _=>false
 | _=>true
noncomputable def noLists:List PyData→Bool
 | []=>true
 | d :: ds=>noList d&&noLists ds
end
mutual
theorem Dn.keepT {K:W.Frag} {H H':Hp} (k:KeepT K H H'):∀ {d:PyData} {v:V},noList d=true→Dn K H v d→Dn K H' v d
 | .none,v,_,h=>by rw[Dn] at h ⊢;exact h
 | .bool _,v,_,h=>by rw[Dn] at h ⊢;exact h
 | .int _,v,_,h=>by rw[Dn] at h ⊢;exact h
 | .str _,v,_,h=>by rw[Dn] at h ⊢;exact h
 | .list _,v,n,h=>by rw[noList] at n;cases n
 | .dict _,v,n,h=>by rw[noList] at n;cases n
 | .tuple ds,v,n,h=>by
  rw[Dn] at h ⊢;rw[noList] at n;obtain⟨a,xs,e,hs,hd⟩:=h;exact⟨a,xs,e,k a xs hs,DnAll.keepT k n hd⟩
theorem DnAll.keepT {K:W.Frag} {H H':Hp} (k:KeepT K H H'):∀ {ds:List PyData} {xs:List V},noLists ds=true→DnAll K H xs ds→DnAll K H' xs ds
 | [],xs,_,h=>by rw[DnAll] at h ⊢;exact h
 | d :: ds,xs,n,h=>by
  rw[DnAll] at h ⊢;rw[noLists,Bool.and_eq_true] at n;obtain⟨x,r,e,h1,h2⟩:=h;exact⟨x,r,e,Dn.keepT k n.1 h1,DnAll.keepT k n.2 h2⟩
end
section
variable {X:Cx} {pins:List (Addr×Obj)} {σ:St} {H:Hp} {s:Shared}
mutual
theorem Dn.reads (I:Inv X pins σ H s):∀ {d:PyData} {v:V} {u:Value},Dn X.K H v d→RelV v u→∃ as,Reads s.heap u d as
 | .none,v,u,h,r=>by rw[Dn] at h;subst h;cases (show u=Value.none from r);exact⟨_,.none⟩
 | .bool b,v,u,h,r=>by rw[Dn] at h;subst h;cases (show u=Value.bool b from r);exact⟨_,.bool b⟩
 | .int i,v,u,h,r=>by rw[Dn] at h;subst h;obtain⟨t,rfl⟩:=r;exact⟨_,.int i t⟩
 | .str x,v,u,h,r=>by rw[Dn] at h;subst h;obtain⟨t,rfl⟩:=r;exact⟨_,.str x t⟩
 | .dict _,v,u,h,r=>by rw[Dn] at h;exact h.elim
 | .list ds,v,u,h,r=>by
  rw[Dn] at h;obtain⟨a,xs,rfl,hs,hd⟩:=h;cases (show u=Value.ref a from r);obtain⟨its,rv,⟨o,n,h1,h2,_,h3⟩,_⟩:=I.list hs;obtain⟨as,q⟩:=DnAll.reads I hd rv;exact⟨_,.list h1 h2 h3 (by simpa using q)⟩
 | .tuple ds,v,u,h,r=>by
  rw[Dn] at h;obtain⟨a,xs,rfl,hs,hd⟩:=h;cases (show u=Value.ref a from r);obtain⟨its,rv,⟨o,h1,h2,n,h3⟩,_⟩:=I.tuple hs;obtain⟨as,q⟩:=DnAll.reads I hd rv;exact⟨_,.tuple h1 h2 h3 (by simpa using q)⟩
theorem DnAll.reads (I:Inv X pins σ H s):∀ {ds:List PyData} {xs:List V} {us:List Value},DnAll X.K H xs ds→Vals xs us→∃ as,ReadsAll s.heap us ds as
 | [],xs,us,h,r=>by rw[DnAll] at h;subst h;cases r;exact⟨_,.nil⟩
 | d :: ds,xs,us,h,r=>by
  rw[DnAll] at h;obtain⟨x,r',rfl,h1,h2⟩:=h
  cases r with
  | cons r1 r2 =>
   obtain⟨as,q1⟩:=Dn.reads I h1 r1;obtain⟨bs,q2⟩:=DnAll.reads I h2 r2;exact⟨_,.cons q1 q2⟩
end
end
section
variable {X:Cx}
def rEqD (K:W.Frag) (neg:Bool):R2:=fun x y H Q=>∃ d e,Dn K H x d∧Dn K H y e∧d.canLay0=true∧e.canLay0=true∧min d.depth e.depth≤150∧Q (.bl (if neg then !PyData.eqv d e else PyData.eqv d e)) H
theorem Yl9 (hu:X.A.units+150 < cLine):OpR X (compareOp .Eq) (rEqD X.K false):=by
 intro pins s σ H x y v u Q I rx ry h;obtain⟨d,e,h1,h2,l1,l2,hz,q⟩:=h;obtain⟨as,r1⟩:=h1.reads I rx;obtain⟨bs,r2⟩:=h2.reads I ry;exact W.cmp_ofEq (SeqAt.rcAt_reads r1 r2 l1 l2 (by walk_at "o") _ _ _ _ ⟨.bl _,H,I,rfl,q⟩)
theorem Xf1 (hu:X.A.units+150 < cLine):OpR X (compareOp .NotEq) (rEqD X.K true):=by
 intro pins s σ H x y v u Q I rx ry h;obtain⟨d,e,h1,h2,l1,l2,hz,q⟩:=h;obtain⟨as,r1⟩:=h1.reads I rx;obtain⟨bs,r2⟩:=h2.reads I ry;exact W.cmp_ofNotEq (SeqAt.rcNeAt_reads r1 r2 l1 l2 (by walk_at "o") _ _ _ _ ⟨.bl _,H,I,rfl,q⟩)
end
theorem Zm8 {A:Around} {k:Nat} (hr:Room k A):A.units+150 < cLine:=by have:=hr.un;walk_at "o"
noncomputable def blk (X:Cx) (N':List Str) (scope:Scope) (cl:List (Str×Addr)) (s:Shared) (H:Hp) (C:Addr) (ex:List Addr):Cx where
 prog:=X.prog
 w:=X.w
 K:=X.K
 mg:=X.mg
 base:=X.base
 A:=X.A
 N:=N'
 s₀:=s
 H₀:=H
 env:=compEnvC scope cl C X.env
 outer:=X.stack
 stack:=X.stack
 ex:=ex
 fn:=fun _=>false
 calm:=X.calm
 pn:=[]
 xe:=fun _ _=>False
structure BlkOk (X:Cx) (scope:Scope) (cl:List (Str×Addr)) (N':List Str) (nt:Nat) (ci:List Nat):Prop where
 clos:closureFor scope X.env=pure cl
 cell:∀ y∈scope.names,y.2≠.cell
 kind:scope.kind=.function
 names:∀ y∈scope.names,y.2=.local→scope.names.lookup y.1=some .local
 sub:∀ x c,cl.lookup x=some c→X.env.cells.lookup x=some c
 has:∀ x,((relabel scope X.env).names.lookup x=some .cell∨(relabel scope X.env).names.lookup x=some .free)→∃ c,cl.lookup x=some c
 len:N'.length=nt+ci.length
 cap:∀ (j i:Nat),ci[j]?=some i→∃ x,N'[nt+j]?=some x∧X.N[i]?=some x∧X.env.scope.names.lookup x=some .cell∧((relabel scope X.env).names.lookup x=some .cell∨(relabel scope X.env).names.lookup x=some .free)
noncomputable def capt (nt:Nat) (ci:List Nat) (σ:St):St:=List.replicate nt none++ci.map fun i=>(σ[i]?).join
section
variable {X:Cx} {scope:Scope} {cl:List (Str×Addr)} {N':List Str} {nt:Nat} {ci:List Nat} {pins:List (Addr×Obj)} {σ:St} {H:Hp} {s:Shared}
theorem Yz1 (B:BlkOk X scope cl N' nt ci) (I:Inv X pins σ H s) {fp:List Addr} (hf:∀ b∈fp,FpOk X pins H b) (ho:∀ b∈fp,∃ o,s.heap.get? b=some o) {C acc:Addr} {h1:Heap} {tk:Nat}
    (hacc:acc=s.heap.objs.size) (hC:C=s.heap.objs.size+1) (k:∀ b u,s.heap.get? b=some u→h1.get? b=some u) (ns:h1.Ns C fun _=>none) (ha:h1.get? acc=some { cls:=.type "list",data:=.seq #[] }) :
    Inv (blk X N' scope cl s H C fp) [] (capt nt ci σ) (upd H acc (.lst [])) { s with heap:=h1,toks:=tk }:=by
  have hn:H acc=none:=I.hok.fresh (by rw[hacc];exact Nat.le_refl _);have hnC:H C=none:=I.hok.fresh (by rw[hC];exact Nat.le_succ _)
  have cellLt:∀ x c,cl.lookup x=some c→c < s.heap.objs.size:=fun x c e=>by
    obtain⟨v,q⟩:=I.cell x c (B.sub x c e);exact q.lt
  refine⟨⟨I.ok.mod,B.kind,I.ok.glob,I.ok.blt,?_,fun x y c e1 e2=>I.ok.inj x y c (B.sub _ _ e1) (B.sub _ _ e2),fun x hx=>B.has x hx,fun x c (z:false=true)=>Bool.noConfusion z,fun hc=>I.ok.hd hc,I.ok.frames,.inl rfl,fun b hb=>?_,I.bs,?_,fun b o e hb=>?_,fun b hb=>?_,I.stack,fun b hb=>I.stkFree b hb⟩,
    rfl,I.bare,Un.laid (a:=acc) (o:=.lst []) k (by rw[hacc];exact Nat.le_refl _) hn,⟨_,ns,fun i x v e1 e2 e3=>?_⟩,fun x c e=>?_,?_,fun x c e=>?_,fun p hp=>absurd (show p∈([]:List (Addr×Obj)) from hp) (by simp),I.hok.laid k (by rw[hacc];exact Nat.le_refl _) ⟨Nat.zero_le _,[],0,.nil,ha⟩,?_⟩
  · show s.heap.objs.size≤C
    rw[hC];exact Nat.le_succ _
  · obtain⟨f0,f1,f2,f3,f4,f5⟩:=hf b hb
    obtain⟨o,e⟩:=ho b hb;refine⟨?_,fun x c e'=>f4 x c (B.sub x c e')⟩;show b≠C;rw[hC];exact Nat.ne_of_lt (Nat.lt_succ_of_lt (Heap.lt_size e))
  · exact Nat.le_trans I.ok.bsz I.sz
  · obtain⟨f0,f1,f2,f3,f4,f5⟩:=hf b hb
    rcases f3 with z | z
    · exact I.ok.noex b o e z
    · exact absurd (Nat.lt_of_lt_of_le (Heap.lt_size e) (Nat.le_trans I.ok.bsz z)) (Nat.lt_irrefl _)
  · intro z
    obtain⟨f0,f1,f2,f3,f4,f5⟩:=hf b hb;rcases List.mem_cons.mp (I.stkSub b z) with y | y
    · exact f1 y
    · exact f2 y
  ·
    obtain⟨m,hm,hl⟩:=I.loc;unfold capt at e2
    by_cases hi:i < nt
    · rw[List.getElem?_append_left (by simpa using hi),List.getElem?_replicate] at e2
      split at e2<;>cases e2
    · rw[List.getElem?_append_right (by simpa using hi),List.length_replicate,List.getElem?_map] at e2
      cases q:ci[i - nt]? with
      | none=>rw[q] at e2;cases e2
      | some j =>
        rw[q] at e2;have e2':(σ[j]?).join=some v:=Option.some.inj e2;obtain⟨y,a1,a2,a3,a4⟩:=B.cap _ j q
        have ei:nt+(i - nt)=i:=by walk_at "o"
        rw[ei,show N'[i]?=some x from e1] at a1;cases a1
        have e2'':σ[j]?=some (some v):=by
          cases z:σ[j]? with
          | none=>rw[z] at e2';cases e2'
          | some w=>rw[z] at e2';exact congrArg some e2'
        obtain⟨u,r,l⟩:=hl j x v a2 e2'' (.inr (.inl a3));refine⟨u,r,.inr ⟨a4,?_⟩⟩;rcases l with ⟨kk,_⟩ | ⟨_,c,c1,c2⟩
        · have kk':X.env.scope.names.lookup x=some .local:=kk
          rw[a3] at kk';cases kk'
        · obtain⟨c',ec⟩:=B.has x a4
          have:=B.sub x c' ec;rw[c1] at this;cases this;exact⟨c,ec,let ⟨o,e,d⟩:=c2;⟨o,k _ _ e,d⟩⟩
  · obtain⟨v,q⟩:=I.cell x c (B.sub x c e)
    exact⟨v,let ⟨o,e,d⟩:=q;⟨o,k _ _ e,d⟩⟩
  · show upd H acc (.lst []) C=none
    rw[Zb0 (by rw[hacc,hC];exact Nat.succ_ne_self _)];exact hnC
  · have lt:=cellLt x c e
    rw[Zb0 (by rw[hacc];exact Nat.ne_of_lt lt)];exact I.freeC x c (B.sub x c e)
  · show (capt nt ci σ).length=N'.length
    unfold capt;rw[List.length_append,List.length_replicate,List.length_map,B.len]
def Wk (σ σ':St):Prop:=σ'.length=σ.length∧∀ (i:Nat) v,σ[i]?=some (some v)→σ'[i]?=some (some v)
theorem Xn1 {σ:St} {i:Nat} {x:V} (h:σ[i]?=some none):Wk σ (σ.set i (some x)):=by
 refine⟨by simp,fun j v e=>?_⟩
 by_cases hj:j=i
 ·subst hj;rw[h] at e;cases e
 ·rw[List.getElem?_set_ne (Ne.symm hj)];exact e
theorem Yq7 {x:V} {r:St}:Wk (none :: r) (some x :: r):=Xn1 (σ:=none :: r) (i:=0) rfl
def lcW (K:W.Frag) (σ0:St) (J:It) (acc:Addr) (g:TG) (te:TE) (Q:VK) (W:Nat→Nat→List V→Hp→Prop):Prop :=
 ∀ i m ys H2,W i m ys H2→H2 acc=some (.lst ys)∧ys.length < sizeLine∧((J.stop i H2∧Q (.ref acc) H2) ∨
  (J.go i H2∧∀ x H3,J.yld i H2 x H3→g x σ0 H3 fun σ4 H4=>Wk σ0 σ4∧te σ4 H4 fun y H5=>H5 acc=some (.lst ys)∧∃ m',m' < m∧W (i+1) m' (ys++[y]) (upd H5 acc (.lst (ys++[y])))))
def tLC (K:W.Frag) (nt:Nat) (ci:List Nat) (wi:TI) (g:TG) (te:TE):TE:=fun σ H Q=>wi σ H fun J H1=>∀ acc,H1 acc=none→∃ W:Nat→Nat→List V→Hp→Prop,(∃ m,W 0 m [] (upd H1 acc (.lst [])))∧lcW K (capt nt ci σ) J acc g te Q W
theorem Yg1 (elt target iter:Expr) (scope:Scope) (pos:Pos) (it acc:Value) (env:Env) :
  compTurn (.ListComp elt [⟨target,iter,[],0⟩] scope pos) 0 it acc env=(standAt iter.pos >>= fun _=>pyNext it >>= fun r=>match r with
   | none=>pure (.done .next)
   | some v=>letOwnedTupleGo target it v >>= fun _=>assign target env v >>= fun _ =>
    (eval elt env >>= fun x=>call (.builtin "list.append") [acc,x] >>= fun _=>pure ()) >>= fun _ =>
     again (.compLoop (.ListComp elt [⟨target,iter,[],0⟩] scope pos) 0 it acc env)):=by rfl
theorem noE {M:Model} {A:Around} {env:Env} {E:Value→Shared→Prop}:∀ e s,(fun (_:Value) (_:Shared)=>False) e s→notedBy M A env E e s:=fun _ _ z=>z.elim
theorem Xj7 {tg elt iter:Expr} {pos:Pos} {g:TG} {te:TE} {it acc C:Addr} {fp:List Addr} {tn:Nat→Heap→Prop} {J:It} {Q:VK} {s0:Shared} {H0:Hp} {σ0:St} {R:Result→Shared→Prop} {s:Shared} {i0 m0:Nat} {ys0:List V} {H1:Hp} {W:Nat→Nat→List V→Hp→Prop}
  (hc:X.calm=true) (hg:PG (blk X N' scope cl s0 H0 C fp) tg g) (he:PE (blk X N' scope cl s0 H0 C fp) elt te) (T:Turn X.prog X.w X.K tg J fp it tn)
  (hfp:∀ (H':Hp),(∀ b∈fp,H' b=none)→∀ b∈fp,FpOk (blk X N' scope cl s0 H0 C fp) [] H' b) (hW:lcW X.K σ0 J acc g te Q W)
  (hR:∀ s' H',Inv (blk X N' scope cl s0 H0 C fp) [] σ0 H' s'→Q (.ref acc) H'→R (.ok .next) s')
  (I:Inv (blk X N' scope cl s0 H0 C fp) [] σ0 H1 s) (hst:tn i0 s.heap) (hfr:∀ b∈fp,H1 b=none) (w:W i0 m0 ys0 H1) :
  codeAny (model X.prog X.w) X.A (.compLoop (.ListComp elt [⟨tg,iter,[],0⟩] scope pos) 0 (.ref it) (.ref acc) (compEnvC scope cl C X.env)) R s:=by
 refine codeAny_loop rfl (fun n s=>∃ i ys H2,Inv (blk X N' scope cl s0 H0 C fp) [] σ0 H2 s∧tn i s.heap∧(∀ b∈fp,H2 b=none)∧W i n ys H2) (fun n s hI=>?_) m0 ⟨i0,ys0,H1,I,hst,hfr,w⟩;obtain⟨i,ys,H2,I2,st2,fr2,w2⟩:=hI;show wpAny _ _ ((compTurn (.ListComp elt [⟨tg,iter,[],0⟩] scope pos) 0 (.ref it) (.ref acc) (compEnvC scope cl C X.env)).onRaise (fun x=>do noteFrame x (compEnvC scope cl C X.env);theTreesLotGoes x)) _ _ s;refine wpAny_noted ?_;rw[Yg1];refine wpAny_bind (wpAny_standAt (wpAny_bind ?_));obtain⟨hacc,hlen,hcase⟩:=hW i n ys H2 w2;rcases hcase with ⟨stop,q⟩ | ⟨go,step⟩
 ·refine thn (T.done (blk X N' scope cl s0 H0 C fp) rfl rfl rfl hc i [] s σ0 H2 _ I2 (hfp H2 fr2) st2 stop) fun r s1 zq=>?_;obtain⟨hr,I3⟩:=zq
  subst hr;exact wpAny_pure (hR s1 H2 I3 q)
 ·refine thn (T.item (blk X N' scope cl s0 H0 C fp) rfl rfl rfl hc i [] s σ0 H2 _ I2 (hfp H2 fr2) st2 go) fun r s1 zq=>?_;obtain⟨u,hr,h4⟩:=zq
  subst hr;refine wpAny_bind (thn h4 fun _ s5 zq=>?_);obtain⟨x,H5,I5,r5,y5,st5,fr5⟩:=zq;have I5':=I5.pinned (hfp H5 fr5) (T.obj _ _ st5);refine wpAny_bind (wpAny_mono (hg _ s5 σ0 H5 x u _ I5' r5 (step x H5 y5)) (fun _ s6 ⟨σ6,H6,I6,hw6,q6⟩=>?_) noE);refine wpAny_bind (wpAny_bind (wpAny_mono (he _ s6 σ6 H6 _ I6 q6) (fun v s7 ⟨y,H7,I7,r7,ha7,m',hm',w7⟩=>?_) noE));refine wpAny_bind (wpAny_mono (Ze6 (X:=blk X N' scope cl s0 H0 C fp) _ s7 σ6 H7 (.ref acc) [y] (.ref acc) [v] (fun _ H8=>H8=upd H7 acc (.lst (ys++[y]))) I7 rfl (.cons r7 .nil) ⟨acc,ys,y,rfl,rfl,ha7,hlen,rfl⟩) (fun _ s8 ⟨_,H8,I8,_,e8⟩=>?_) noE);subst e8;refine wpAny_pure (wpAny_pure ⟨rfl,m',hm',i+1,ys++[y],_,?_,?_,fun b hb=>?_,w7⟩)
  ·exact I8.unpinned.weak hw6.1.symm hw6.2
  ·exact T.keep _ _ _ st5 fun b hb o e=>(I8.pin (b,o) (List.mem_append_right _ (List.mem_append_right _ (Zm3 hb e)))).1
  ·obtain⟨o,e,d⟩:=T.obj _ _ st5 b hb
   exact (I8.pin (b,o) (List.mem_append_right _ (List.mem_append_right _ (Zm3 hb e)))).2.1
theorem Xj8 {tg elt iter:Expr} {pos pos':Pos} {wi:TI} {g:TG} {te:TE} {use:Option (Value→Sem Unit)} {Q:VK} {Qf:Value→Shared→Prop} (B:BlkOk X scope cl N' nt ci) (hc:X.calm=true) (hi:PI X tg iter wi)
  (hg:∀ s H C ex,PG (blk X N' scope cl s H C ex) tg g) (he:∀ s H C ex,PE (blk X N' scope cl s H C ex) elt te) (hs:∀ x,foldedSetIterable iter X.env x=pure x) (I:Inv X pins σ H s) (h:tLC X.K nt ci wi g te σ H Q)
  (fin:∀ (acc C:Addr) (s':Shared) (H':Hp),Inv X pins σ H' s'→Q (.ref acc) H'→(∃ m,s'.heap.Ns C m)→FpOk X pins H' C→(∃ o,s'.heap.get? C=some o∧∀ v,o.data≠.cell v)→compPost (model X.prog X.w) X.A X.xe use Qf (.ref acc) C (.ok .next) s') :
  wpAny (model X.prog X.w) X.A (comprehension (.ListComp elt [⟨tg,iter,[],0⟩] scope pos) scope X.env pos' (newList []) false (eval iter X.env) use) Qf X.xe s:=by
 refine wpAny_comprehension_free (use:=use) rfl hs B.clos B.kind B.names (thn (hi pins s σ H _ I h) fun v s1 h1=>thn h1 fun itv s2 h2=>?_);obtain⟨it,fp,tn,J,H2,e,I2,T,st2,f2,q2⟩:=h2;subst e;have hacc:H2 s2.heap.objs.size=none:=I2.hok.fresh (Nat.le_refl _);obtain⟨W,⟨m0,w0⟩,hW⟩:=q2 s2.heap.objs.size hacc;refine wpAny_newObj_type (wpAny_newFunctionEnv B.cell (by intro y hy;simp at hy) (fun h₁ hns₁ hsb₁=>?_) B.kind);dsimp only at hns₁ hsb₁ ⊢;have hCs:(s2.heap.push { cls:=.type "list",dict:=none,data:=.seq ([]:List Value).toArray }).objs.size=s2.heap.objs.size+1:=Heap.size_push ..;have k1:∀ b u,s2.heap.get? b=some u→h₁.get? b=some u:=fun b u e=>hsb₁.extBut b u (by rw[hCs];exact Nat.ne_of_lt (Nat.lt_succ_of_lt (Heap.lt_size e))) (Heap.get?_push_of_some _ (Heap.get?_push_of_some _ e));have a1:h₁.get? s2.heap.objs.size=some { cls:=.type "list",data:=.seq #[] }:=hsb₁.extBut _ _ (by rw[hCs];exact Nat.ne_of_lt (Nat.lt_succ_self _)) (Heap.get?_push_of_some _ (Heap.get?_push_size _ rfl));rw[hCs] at hns₁ ⊢;have I3:=Yz1 (tk:=s2.toks+([]:List (Str×Value)).length) B I2 f2 (fun b hb=>let ⟨o,e,_⟩:=T.obj _ _ st2 b hb;⟨o,e⟩) rfl rfl k1 (by simpa using hns₁) a1
 have hfpB:∀ (H':Hp),(∀ b∈fp,H' b=none)→∀ b∈fp,FpOk (blk X N' scope cl s2 H2 (s2.heap.objs.size+1) fp) [] H' b:=fun H' hn b hb=>by
  obtain⟨f0,f1,f3,f4,f5,f6⟩:=f2 b hb;obtain⟨o,e,_⟩:=T.obj _ _ st2 b hb;refine⟨hn b hb,?_,fun z=>?_,.inl hb,fun x c e'=>f5 x c (B.sub x c e'),fun p hp=>absurd (show p∈([]:List (Addr×Obj)) from hp) (by simp)⟩
  ·exact Nat.ne_of_lt (Nat.lt_succ_of_lt (Heap.lt_size e))
  ·rcases List.mem_cons.mp (I2.stkSub b z) with y | y
   ·exact f1 y
   ·exact f3 y
 have hfr3:∀ b∈fp,upd H2 s2.heap.objs.size (.lst []) b=none:=fun b hb=>by
  obtain⟨o,e,_⟩:=T.obj _ _ st2 b hb;rw[Zb0 (Nat.ne_of_lt (Heap.lt_size e))];exact (f2 b hb).1
 have st3:tn 0 h₁:=T.keep _ _ _ st2 fun b _ o e=>k1 b o e;have loop:codeAny (model X.prog X.w) X.A (.compLoop (.ListComp elt [⟨tg,iter,[],0⟩] scope pos) 0 (.ref it) (.ref s2.heap.objs.size) (compEnvC scope cl (s2.heap.objs.size+1) X.env))
   (compPost (model X.prog X.w) X.A X.xe use Qf (.ref s2.heap.objs.size) (s2.heap.objs.size+1)) { s2 with heap:=h₁,toks:=s2.toks+([]:List (Str×Value)).length }:=by
  refine Xj7 (Q:=Q) hc (hg _ _ _ _) (he _ _ _ _) T hfpB hW (fun s' H' I' q=>?_) I3 st3 hfr3 w0;have un:=I'.base;have ns:=I'.loc;have fC:H' (s2.heap.objs.size+1)=none:=I'.free
  have I4:Inv X pins σ H' s':=I2.call' I'.os un I'.hok I'.bare fun b hb=>by
   obtain⟨f0,f1,f3,f4,f5,f6⟩:=f2 b hb;exact⟨f4,f1,f5,f6⟩
  obtain⟨m,hm,_⟩:=ns;have hm':s'.heap.Ns (s2.heap.objs.size+1) m:=hm;refine fin _ _ s' H' I4 q ⟨m,hm'⟩ (I2.fpOk (Nat.le_succ _) fC) ?_;obtain⟨o,es,ep,e,d,_⟩:=hm';exact⟨o,e,fun v z=>by rw[d] at z;cases z⟩
 exact codeAny_compStart_list loop (T.self _ _ _ _ _ st3 loop)
theorem Yl4 {i:Nat} {x:Str} {tg elt iter:Expr} {pos spos pos':Pos} {wi:TI} {g:TG} {te:TE} (hN:X.N.Nodup) (hi:X.N[i]?=some x) (hx:Loc X.env.scope x) (B:X.Ok→BlkOk X scope cl N' nt ci) (hc:X.calm=true) (hit:PI X tg iter wi)
  (hg:∀ s H C ex,PG (blk X N' scope cl s H C ex) tg g) (he:∀ s H C ex,PE (blk X N' scope cl s H C ex) elt te) (hsw:swapsWith (.ListComp elt [⟨tg,iter,[],0⟩] scope pos) (some (.Name x pos')) spos.line X.env=pure true)
  (hs:∀ x,foldedSetIterable iter X.env x=pure x:=by intro _;rfl) (hf:X.fn x=true∨X.env.scope.names.lookup x=some .local:=by first | exact .inl rfl | exact .inr rfl | assumption) :
  PS X (.Assign [.Name x pos'] (.ListComp elt [⟨tg,iter,[],0⟩] scope pos) spos) (tAsg (tLC X.K nt ci wi g te) (Ya9 i)):=by
 intro pins s σ H D I h;rw[exec_Assign_Name_used _ _ _ _ hsw];refine wpAny_bind (wpAny_standAt (wpAny_bind ?_));rw[arm_evalThenUse_ListComp];refine wpAny_bind (Xj8 (B I.ok) hc hit hg he hs I h fun acc C s' H' I' q hm hfC ho=>?_);obtain⟨f0,f1,f2,f3,f4,f5⟩:=hfC;obtain⟨m,hm⟩:=hm;obtain⟨o,e,d⟩:=ho
 have Ip:Inv X (pins++[(C,o)]) σ H' s':=I'.pins_of fun p hp=>(List.mem_append.mp hp).elim (fun z=>I'.pin p (List.mem_append_right _ z)) fun z=>by
  have e':p=(C,o):=by simpa using z
  subst e';exact⟨e,f0,f1,f2,d⟩
 refine wpAny_assign_Name (Zi4 Ip hN hi hx (show RelV (.ref acc) (Value.ref acc) from rfl) (fun s2 I2=>?_) hf);have e2:=(I2.pin (C,o) (List.mem_append_right _ (List.mem_append_right _ (by simp)))).1;obtain⟨o',es,ep,h1,h2,h3⟩:=hm;rw[e] at h1;cases h1;refine⟨m,⟨o,es,ep,e2,h2,h3⟩,fun h' sb=>wpAny_pure (wpAny_pure ?_)⟩;have I3:Inv X pins (σ.set i (some (.ref acc))) H' s2:=I2.unpinned;exact⟨_,H',I3.turned (t':=s2.toks) (fun b o hb e=>(sb.2 b hb).trans e) f0 f1 f3 f4 f5,q⟩
end
end L2
namespace PySem
open Sem (wp)
namespace F
end F
end PySem
namespace L2
open PySem PySem.Spec PyProof.Rows
structure KDict (K:W.Frag) (w:World) (a:Addr) (kvs:List (Str×V)):Prop where
 ex:∃ (o:Obj) (es:Array DictEntry) (ep:Nat),K.lookup a=some o∧o.ExactDict∧o.data=.dict es ep∧Paired (fun (p:Str×V) (e:DictEntry)=>(∃ tk,e.key=.str p.1 tk)∧e.hash=PyData.keyHash w.params p.1∧RelV p.2 e.val) kvs es.toList
 nd:(kvs.map (·.1)).Nodup
 ns:(a == sysModules)=false
noncomputable def kvK (kvs:List (Str×V)):List (Key×V):=kvs.map fun p=>(Sum.inr p.1,p.2)
section
variable {X:Cx} {pins:List (Addr×Obj)} {σ:St} {H:Hp} {s:Shared} {a:Addr} {kvs:List (Str×V)}
theorem Ym6 {P:Program} {w:World}:∀ {kvs:List (Str×V)} {es:List DictEntry},Paired (fun (p:Str×V) (e:DictEntry)=>(∃ tk,e.key=.str p.1 tk)∧e.hash=PyData.keyHash w.params p.1∧RelV p.2 e.val) kvs es →
  (∀ e∈es,∃ k,(Ze3 P w).is k e.key=true∧e.hash=(Ze3 P w).hash k)∧Pairs (Ze3 P w) es (List.zip (kvs.map fun p=>(Sum.inr p.1:Key)) (es.map (·.val)))∧KV (kvK kvs) (List.zip (kvs.map fun p=>(Sum.inr p.1:Key)) (es.map (·.val)))
 | [],_,r=>by cases r;exact⟨(fun _ h=>(nomatch h)),.nil,.nil⟩
 | p :: kvs,_,r=>by
  cases r with
  | @cons _ e _ es h t =>
   obtain⟨⟨tk,h1⟩,h2,h3⟩:=h;obtain⟨q1,q2,q3⟩:=Ym6 (P:=P) t
   have hi:(Ze3 P w).is (Sum.inr p.1) e.key=true:=by rw[h1];exact Zu2 P w p.1 tk
   refine⟨fun e' he=>?_,.cons hi rfl q2,.cons ⟨rfl,h3⟩ q3⟩;rcases List.mem_cons.mp he with rfl | he
   ·exact⟨Sum.inr p.1,hi,h2⟩
   ·exact q1 e' he
theorem KDict.of (D:KDict X.K X.w a kvs) (I:Inv X pins σ H s):∃ vs,KV (kvK kvs) vs∧s.heap.DictOf (Ze3 X.prog X.w) a vs:=by
 obtain⟨o,es,ep,lk,ex,d,pr⟩:=D.ex;obtain⟨q1,q2,q3⟩:=Ym6 (P:=X.prog) pr;refine⟨_,q3,o,es,ep,I.kIn a o lk,ex,d,fun e he=>q1 e (by simpa using he),q2,?_⟩
 have e:(List.zip (kvs.map fun p=>(Sum.inr p.1:Key)) (es.toList.map (·.val))).map (·.1)=kvs.map fun p=>(Sum.inr p.1:Key):=by
  rw[List.map_fst_zip];have:=Paired.length pr;simp only[List.length_map];walk_at "o"
 rw[e]
 have inj:∀ l:List (Str×V),(l.map (·.1)).Nodup→(l.map fun p=>(Sum.inr p.1:Key)).Nodup:=by
  intro l
  induction l with
  | nil=>intro _;exact List.nodup_nil
  | cons p r ih =>
   intro h;rw[List.map_cons,List.nodup_cons] at h;rw[List.map_cons,List.nodup_cons];refine⟨fun m=>h.1 ?_,ih h.2⟩;obtain⟨q,hq,eq⟩:=List.mem_map.mp m;exact List.mem_map.mpr ⟨q,hq,Sum.inr.inj eq⟩
 exact inj kvs D.nd
theorem Xa1 (kvs:List (Str×V)) (x:Str):valV (kvK kvs) (Sum.inr x)=kvs.lookup x:=by
 unfold valV kvK
 induction kvs with
 | nil=>rfl
 | cons p r ih =>
  rw[List.map_cons,List.find?_cons];obtain⟨k,v⟩:=p
  by_cases e:k=x
  ·subst e;simp[List.lookup_cons]
  ·have e1:¬ (Sum.inr k:Key)=Sum.inr x:=fun q=>e (Sum.inr.inj q)
   have e2:(x == k)=false:=beq_eq_false_iff_ne.mpr (Ne.symm e);simp only[decide_eq_false e1,List.lookup_cons,e2];exact ih
def tKD (kvs:List (Str×V)) (ti:TE):TE:=fun σ H Q=>ti σ H fun y H1=>∃ x v,y=.str x∧kvs.lookup x=some v∧Q v H1
theorem Zz4 {name:Str} {i:Expr} {ti:TE} {p pos:Pos} (D:KDict X.K X.w a kvs) (hg:Gl X name) (hm:X.mg name=some (.ref a)) (hi:PE X i ti) (hs:NoSl i:=by exact fun _ _=>rfl) (hd:(name == ("__debug__":Str))=false:=by decide) :
  PE X (.Subscript (.Name name p) i pos) (tKD kvs ti):=by
 intro pins s σ H Q I h;refine Ys4 PySem.F.slot_dict_getitem.lookup hs (Zk0 I hg hm (thn (hi pins s σ H _ I h) fun iv s2 ⟨y,H2,I2,ry,x,v,ey,hl,q2⟩=>?_) hd);subst ey;obtain⟨vs,rel,dd⟩:=D.of I2;obtain⟨w',hw,rw'⟩:=RelO.some_of (v:=v) (o:=valueAt vs (Sum.inr x)) (by rw[← hl,← Xa1];exact rel.val (Sum.inr x));exact⟨dd.typeIs,wpAny_getItem_of (Yv6 (k:=Sum.inr x) ry) dd.mapOf hw ⟨v,H2,I2.tok _,rw',q2⟩⟩
end
section
variable {X:Cx} {scope:Scope} {N':List Str}
theorem Zv7 {scope:Scope} {env:Env} (h:∀ y∈scope.names,y.2≠.free):(relabel scope env).names=scope.names:=by
 unfold relabel;simp only
 have aux:∀ l:List (Str×NameKind),(∀ y∈l,y.2≠.free)→l.map (fun (n,k)=>if (k == NameKind.free&&env.scope.kind == .function&&env.kindOf n == some .cell) then (n,NameKind.cell) else (n,k))=l:=by
  intro l
  induction l with
  | nil=>intro _;rfl
  | cons y r ih =>
   intro h;rw[List.map_cons,ih fun z hz=>h z (List.mem_cons_of_mem _ hz)];obtain⟨n,k⟩:=y
   have:(k == NameKind.free)=false:=by simpa using h (n,k) List.mem_cons_self
   simp[this]
 exact aux _ h
theorem blk0 (hc:∀ y∈scope.names,y.2≠.cell) (hf:∀ y∈scope.names,y.2≠.free) (hk:scope.kind=.function) (hn:∀ y∈scope.names,y.2=.local→scope.names.lookup y.1=some .local) (_:X.Ok):BlkOk X scope [] N' N'.length [] where
 clos:=closureFor_none hf
 cell:=hc
 kind:=hk
 names:=hn
 sub:=fun _ _ h=>by cases h
 has:=fun x h=>by
  rw[Zv7 hf] at h;rcases h with h | h
  ·exact absurd rfl (hc _ (PySem.mem_of_lookup h))
  ·exact absurd rfl (hf _ (PySem.mem_of_lookup h))
 len:=by simp
 cap:=fun j i h=>by simp at h
noncomputable def Zl0 (cells:List (Str×Addr)):List (Str×NameKind)→List (Str×Addr)→List (Str×Addr)
 | [],acc=>acc
 | (n,k) :: r,acc=>if k == .free then Zl0 cells r ((n,(cells.lookup n).getD 0) :: acc) else Zl0 cells r acc
theorem Yb2 {env:Env}:∀ (names:List (Str×NameKind)) (acc:List (Str×Addr)),(∀ y∈names,y.2=.free→∃ c,env.cells.lookup y.1=some c) →
  (forIn names acc fun (x:Str×NameKind) cs=>(match x with | (name,kind)=>if (kind == .free)=true then do let c ← cellOf env name;pure (ForInStep.yield ((name,c) :: cs)) else pure (ForInStep.yield cs):Sem (ForInStep (List (Str×Addr)))))=pure (Zl0 env.cells names acc)
 | [],acc,_=>rfl
 | (n,k) :: r,acc,h=>by
  rw[List.forIn_cons];unfold Zl0
  by_cases hk:(k == NameKind.free)=true
  ·obtain⟨c,hc⟩:=h (n,k) List.mem_cons_self (by simpa using hk)
   have e:cellOf env n=pure c:=by unfold cellOf;rw[show env.cells.lookup n=some c from hc]
   have hc':env.cells.lookup n=some c:=hc;simp only[hk,if_true,e,pure_bind,hc',Option.getD_some];exact Yb2 r _ fun y hy=>h y (List.mem_cons_of_mem _ hy)
  ·simp only[hk,if_false,pure_bind]
   exact Yb2 r acc fun y hy=>h y (List.mem_cons_of_mem _ hy)
theorem Zk3 {scope:Scope} {env:Env} (h:∀ y∈scope.names,y.2=.free→∃ c,env.cells.lookup y.1=some c):closureFor scope env=pure (Zl0 env.cells scope.names []):=by
 unfold closureFor;have e:=Yb2 (env:=env) scope.names [] h;simp only[bind_pure_comp] at e ⊢
 first
  | exact e
  | (rw[e];rfl)
  | (refine Eq.trans ?_ e;rfl)
theorem Zp4 {cells:List (Str×Addr)}:∀ {names:List (Str×NameKind)} {acc:List (Str×Addr)} {x:Str} {c:Addr},(x,c)∈Zl0 cells names acc→(x,c)∈acc∨((x,NameKind.free)∈names∧c=(cells.lookup x).getD 0)
 | [],acc,x,c,h=>.inl h
 | (n,k) :: r,acc,x,c,h=>by
  unfold Zl0 at h
  by_cases hk:(k == NameKind.free)=true
  ·rw[if_pos hk] at h
   have hk':k=.free:=by simpa using hk
   rcases Zp4 h with h | ⟨h1,h2⟩
   ·rcases List.mem_cons.mp h with e | h
    ·cases e
     subst hk';exact .inr ⟨List.mem_cons_self,rfl⟩
    ·exact .inl h
   ·exact .inr ⟨List.mem_cons_of_mem _ h1,h2⟩
  ·rw[if_neg hk] at h
   rcases Zp4 h with h | ⟨h1,h2⟩
   ·exact .inl h
   ·exact .inr ⟨List.mem_cons_of_mem _ h1,h2⟩
theorem Zp5 {cells:List (Str×Addr)}:∀ {names:List (Str×NameKind)} {acc:List (Str×Addr)} {x:Str},(x,NameKind.free)∈names∨(∃ c,(x,c)∈acc)→∃ c,(x,c)∈Zl0 cells names acc
 | [],acc,x,h=>by
  rcases h with h | h
  ·cases h
  ·exact h
 | (n,k) :: r,acc,x,h=>by
  unfold Zl0
  by_cases hk:(k == NameKind.free)=true
  ·rw[if_pos hk]
   refine Zp5 ?_;rcases h with h | ⟨c,h⟩
   ·rcases List.mem_cons.mp h with e | h
    ·cases e
     exact .inr ⟨_,List.mem_cons_self⟩
    ·exact .inl h
   ·exact .inr ⟨c,List.mem_cons_of_mem _ h⟩
  ·rw[if_neg hk]
   refine Zp5 ?_;rcases h with h | h
   ·rcases List.mem_cons.mp h with e | h
    ·cases e
     exact absurd (beq_self_eq_true NameKind.free) hk
    ·exact .inl h
   ·exact .inr h
theorem Zo8 {l:List (Str×Addr)} {x:Str} {c:Addr} (h:(x,c)∈l):∃ c',l.lookup x=some c':=by
 induction l with
 | nil=>cases h
 | cons p r ih =>
  obtain⟨n,a⟩:=p
  by_cases e:(x == n)=true
  ·exact⟨a,by simp[List.lookup_cons,e]⟩
  ·have e':(x == n)=false:=by simpa using e
   rcases List.mem_cons.mp h with h | h
   ·cases h;simp at e
   ·obtain⟨c',q⟩:=ih h
    exact⟨c',by simp only[List.lookup_cons,e'];exact q⟩
theorem Zl6 {env:Env}:∀ {names:List (Str×NameKind)} {x:Str} {k:NameKind},(names.map fun (n,k)=>if (k == NameKind.free&&env.scope.kind == .function&&env.kindOf n == some .cell) then (n,NameKind.cell) else (n,k)).lookup x=some k→(k=.cell∨k=.free)→(∀ y∈names,y.2≠.cell)→(x,NameKind.free)∈names
 | [],x,k,h,_,_=>by cases h
 | (n,j) :: r,x,k,h,hk,hc=>by
  rw[List.map_cons] at h
  by_cases e:(x == n)=true
  ·have e':x=n:=by simpa using e
   subst e';have hj:j≠.cell:=hc (x,j) List.mem_cons_self
   by_cases q:(j == NameKind.free&&env.scope.kind == .function&&env.kindOf x == some .cell)=true
   ·have:j=.free:=by
     rw[Bool.and_eq_true,Bool.and_eq_true] at q
     simpa using q.1.1
    subst this;exact List.mem_cons_self
   ·simp only[q,if_false,List.lookup_cons,beq_self_eq_true] at h
    have h':j=k:=by simpa using h
    subst h';rcases hk with z | z
    ·exact absurd z hj
    ·subst z;exact List.mem_cons_self
  ·have e':(x == n)=false:=by simpa using e
   refine List.mem_cons_of_mem _ (Zl6 (env:=env) (k:=k) ?_ hk fun y hy=>hc y (List.mem_cons_of_mem _ hy));have h':List.lookup x ((if (j == NameKind.free&&env.scope.kind == .function&&env.kindOf n == some .cell)=true then (n,NameKind.cell) else (n,j)) :: _)=some k:=h
   by_cases q:(j == NameKind.free&&env.scope.kind == .function&&env.kindOf n == some .cell)=true
   ·rw[if_pos q,List.lookup_cons,e'] at h';exact h'
   ·rw[if_neg q,List.lookup_cons,e'] at h';exact h'
theorem Zl7 {env:Env} {x:Str} (h1:env.scope.kind=.function) (h2:env.kindOf x=some .cell):∀ {names:List (Str×NameKind)},names.lookup x=some .free→(names.map fun (n,k)=>if (k == NameKind.free&&env.scope.kind == .function&&env.kindOf n == some .cell) then (n,NameKind.cell) else (n,k)).lookup x=some .cell
 | [],h=>by cases h
 | (n,j) :: r,h=>by
  rw[List.map_cons]
  by_cases e:(x == n)=true
  ·have e':x=n:=by simpa using e
   subst e';simp only[List.lookup_cons,beq_self_eq_true] at h
   have hj:j=.free:=by simpa using h
   subst hj
   have q:((NameKind.free == NameKind.free)&&env.scope.kind == .function&&env.kindOf x == some .cell)=true:=by rw[h1,h2];rfl
   show List.lookup x ((if ((NameKind.free == NameKind.free)&&env.scope.kind == .function&&env.kindOf x == some .cell)=true then (x,NameKind.cell) else (x,NameKind.free)) :: _)=_;rw[if_pos q,List.lookup_cons,beq_self_eq_true]
  ·have e':(x == n)=false:=by simpa using e
   simp only[List.lookup_cons,e'] at h
   by_cases q:(j == NameKind.free&&env.scope.kind == .function&&env.kindOf n == some .cell)=true
   ·show List.lookup x ((if (j == NameKind.free&&env.scope.kind == .function&&env.kindOf n == some .cell)=true then (n,NameKind.cell) else (n,j)) :: _)=_
    rw[if_pos q,List.lookup_cons,e'];exact Zl7 h1 h2 h
   ·show List.lookup x ((if (j == NameKind.free&&env.scope.kind == .function&&env.kindOf n == some .cell)=true then (n,NameKind.cell) else (n,j)) :: _)=_
    rw[if_neg q,List.lookup_cons,e'];exact Zl7 h1 h2 h
noncomputable def Xy3 (N':List Str) (nt:Nat) (ci:List Nat) (Xn:List Str) (fsc scope:Scope):Bool :=
 (List.range ci.length).all fun j=>match ci[j]?,N'[nt+j]? with
  | some i,some x=>Xn[i]? == some x&&fsc.names.lookup x == some .cell&&scope.names.lookup x == some .free
  | _,_=>false
theorem blkC {nt:Nat} {ci:List Nat} (Xn:List Str) (fsc:Scope) (hN:X.N=Xn) (hs:X.env.scope=fsc) (hc:∀ y∈scope.names,y.2≠.cell) (hk:scope.kind=.function) (hn:∀ y∈scope.names,y.2=.local→scope.names.lookup y.1=some .local)
  (hfr:∀ y∈scope.names,y.2=.free→fsc.names.lookup y.1=some .cell) (hl:N'.length=nt+ci.length) (cap:Xy3 N' nt ci Xn fsc scope=true) (ok:X.Ok):BlkOk X scope (Zl0 X.env.cells scope.names []) N' nt ci:=by
 have fr:∀ y∈scope.names,y.2=.free→∃ c,X.env.cells.lookup y.1=some c:=fun y hy e=>ok.has y.1 (.inl (by show X.env.scope.names.lookup y.1=_;rw[hs];exact hfr y hy e))
 have sub:∀ x c,(Zl0 X.env.cells scope.names []).lookup x=some c→X.env.cells.lookup x=some c:=fun x c h=>by
  rcases Zp4 (PySem.mem_of_lookup h) with z | ⟨z1,z2⟩
  ·cases z
  ·obtain⟨c',e⟩:=fr _ z1 rfl
   rw[show X.env.cells.lookup x=some c' from e] at z2 ⊢;rw[z2];rfl
 refine⟨Zk3 fr,hc,hk,hn,sub,fun x h=>?_,hl,fun j i h=>?_⟩
 ·have hm:(x,NameKind.free)∈scope.names:=by
   rcases h with h | h
   ·exact Zl6 h (.inl rfl) hc
   ·exact Zl6 h (.inr rfl) hc
  obtain⟨c,q⟩:=Zp5 (cells:=X.env.cells) (acc:=[]) (.inl hm);exact Zo8 q
 ·unfold Xy3 at cap
  rw[List.all_eq_true] at cap;have hj:j < ci.length:=(List.getElem?_eq_some_iff.mp h).1;have q:=cap j (List.mem_range.mpr hj);rw[h] at q
  cases e:N'[nt+j]? with
  | none=>rw[e] at q;cases q
  | some x =>
   rw[e] at q;simp only[Bool.and_eq_true,beq_iff_eq] at q;refine⟨x,rfl,by rw[hN];exact q.1.1,by rw[hs];exact q.1.2,.inl (Zl7 ok.kind ?_ q.2)⟩;show X.env.scope.names.lookup x=_;rw[hs];exact q.1.2
end
theorem Same.sqt {K:W.Frag} {H H':Hp} {a:Addr} {xs:List V} (e:Same H H') (h:SqT K H a xs):SqT K H' a xs:=by
 rcases h with (h | ⟨o,h⟩) | h
 ·exact .inl (.inl (e _ _ h))
 ·exact .inl (.inr ⟨o,e _ _ h⟩)
 ·exact .inr h
theorem Same.keepT {K:W.Frag} {H H':Hp} (e:Same H H'):KeepT K H H':=fun _ _ h=>e.sqt h
theorem Za5 {H:Hp} {p:Addr} (h:H p=none) (o:HO):Same H (upd H p o):=fun b u q=>by rw[Zb0 (Zb6 q h)];exact q
theorem KeepT.trans {K:W.Frag} {H H1 H2:Hp} (a:KeepT K H H1) (b:KeepT K H1 H2):KeepT K H H2:=fun x xs h=>b x xs (a x xs h)
theorem KeepT.refl {K:W.Frag} (H:Hp):KeepT K H H:=fun _ _ h=>h
theorem Zj4 {K:W.Frag} {H:Hp} {l:Addr} {xs:List V} {o:HO} (h:H l=some (.lst xs)):KeepT K H (upd H l o):=fun a ys q=>by
 rcases q with (q | ⟨ob,q⟩) | q
 ·exact .inl (.inl (by rw[Zb0 (Xj5 q h (by intro z;cases z))];exact q))
 ·exact .inl (.inr ⟨ob,by rw[Zb0 (Xj5 q h (by intro z;cases z))];exact q⟩)
 ·exact .inr q
theorem Yf3 {K:W.Frag} {H:Hp} {l:Addr} {o:HO} (h:H l=none):KeepT K H (upd H l o):=(Za5 h o).keepT
theorem Same.write {H0 H:Hp} {l:Addr} {o:HO} (e:Same H0 H) (h:H0 l=none):Same H0 (upd H l o):=fun b u q=>by
 rw[Zb0 (Zb6 q h)];exact e b u q
theorem Xo0 {K:W.Frag} {H:Hp} {l a:Addr} {xs:List V} {o:HO} (q:SqL K H a xs) (h:a≠l):SqL K (upd H l o) a xs:=by
 rcases q with (q | ⟨ob,q⟩) | q
 ·exact .inl (.inl (by rw[Zb0 h];exact q))
 ·exact .inl (.inr ⟨ob,by rw[Zb0 h];exact q⟩)
 ·exact .inr q
theorem Zx3 (CX:CXT) (P:Program) (w:World) (K:W.Frag) (mg:Str→Option Value) (base:Heap) (N:List Str) (qual:Str) (scope:Scope) (f:Addr) (cd:Value) (A:Around) (outer:List Env) (s:Shared) (H:Hp) (E:XK):(cxOf CX P w K mg base N qual scope f cd A outer s H E).K=K:=rfl
theorem Yq3 (X:Cx) (N':List Str) (scope:Scope) (cl:List (Str×Addr)) (s:Shared) (H:Hp) (C:Addr) (ex:List Addr):(blk X N' scope cl s H C ex).K=X.K:=rfl
theorem Zy7 (a b:Int):scal (.int a) (.int b)=true:=rfl
theorem Zs1 (a b:Str):scal (.str a) (.str b)=true:=rfl
theorem Yh8 (a b:Bool):scal (.bl a) (.bl b)=true:=rfl
theorem Ya2 {i j:Int} (h1:-(2 ^ 64) < i) (h2:i < 2 ^ 64):CMul i j:=.inl ⟨h1,h2⟩
theorem Ye2 {i j:Int} (h1:-(2 ^ 64) < j) (h2:j < 2 ^ 64):CMul i j:=.inr ⟨h1,h2⟩
theorem Yk9 {t u:TS} {D:Ends} {σ:St} {H:Hp} (R:St→Hp→Prop) (rest:∀ σ' H',R σ' H'→u D σ' H') (first:∀ C:St→Hp→Prop,(∀ σ' H',R σ' H'→C σ' H')→t { D with nx:=C } σ H):tSeq t u D σ H:=first (u D) rest
theorem sqt {t u:TS} {D:Ends} {σ:St} {H:Hp} (R:St→Hp→Prop) (first:∀ C:St→Hp→Prop,(∀ σ' H',R σ' H'→C σ' H')→t { D with nx:=C } σ H) (rest:∀ σ' H',R σ' H'→u D σ' H'):tSeq t u D σ H:=first (u D) rest
theorem Yf0 {K:W.Frag} {σ0:St} {n:Nat} {lo:Int} {acc:Addr} {g:TG} {te:TE} {Q:VK} {H:Hp} (Pv:Nat→List V→Hp→Prop) (h0:Pv 0 [] (upd H acc (.lst []))) (hl:∀ i ys H2,i≤n→Pv i ys H2→H2 acc=some (.lst ys)∧ys.length < sizeLine)
  (hs:∀ i ys H2,i < n→Pv i ys H2→∀ C:VK,(∀ y H5,H5 acc=some (.lst ys)→Pv (i+1) (ys++[y]) (upd H5 acc (.lst (ys++[y])))→C y H5)→g (.int (lo+i)) σ0 H2 fun σ4 H4=>Wk σ0 σ4∧te σ4 H4 C) (hd:∀ ys H2,Pv n ys H2→Q (.ref acc) H2) :
  ∃ W:Nat→Nat→List V→Hp→Prop,(∃ m,W 0 m [] (upd H acc (.lst [])))∧lcW K σ0 (Itr lo n) acc g te Q W:=by
 refine⟨fun i m ys H2=>m=n - i∧i≤n∧Pv i ys H2,⟨n,by simp,Nat.zero_le _,h0⟩,?_⟩;rintro i m ys H2 ⟨rfl,hi,p⟩;obtain⟨a,b⟩:=hl i ys H2 hi p;refine⟨a,b,?_⟩
 by_cases hlt:i < n
 ·refine .inr ⟨hlt,fun x H3 y=>?_⟩
  obtain⟨e,y⟩:=y;subst e y;exact hs i ys _ hlt p _ fun v H5 z1 z2=>⟨z1,n - (i+1),by walk_at "o",rfl,hlt,z2⟩
 ·have e:i=n:=by walk_at "o"
  subst e;exact .inl ⟨Nat.le_refl _,hd ys H2 p⟩
theorem Zx4 (x y:Str):(x++y).cps.toList=x.cps.toList++y.cps.toList:=by
 show (x.cps++y.cps).toList=_;simp
theorem Xj6 (x:Str):x.length=x.cps.toList.length:=by simp[Str.length]
theorem Zw9 {α:Type} {x:Str}:∀ {l:List (Str×α)},(∀ v,(x,v) ∉ l)→l.lookup x=none
 | [],_=>rfl
 | (y,v) :: l,h=>by
  have hy:x≠y:=fun e=>h v (by rw[e];exact List.mem_cons_self);rw[List.lookup_cons,show (x == y)=false from by simpa using hy];exact Zw9 fun v hv=>h v (List.mem_cons_of_mem _ hv)
theorem Zm7:∀ {ps:List Str} {us:List Value} {i:Nat} {x:Str} {u:Value},ps.Nodup→ps[i]?=some x→us[i]?=some u→(ps.zip us).reverse.lookup x=some u
 | [],_,_,_,_,_,h,_=>by simp at h
 | _ :: _,[],_,_,_,_,_,h=>by simp at h
 | p :: ps,w :: us,0,x,u,nd,h1,h2=>by
  simp at h1 h2;subst h1;subst h2;rw[List.zip_cons_cons,List.reverse_cons,List.lookup_append,Zw9 (fun v hv=>(List.nodup_cons.mp nd).1 (List.of_mem_zip (List.mem_reverse.mp hv)).1)];simp
 | p :: ps,w :: us,i+1,x,u,nd,h1,h2=>by
  have ih:=Zm7 (List.nodup_cons.mp nd).2 (show ps[i]?=some x by simpa using h1) (show us[i]?=some u by simpa using h2);rw[List.zip_cons_cons,List.reverse_cons,List.lookup_append,ih];rfl
structure FnScopeC (N ps fv:List Str) (sc:Scope):Prop where
 kind:sc.kind=.function
 co:sc.isCoroutine=false
 gen:sc.isGenerator=false
 nd:N.Nodup
 pre:N.take (ps++fv).length=ps++fv
 par:∀ x∈ps,sc.names.lookup x=some .local
 fr:∀ x∈fv,sc.names.lookup x=some .free
 nocell:∀ y∈sc.names,y.2≠.cell
structure Caught (K:W.Frag) (sc:Scope) (cl:List (Str×Addr)) (fv:List Str) (frv:List V):Prop where
 len:frv.length=fv.length
 cell:∀ (i:Nat) (x:Str) (v:V),fv[i]?=some x→frv[i]?=some v→∃ c o u,cl.lookup x=some c∧K.lookup c=some o∧o.data=.cell (some u)∧RelV v u
 all:∀ x c,cl.lookup x=some c→∃ o v,K.lookup c=some o∧o.data=.cell v
 inj:∀ x y c,cl.lookup x=some c→cl.lookup y=some c→x=y
 has:∀ x,sc.names.lookup x=some .free→∃ c,cl.lookup x=some c
noncomputable def cxC (CX:CXT) (P:Program) (w:World) (K:W.Frag) (mg:Str→Option Value) (base:Heap) (N:List Str) (qual:Str) (scope:Scope) (f:Addr) (cd:Value) (cl:List (Str×Addr)) (A:Around) (outer:List Env) (s:Shared) (H:Hp) (E:XK):Cx where
 prog:=P
 w:=w
 K:=K
 mg:=mg
 base:=base
 A:=A.deeper (W.envX qual scope s.heap.objs.size f cd cl)
 N:=N
 s₀:=s
 H₀:=H
 env:=W.envX qual scope s.heap.objs.size f cd cl
 outer:=outer
 stack:=W.envX qual scope s.heap.objs.size f cd cl :: outer
 ex:=[]
 calm:=true
 fn:=fun _=>false
 pn:=[]
 xe:=fun e s'=>wpAny (model P w) (A.deeper (W.envX qual scope s.heap.objs.size f cd cl)) (leaving (W.envX qual scope s.heap.objs.size f cd cl) e) (fun _ s''=>CX outer H s E e s'') (fun e' s''=>CX outer H s E e' s'') s'
theorem Yp4 {CX:CXT} {P:Program} {w:World} {K:W.Frag} {mg:Str→Option Value} {base:Heap} {N ps fv:List Str} {qual:Str} {scope:Scope} {f:Addr} {cd:Value} {cl:List (Str×Addr)} {A:Around} {outer:List Env} {s:Shared} {H:Hp} {E:XK} {us:List Value} {vs frv:List V} {h1:Heap} {tk:Nat}
  (S:FnScopeC N ps fv scope) (C:Caught K scope cl fv frv) (hd:A.handled=none) (e0:Env0 P w K mg base A outer s H) (hl:vs.length=ps.length) (r:Vals vs us)
  (ns:h1.Ns s.heap.objs.size fun x=>(ps.zip us).reverse.lookup x) (hk:∀ b o,s.heap.get? b=some o→h1.get? b=some o) :
  Inv (cxC CX P w K mg base N qual scope f cd cl A outer s H E) [] (start N (vs++frv)) H { s with heap:=h1,toks:=tk }:=by
 have hpl:(ps++fv).length≤N.length:=by have:=congrArg List.length S.pre;rw[List.length_take] at this;walk_at "o"
 have noA:∀ b:Addr,b ∉ (cxC CX P w K mg base N qual scope f cd cl A outer s H E).ex:=fun b z=>absurd (show b∈([]:List Addr) from z) (by simp)
 have hlen:(vs++frv).length=(ps++fv).length:=by rw[List.length_append,List.length_append,hl,C.len]
 have kin:∀ c o,K.lookup c=some o→s.heap.get? c=some o∧H c=none:=fun c o e=>e0.bs c o (e0.mod.kin c o e)
 refine⟨⟨e0.mod,S.kind,rfl,rfl,Nat.le_refl _,C.inj,fun y hy=>?_,fun y c z _=>(nomatch (show false=true from z)),fun _=>hd,Around.frames_deeper e0.frames,.inr ⟨rfl,rfl⟩,fun b z=>absurd z (noA b),e0.bs,e0.bsz,fun b _ _=>noA b,fun b z=>absurd z (noA b),e0.funs,e0.frf⟩,
  rfl,e0.bare,Un.kept hk,⟨_,ns,fun i y v h1 h2 h3=>?_⟩,fun y c h=>?_,e0.hok.fresh (Nat.le_refl _),fun y c h=>?_,fun p hp=>absurd (show p∈([]:List (Addr×Obj)) from hp) (by simp),e0.hok.kept hk,?_⟩
 ·have hy:scope.names.lookup y=some .cell∨scope.names.lookup y=some .free:=hy
  rcases hy with hy | hy
  ·exact absurd rfl (S.nocell _ (PySem.mem_of_lookup hy))
  ·exact C.has y hy
 ·have hi:i < (vs++frv).length:=by
   unfold start at h2
   by_cases hi:i < (vs++frv).length
   ·exact hi
   ·rw[List.getElem?_append_right (by simpa using hi)] at h2
    rw[List.getElem?_replicate] at h2
    split at h2<;>cases h2
  have ha:(vs++frv)[i]?=some v:=by
   unfold start at h2;rw[List.getElem?_append_left (by simpa using hi),List.getElem?_map] at h2
   cases e:(vs++frv)[i]? with
   | none=>rw[e] at h2;cases h2
   | some a=>rw[e] at h2;cases h2;rfl
  have hp:(ps++fv)[i]?=some y:=by
   rw[← S.pre,List.getElem?_take_of_lt (by walk_at "o")];exact h1
  have ndP:(ps++fv).Nodup:=by rw[← S.pre];exact S.nd.sublist (List.take_sublist _ _)
  by_cases hv:i < vs.length
  ·rw[List.getElem?_append_left hv] at ha
   rw[List.getElem?_append_left (by walk_at "o")] at hp;obtain⟨u,hu,rv⟩:=r.get ha;exact⟨u,rv,.inl ⟨S.par y (List.mem_of_getElem? hp),Zm7 (ndP.sublist (List.sublist_append_left _ _)) hp hu⟩⟩
  ·rw[List.getElem?_append_right (by walk_at "o")] at ha
   rw[List.getElem?_append_right (by walk_at "o"),← hl] at hp;obtain⟨c,o,u,e1,e2,e3,rv⟩:=C.cell _ y v hp ha;refine⟨u,rv,.inr ⟨.inr (S.fr y (List.mem_of_getElem? hp)),c,e1,o,hk c o (kin c o e2).1,e3⟩⟩
 ·obtain⟨o,v,e1,e2⟩:=C.all y c h
  exact⟨v,o,hk c o (kin c o e1).1,e2⟩
 ·obtain⟨o,v,e1,e2⟩:=C.all y c h
  exact (kin c o e1).2
 ·unfold start
  show _=N.length;rw[List.length_append,List.length_map,List.length_replicate];walk_at "o"
theorem Xx8 {CX:CXT} {P:Program} {w:World} {K:W.Frag} {mg:Str→Option Value} {base:Heap} {k:Nat} {f:Addr} {name qual:Str} {params:Arguments} {body:List Stmt} {scope:Scope} {cl:List (Str×Addr)} {doc pm cdv ct oc:Value} {od:Option Addr}
  {osl:Array (Option Value)} {N ps fv:List Str} {frv:List V} {sp:Sp} (lk:K.lookup f=some ⟨oc,od,.func (W.fnX name qual params body scope cl .none .none doc pm none cdv ct),osl⟩) (hcd:W.codeIn K cdv qual=true) (S:FnScopeC N ps fv scope) (C:Caught K scope cl fv frv)
  (len:∀ vs H Q E,sp vs H Q E→vs.length=ps.length)
  (hbody:∀ (A:Around) (outer:List Env) (s:Shared) (H:Hp) (vs:List V) (Q:VK) (E:XK),Room k (A.deeper (W.envX qual scope s.heap.objs.size f cdv cl))→sp vs H Q E →
   ∃ t,PSs (cxC CX P w K mg base N qual scope f cdv cl A outer s H E) body t∧t { nx:=fun _ H'=>Q .non H',rt:=Q } (start N (vs++frv)) H) :
  FnOk P w K mg base CX (k+1) f (W.fnX name qual params body scope cl .none .none doc pm none cdv ct) ps sp:=by
 refine⟨len,fun A outer s H args us vs Q E hr e0 hb r hsp=>?_⟩;have hl:=len _ _ _ _ hsp;have KX:K.In s.heap:=e0.mod.kin.keeps fun b o e=>(e0.bs b o e).1;have lim:s.heap.NoLimit:=e0.mod.nolimit.keeps fun b o e=>(e0.bs b o e).1;refine codeAny_call_function hr.depth (KX _ _ lk) rfl S.co S.gen rfl (W.codeRec_of KX hcd) (hb _ _ _ _ ?_);refine wpAny_newFunctionEnv S.nocell (fun⟨n,v⟩ hy=>S.par n (List.of_mem_zip hy).1) (fun h1 ns sb=>?_) S.kind
 have hk:∀ b o,s.heap.get? b=some o→h1.get? b=some o:=fun b o e=>by
  rw[sb.2 b (Nat.ne_of_lt (Heap.lt_size e))];exact Heap.get?_push_of_some _ e
 refine⟨lim.keeps hk,codeAny_func ?_⟩;obtain⟨t,ht,hq⟩:=hbody A outer s H vs Q E (hr.deeper _) hsp;have I:Inv (cxC CX P w K mg base N qual scope f cdv cl A outer s H E) [] (start N (vs++frv)) H { s with heap:=h1,toks:=s.toks+(ps.zip us).length }:=Yp4 S C hr.hd e0 hl r ns hk;refine wpAny_mono (ht [] _ (start N (vs++frv)) H _ I hq) (fun fl s' hs=>?_) fun e s' hs=>hs
 have fin:∀ {σ':St} {H':Hp} {v:V} {u:Value},Inv (cxC CX P w K mg base N qual scope f cdv cl A outer s H E) [] σ' H' s'→RelV v u→Q v H'→CE outer P w H s Q u s' :=
  fun {σ' H' v u} J rv q=>⟨v,H',J.os,J.bare,J.base,J.hok,rv,q⟩
 cases fl with
 | ret u =>
  obtain⟨v,σ',H',J,rv,q⟩:=hs;exact fin J rv q
 | next =>
  obtain⟨σ',H',J,q⟩:=hs;exact fin (v:=V.non) (u:=Value.none) J rfl q
 | brk =>
  obtain⟨_,_,_,q⟩:=hs;exact False.elim q
 | cont =>
  obtain⟨_,_,_,q⟩:=hs;exact False.elim q
noncomputable abbrev FZ (o:Obj):HO:=.frz o (.ext fun _=>True)
def SameT (H H':Hp):Prop:=∀ b o,(∀ ps,o≠.tbl ps)→H b=some o→H' b=some o
theorem SameT.refl (H:Hp):SameT H H:=fun _ _ _ h=>h
theorem SameT.trans {H H1 H2:Hp} (a:SameT H H1) (b:SameT H1 H2):SameT H H2:=fun c o n h=>b c o n (a c o n h)
theorem Same.toT {H H':Hp} (a:Same H H'):SameT H H':=fun c o _ h=>a c o h
structure SameU (P:Addr) (H H':Hp):Prop where
 toT:SameT H H'
 off:∀ b o,b≠P→H b=some o→H' b=some o
 tab:∀ o,H P=some o→∃ o',H' P=some o'
theorem SameU.trans {P:Addr} {H H1 H2:Hp} (a:SameU P H H1) (b:SameU P H1 H2):SameU P H H2 :=
 ⟨a.toT.trans b.toT,fun c o n h=>b.off c o n (a.off c o n h),fun o h=>by obtain⟨o',h'⟩:=a.tab o h;exact b.tab o' h'⟩
theorem Same.toU {P:Addr} {H H':Hp} (a:Same H H'):SameU P H H':=⟨a.toT,fun c o _ h=>a c o h,fun o h=>⟨o,a _ _ h⟩⟩
def CodeFz (H:Hp) (cv:Value) (q:Str):Prop:=∃ c o vs t,cv=.ref c∧H c=some (FZ o)∧o.data=.fields vs∧vs[1]?=some (.str q t)
theorem CodeFz.keep {H H':Hp} {cv:Value} {q:Str} (h:CodeFz H cv q) (k:SameT H H'):CodeFz H' cv q:=by
 obtain⟨c,o,vs,t,h1,h2,h3,h4⟩:=h;exact⟨c,o,vs,t,h1,k c _ (fun _ z=>nomatch z) h2,h3,h4⟩
def TabOk (H:Hp) (P:Addr) (ds:List (Pos×Str)):Prop :=
 ∃ ps,H P=some (.tbl ps)∧TriplesOk ps.toList∧∀ d∈ds,∀ cv,codeAmong d.1 ps.toList=some cv→CodeFz H cv d.2
theorem TabOk.keep {H H':Hp} {P:Addr} {ds:List (Pos×Str)} (h:TabOk H P ds) (k:Same H H'):TabOk H' P ds:=by
 obtain⟨ps,h1,h2,h3⟩:=h;exact⟨ps,k _ _ h1,h2,fun d hd cv e=>(h3 d hd cv e).keep k.toT⟩
theorem TabOk.new {H:Hp} {P:Addr} {ds:List (Pos×Str)} (h:H P=some (.tbl #[])):TabOk H P ds :=
 ⟨#[],h,trivial,fun d _ cv e=>by
  have e':(none:Option Value)=some cv:=e
  cases e'⟩
def FnFz (H:Hp) (f:Addr) (name qual:Str) (params:Arguments) (body:List Stmt) (scope:Scope) (cl:List (Str×Addr)):Prop :=
 ∃ doc pm ct cv,H f=some (FZ { cls:=.type "function",data:=.func (W.fnX name qual params body scope cl .none .none doc pm none cv ct) })∧CodeFz H cv qual
theorem FnFz.keep {H H':Hp} {f:Addr} {name qual:Str} {params:Arguments} {body:List Stmt} {scope:Scope} {cl:List (Str×Addr)} (h:FnFz H f name qual params body scope cl) (k:SameT H H'):FnFz H' f name qual params body scope cl:=by
 obtain⟨doc,pm,ct,cv,h1,h2⟩:=h;exact⟨doc,pm,ct,cv,k _ _ (fun _ z=>nomatch z) h1,h2.keep k⟩
theorem Zt0:∀ {l m:List Value},TriplesOk l→TriplesOk m→TriplesOk (l++m)
 | [],m,_,h=>h
 | .int i a :: .int j b :: c :: r,m,h,h'=>by
  show TriplesOk (.int i a :: .int j b :: c :: (r++m));exact Zt0 (l:=r) h h'
theorem Zp3 {pos:Pos}:∀ {l m:List Value},TriplesOk l→codeAmong pos (l++m)=(codeAmong pos l).or (codeAmong pos m)
 | [],m,_=>by simp[codeAmong]
 | .int i a :: .int j b :: c :: r,m,h=>by
  show codeAmong pos (.int i a :: .int j b :: c :: (r++m))=_;rw[codeAmong,codeAmong]
  split
  ·rfl
  ·exact Zp3 (l:=r) h
theorem Xd2 {P:Program} {w:World} {H:Hp} {h:Heap} {a:Addr} {o:Obj} (e:h.get? a=some o):ObjOk P w H h a (FZ o):=⟨e,trivial,⟨o,e⟩,fun _ _ _ _=>trivial⟩
def tDef (i:Nat) (name qual:Str) (params:Arguments) (body:List Stmt) (scope:Scope) (cl:List (Str×Addr)) (P:Addr) (ds:List (Pos×Str)):TS:=fun D σ H =>
 TabOk H P ds∧∀ f H',H f=none→SameU P H H'→TabOk H' P ds→FnFz H' f name qual params body scope cl→D.nx (σ.set i (some (.ref f))) H'
theorem Xq4 {X:Cx} {i:Nat} {name qual:Str} {params:Arguments} {body:List Stmt} {scope:Scope} {pos:Pos} {cl:List (Str×Addr)} {c P:Addr} {ds:List (Pos×Str)}
  (hN:X.N.Nodup) (hi:X.N[i]?=some name) (hx:Loc X.env.scope name) (hcl:closureFor scope X.env=pure cl) (hc:X.env.code=.ref c) (hC:∀ h,X.K.In h→W.CodeHd h c P) (hB:∀ h,X.K.In h→h.BuiltinsAt X.mg P) (hP:mainGlobals≠P)
  (hq:qualnameIn X.env name name=qual) (hd:(pos,qual)∈ds) (hds:∀ d∈ds,d.1.line=pos.line→d.1.col=pos.col→d.2=qual)
  (h1:params.defaults=[]) (h2:params.kw_defaults=[]) (h3:annTrees params none X.env=[])
  (hf:X.fn name=true∨X.env.scope.names.lookup name=some .local:=by first | exact .inl rfl | exact .inr rfl | assumption) :
  PS X (.FunctionDef name params body [] none [] scope none name pos) (tDef i name qual params body scope cl P ds):=by
 intro pins s σ H D I h;obtain⟨⟨ps,hp,ht,hcs⟩,q⟩:=h;refine W.nestDef_K h1 h2 h3 ?_;rw[hq];have kX:=I.kIn;have hPs:s.heap.get? P=some (W.tabObj ps):=I.hok P _ hp
 have mgs:s.heap.Ns mainGlobals X.mg:=by
  obtain⟨o,es,ep,e,d,r⟩:=I.ok.mod.glob;exact⟨o,es,ep,I.bk _ _ e,d,r⟩
 have fin:∀ {H':Hp} {s':Shared} {f:Addr},Inv X pins σ H' s'→H f=none→SameU P H H'→TabOk H' P ds→FnFz H' f name qual params body scope cl →
   wpAny (model X.prog X.w) X.A (storeName X.env name (.ref f)) (fun _ s''=>SP X pins D .next s'') X.xe s':=fun {H' s' f} J g1 g2 g3 g4 =>
  Zi4 (v:=.ref f) J hN hi hx rfl (fun s'' J'=>⟨_,_,J',q f H' g1 g2 g3 g4⟩) hf
 cases hm:codeAmong pos ps.toList with
 | some cv =>
  refine W.makeFunction_hit hcl I.ok.glob mgs hc (hC _ kX) hPs ht hm (hB _ kX) fun ctv doc h' tk hk hsz=>?_
  have kk:∀ b o,s.heap.get? b=some o→(h'.push { cls:=Value.type "function",data:=Data.func (W.fnX name qual params body scope cl Value.none Value.none doc ((X.mg (Str.ofString "__name__")).getD Value.none) none cv ctv) }).get? b=some o :=
   fun b o e=>Heap.get?_push_of_some _ (hk b o e)
  have hn:H h'.objs.size=none:=I.hok.fresh hsz;have J:=I.laid (a:=h'.objs.size) (o:=FZ _) (t':=tk) kk hsz (Xd2 (Heap.get?_push_size _ rfl))
  have e1:Same H (upd H h'.objs.size (FZ { cls:=Value.type "function",data:=Data.func (W.fnX name qual params body scope cl Value.none Value.none doc ((X.mg (Str.ofString "__name__")).getD Value.none) none cv ctv) })):=fun b u z=>by rw[Zb0 (Zb6 z hn)];exact z
  exact fin J hn e1.toU (TabOk.keep ⟨ps,hp,ht,hcs⟩ e1) ⟨_,_,_,_,Za4,(hcs _ hd cv hm).keep e1.toT⟩
 | none =>
  refine W.makeFunction_K hcl I.ok.glob mgs hc (hC _ kX) hPs ht hm hP (hB _ kX) fun c' ctv doc h' tk ext hc1 hc2 hcr htab=>?_;obtain⟨c2,co,vs,t,e1,e2,e3,e4⟩:=hcr;cases e1;have hPl:P < s.heap.objs.size:=Heap.lt_size hPs
  have hsz:s.heap.objs.size≤h'.objs.size:=by walk_at "o"
  have nf:H h'.objs.size=none:=I.hok.fresh hsz;have nc:H c'=none:=I.hok.fresh hc1
  have ncf:c'≠h'.objs.size:=by walk_at "o"
  have nPc:P≠c':=Nat.ne_of_lt (Nat.lt_of_lt_of_le hPl hc1);have nPf:P≠h'.objs.size:=Nat.ne_of_lt (Nat.lt_of_lt_of_le hPl hsz);generalize hfo:({ cls:=Value.type "function",data:=Data.func (W.fnX name qual params body scope cl Value.none Value.none doc ((X.mg (Str.ofString "__name__")).getD Value.none) none (Value.ref c') ctv) }:Obj)=fo;generalize htr:ps++#[rawInt (pos.line:Int),rawInt (pos.col:Int),Value.ref c']=ps';rw[htr] at htab
  have hps':ps'.toList=ps.toList++[rawInt (pos.line:Int),rawInt (pos.col:Int),Value.ref c']:=by rw[← htr];simp
  have gk:∀ b o,b≠P→s.heap.get? b=some o→(h'.push fo).get? b=some o:=fun b o hb e=>Heap.get?_push_of_some _ (ext b o hb e)
  have oP:∀ b,b≠P→b≠c'→b≠h'.objs.size→(upd (upd (upd H P (.tbl ps')) c' (FZ co)) h'.objs.size (FZ fo)) b=H b:=fun b n1 n2 n3=>by rw[Zb0 n3,Zb0 n2,Zb0 n1]
  have oPP:(upd (upd (upd H P (.tbl ps')) c' (FZ co)) h'.objs.size (FZ fo)) P=some (.tbl ps'):=by rw[Zb0 nPf,Zb0 nPc,Za4]
  have oc:(upd (upd (upd H P (.tbl ps')) c' (FZ co)) h'.objs.size (FZ fo)) c'=some (FZ co):=by rw[Zb0 ncf,Za4]
  have of':(upd (upd (upd H P (.tbl ps')) c' (FZ co)) h'.objs.size (FZ fo)) h'.objs.size=some (FZ fo):=Za4;generalize (upd (upd (upd H P (.tbl ps')) c' (FZ co)) h'.objs.size (FZ fo))=H' at oP oPP oc of'
  have tr:∀ b u,(∀ ps,u≠HO.tbl ps)→H b=some u→H' b=some u:=fun b u nu z=>by
   rw[oP b (fun w=>nu ps (by rw[w,hp] at z;exact (Option.some.inj z).symm)) (Zb6 z nc) (Zb6 z nf)];exact z
  have hok:HOk X.prog X.w H' (h'.push fo):=fun b u z=>by
   by_cases b1:b=h'.objs.size
   ·subst b1;rw[of'] at z;cases z;exact Xd2 (Heap.get?_push_size _ (by rw[← hfo];rfl))
   by_cases b2:b=c'
   ·subst b2;rw[oc] at z;cases z;exact Xd2 (Heap.get?_push_of_some _ e2)
   by_cases b3:b=P
   ·subst b3;rw[oPP] at z;cases z;exact Heap.get?_push_of_some _ htab
   rw[oP b b3 b2 b1] at z;refine (I.hok b u z).stay (fun d v hd e=>gk d v (fun w=>?_) e) (fun d z=>tr d _ (fun _ q=>nomatch q) z) fun d xs z=>tr d _ (fun _ q=>nomatch q) z;rcases hd with hd | hd
   ·exact b3 (hd.symm.trans w)
   ·rw[w,hp] at hd;cases hd
  have un:Un X.fs [] H H' s.heap (h'.push fo):=by
   refine⟨fun b o e n _ _=>gk b o (fun w=>by rw[w,hp] at n;cases n) e,fun b o e n _ _=>⟨o.slots,gk b o (fun w=>by rw[w,hp] at n;cases n) e⟩,fun b o e n _=>?_,fun b o e _=>?_,fun b xs z=>tr b _ (fun _ q=>nomatch q) z,fun b o u z=>tr b _ (fun _ q=>nomatch q) z,fun b ps2 z=>?_⟩
   ·rw[oP b (fun w=>by rw[w,hp] at n;cases n) (Nat.ne_of_lt (Nat.lt_of_lt_of_le (Heap.lt_size e) hc1)) (Nat.ne_of_lt (Nat.lt_of_lt_of_le (Heap.lt_size e) hsz))];exact n
   ·by_cases b3:b=P
    ·subst b3;exact⟨_,Heap.get?_push_of_some _ htab⟩
    ·exact⟨o,gk b o b3 e⟩
   ·by_cases b3:b=P
    ·subst b3
     rw[hp] at z;cases z;exact⟨_,by rw[oPP,← htr]⟩
    ·refine⟨#[],?_⟩
     rw[oP b b3 (Zb6 z nc) (Zb6 z nf),z];simp
  have J:Inv X pins σ H' { s with heap:=h'.push fo,toks:=tk }:=I.un un hok;have sT:SameT H H':=tr;have sU:SameU P H H':=⟨tr,fun b u hb z=>by rw[oP b hb (Zb6 z nc) (Zb6 z nf)];exact z,fun _ _=>⟨_,oPP⟩⟩;have cf:CodeFz H' (.ref c') qual:=⟨c',co,vs,t,rfl,oc,e3,e4⟩
  have tri:TriplesOk [rawInt (pos.line:Int),rawInt (pos.col:Int),Value.ref c']:=by
   unfold rawInt;exact trivial
  have tab:TabOk H' P ds:=by
   refine⟨ps',oPP,by rw[hps'];exact Zt0 ht tri,fun d hd' cv e=>?_⟩;rw[hps',Zp3 ht] at e
   cases hm':codeAmong d.1 ps.toList with
   | some cv2 =>
    rw[hm'] at e;cases e;exact (hcs d hd' cv hm').keep sT
   | none =>
    rw[hm',Option.none_or] at e;unfold rawInt at e;rw[codeAmong] at e
    split at e
    ·rename_i hh
     cases e
     have hh':d.1.line=pos.line∧d.1.col=pos.col:=by
      have:=hh;simp only[Bool.and_eq_true,beq_iff_eq] at this;walk_at "o"
     rw[hds d hd' hh'.1 hh'.2];exact cf
    ·simp[codeAmong] at e
  rw[show W.fnMade name qual params body scope cl doc ((X.mg (Str.ofString "__name__")).getD Value.none) c' ctv=fo from hfo];exact fin J nf sU tab ⟨doc,_,ctv,.ref c',by rw[of',← hfo],cf⟩
def KLe (K K':W.Frag):Prop:=∀ a o,K.lookup a=some o→K'.lookup a=some o
noncomputable def remX (xs:List (Addr×Obj)) (H:Hp):Hp:=fun b=>if b∈xs.map (·.1) then none else H b
noncomputable def Yb4 (xs:List (Addr×Obj)) (H H2:Hp):Hp:=fun b=>if b∈xs.map (·.1) then H b else H2 b
theorem Zj7 {xs:List (Addr×Obj)} {H:Hp} {b:Addr} (h:b∈xs.map (·.1)):remX xs H b=none:=by unfold remX;rw[if_pos h]
theorem Ze8 {xs:List (Addr×Obj)} {H:Hp} {b:Addr} (h:b ∉ xs.map (·.1)):remX xs H b=H b:=by unfold remX;rw[if_neg h]
theorem Zs8 {xs:List (Addr×Obj)} {H H2:Hp} {b:Addr} (h:b∈xs.map (·.1)):Yb4 xs H H2 b=H b:=by unfold Yb4;rw[if_pos h]
theorem Zg6 {xs:List (Addr×Obj)} {H H2:Hp} {b:Addr} (h:b ∉ xs.map (·.1)):Yb4 xs H H2 b=H2 b:=by unfold Yb4;rw[if_neg h]
theorem Zu4:∀ {l:List (Addr×Obj)} {p:Addr×Obj},(∀ q∈l,q.1=p.1→q.2=p.2)→p∈l→l.lookup p.1=some p.2
 | [],_,_,h=>absurd h (by simp)
 | q :: l,p,hc,h=>by
  rw[show q :: l=(q.1,q.2) :: l from rfl,List.lookup_cons]
  by_cases e:q.1=p.1
  ·rw[show (p.1 == q.1)=true from by simp[e]]
   rw[hc q List.mem_cons_self e]
  ·rw[show (p.1 == q.1)=false from by simpa using fun z=>e z.symm]
   exact Zu4 (fun r hr=>hc r (List.mem_cons_of_mem _ hr)) (by
    rcases List.mem_cons.mp h with z | z
    ·exact absurd (by rw[z]) e
    ·exact z)
theorem Zi9:∀ {l:List (Addr×Obj)} {a:Addr} {o:Obj},l.lookup a=some o→(a,o)∈l
 | [],_,_,h=>by cases h
 | (b,u) :: l,a,o,h=>by
  rw[List.lookup_cons] at h
  split at h
  ·rename_i e
   cases h;rw[show a=b from by simpa using e];exact List.mem_cons_self
  ·exact List.mem_cons_of_mem _ (Zi9 h)
theorem Zm9 {h base base':Heap}:∀ {l:List Env},h.FunFrames base l→(∀ b∈frs l,base'.get? b=none)→h.FunFrames base' l
 | [],_,_=>trivial
 | env :: r,⟨hk,⟨L,o,hf,hn,ho,hd⟩,hr⟩,g=>by
  have e:frs (env :: r)=L :: frs r:=by unfold frs;rw[List.filterMap_cons,hf]
  rw[e] at g;exact⟨hk,⟨L,o,hf,g L List.mem_cons_self,ho,hd⟩,Zm9 hr fun b hb=>g b (List.mem_cons_of_mem _ hb)⟩
section
variable {X:Cx} {k:Nat} {f:Addr} {fd:FuncData} {ps:List Str} {sp:Sp}
theorem Xh9 {pins:List (Addr×Obj)} {σ:St} {H:Hp} {s:Shared} {Q:VK} {us:List Value} {vs:List V} (xs cs:List (Addr×Obj)) (I:Inv X pins σ H s) (hxs:∀ p∈xs,H p.1=some (FZ p.2))
  (hcs:∀ p∈cs,s.heap.get? p.1=some p.2∧H p.1=none∧p.1 ∉ frs X.stack) (F:∀ base,FnOk X.prog X.w (X.K++(xs++cs)) X.mg base CX0 k f fd ps sp) (hr:Room k X.A) (hb:Binds X.K fd ps [])
  (r:Vals vs us) (h:sp vs (remX xs H) (fun v H2=>(∀ p∈xs,H2 p.1=none)→Q v (Yb4 xs H H2)) E0):wpAny (model X.prog X.w) X.A (call (.ref f) us) (EP X pins σ Q) X.xe s:=by
 have hx1:∀ p∈xs,s.heap.get? p.1=some p.2:=fun p hp=>(I.hok _ _ (hxs p hp)).1;have good2:∀ p∈xs++cs,s.heap.get? p.1=some p.2:=fun p hp=>(List.mem_append.mp hp).elim (hx1 p) fun z=>(hcs p z).1
 let good:Addr→Prop:=fun b=>(X.base.get? b).isSome=true∨b∈(xs++cs).map (·.1)
 have hdec:∀ b,Decidable (good b):=fun b=>by dsimp only[good];infer_instance
 let hid:List Addr:=(List.range s.heap.objs.size).filter fun b=>!(decide ((X.base.get? b).isSome=true)||decide (b∈(xs++cs).map (·.1)))
 have notin:∀ b,good b→b ∉ hid:=fun b g hm=>by
  have q:=(List.mem_filter.mp hm).2;rcases g with g | g
  ·simp[g] at q
  ·rw[decide_eq_true g] at q;simp at q
 have isin:∀ b,¬ good b→b < s.heap.objs.size→b∈hid:=fun b g hl=>by
  refine List.mem_filter.mpr ⟨List.mem_range.mpr hl,?_⟩;rw[decide_eq_false (fun z=>g (.inl z)),decide_eq_false (fun z=>g (.inr z))];rfl
 let base':Heap:=W.hideAll s.heap hid
 have gget:∀ b o,s.heap.get? b=some o→good b→base'.get? b=some o:=fun b o e g=>W.hideAll_get _ e (notin b g)
 have gof:∀ b o,base'.get? b=some o→s.heap.get? b=some o∧good b:=fun b o e=>by
  have e':s.heap.get? b=some o:=W.of_hideAll hid e;refine⟨e',?_⟩
  by_cases g:good b
  ·exact g
  ·have z:base'.get? b=none:=W.hideAll_none hid (isin b g (Heap.lt_size e'))
   rw[z] at e;cases e
 have gb:∀ b o,X.base.get? b=some o→base'.get? b=some o:=fun b o e=>gget b o (I.bk b o e) (.inl (by rw[e];rfl))
 have goodH:∀ b,good b→remX xs H b=none:=fun b g=>by
  rcases g with g | g
  ·obtain⟨o,e⟩:=Option.isSome_iff_exists.mp g
   by_cases z:b∈xs.map (·.1)
   ·exact Zj7 z
   ·rw[Ze8 z];exact (I.bs b o e).2
  ·rw[List.map_append] at g
   rcases List.mem_append.mp g with g | g
   ·exact Zj7 g
   ·by_cases z:b∈xs.map (·.1)
    ·exact Zj7 z
    ·rw[Ze8 z]
     obtain⟨p,hp,rfl⟩:=List.mem_map.mp g;exact (hcs p hp).2.1
 have kin':W.Frag.In (X.K++(xs++cs)) base':=fun a o e=>by
  have e:List.lookup a (X.K++(xs++cs))=some o:=e;rw[List.lookup_append] at e
  cases z:List.lookup a X.K with
  | some o' =>
   rw[z] at e;cases e;exact gb a o (I.ok.mod.kin a o z)
  | none =>
   rw[z,Option.none_or] at e;have hm:(a,o)∈xs++cs:=Zi9 e;exact gget a o (good2 _ hm) (.inr (List.mem_map.mpr ⟨_,hm,rfl⟩))
 have nsB:∀ {b:Addr} {m:Str→Option Value},X.base.Ns b m→base'.Ns b m:=fun {b m} ⟨o,es,ep,e,d,r⟩=>⟨o,es,ep,gb b o e,d,r⟩
 have xfree:∀ b,b∈xs.map (·.1)→∃ o,H b=some (FZ o)∧s.heap.get? b=some o:=fun b z=>by
  obtain⟨p,hp,rfl⟩:=List.mem_map.mp z;exact⟨p.2,hxs p hp,hx1 p hp⟩
 have frames:∀ b∈frs X.stack,base'.get? b=none:=fun b hb=>by
  cases z:base'.get? b with
  | none=>rfl
  | some o =>
   obtain⟨e,g⟩:=gof b o z;rcases g with g | g
   ·have:=(I.stack.mem hb).1
    rw[this] at g;simp at g
   ·rw[List.map_append] at g
    rcases List.mem_append.mp g with g | g
    ·obtain⟨o',e',_⟩:=xfree b g
     rw[I.stkFree b hb] at e';cases e'
    ·obtain⟨p,hp,rfl⟩:=List.mem_map.mp g
     exact absurd hb (hcs p hp).2.2
 have e0:Env0 X.prog X.w (X.K++(xs++cs)) X.mg base' X.A X.stack s (remX xs H):=by
  refine⟨I.ok.frames,⟨kin',nsB I.ok.mod.glob,?_,?_⟩,fun b o e=>⟨(gof b o e).1,goodH b (gof b o e).2⟩,Nat.le_of_eq (W.hideAll_size _ _),Zm9 I.stack frames,fun b hb=>?_,fun a o z=>?_,I.bare⟩
  ·obtain⟨mb,h1,h2⟩:=I.ok.mod.blt
   exact⟨mb,nsB h1,h2⟩
  ·obtain⟨mc,h1,h2⟩:=I.ok.mod.nolimit
   exact⟨mc,nsB h1,h2⟩
  ·by_cases z:b∈xs.map (·.1)
   ·exact Zj7 z
   ·rw[Ze8 z];exact I.stkFree b hb
  ·by_cases y:a∈xs.map (·.1)
   ·rw[Zj7 y] at z;cases z
   ·rw[Ze8 y] at z
    refine (I.hok a o z).stay (fun b u _ e=>e) (fun b q=>?_) fun b ys q=>?_
    ·rw[Ze8 fun y=>by obtain⟨o',e',_⟩:=xfree b y;rw[q] at e';cases e'];exact q
    ·rw[Ze8 fun y=>by obtain⟨o',e',_⟩:=xfree b y;rw[q] at e';cases e'];exact q
 have hl:us.length=ps.length:=by rw[← r.length];exact (F base').len _ _ _ _ h
 have hbd:BindsTo s fd ⟨us,[]⟩ (ps.zip us):=by
  have:=hb s us I.kIn (by rw[List.append_nil];exact hl);rw[List.append_nil] at this;exact this
 refine wpAny_call (codeAny_mono ((F base').run X.A X.stack s (remX xs H) ⟨us,[]⟩ us vs _ E0 hr e0 hbd r h) fun rr s' hq=>?_)
 cases rr with
 | error e=>exact False.elim hq
 | ok fl =>
  cases fl with
  | next=>exact False.elim hq
  | brk=>exact False.elim hq
  | cont=>exact False.elim hq
  | ret u =>
   obtain⟨v,H2,os,bare,un,hok2,rv,q⟩:=hq
   have none2:∀ b,b∈xs.map (·.1)→H2 b=none:=fun b z=>by
    obtain⟨o,_,e⟩:=xfree b z;exact un.free b o e (Zj7 z) (by simp)
   have outX:∀ {b:Addr} {u:HO},H b=some u→(∀ o,u≠FZ o)→b ∉ xs.map (·.1):=fun {b u} e n z=>by
    obtain⟨o,e',_⟩:=xfree b z;rw[e] at e';cases e';exact n o rfl
   refine⟨v,Yb4 xs H H2,I.call' (ch:=[]) os ⟨fun b o e n hb hx=>un.keep b o e ?_ hb hx,fun b o e n hb hx=>un.slot b o e ?_ hb hx,fun b o e n hx=>?_,un.there,fun b ys e=>?_,fun b o u e=>?_,fun b ys e=>?_⟩ (fun a o z=>?_) bare (fun b z=>absurd z (by simp)),rv,q fun p hp=>none2 p.1 (List.mem_map.mpr ⟨p,hp,rfl⟩)⟩
   ·by_cases z:b∈xs.map (·.1)
    ·exact Zj7 z
    ·rw[Ze8 z];exact n
   ·by_cases z:b∈xs.map (·.1)
    ·exact Zj7 z
    ·rw[Ze8 z];exact n
   ·by_cases z:b∈xs.map (·.1)
    ·rw[Zs8 z];exact n
    ·rw[Zg6 z];exact un.free b o e (by rw[Ze8 z];exact n) hx
   ·have z:=outX e (fun _ q=>nomatch q)
    rw[Zg6 z];exact un.tups b ys (by rw[Ze8 z];exact e)
   ·by_cases z:b∈xs.map (·.1)
    ·rw[Zs8 z];exact e
    ·rw[Zg6 z];exact un.frzs b o u (by rw[Ze8 z];exact e)
   ·have z:=outX e (fun _ q=>nomatch q)
    rw[Zg6 z];exact un.tbls b ys (by rw[Ze8 z];exact e)
   ·by_cases y:a∈xs.map (·.1)
    ·rw[Zs8 y] at z
     obtain⟨o',e',g⟩:=xfree a y;rw[z] at e';cases e';exact Xd2 (un.keep a o' g (Zj7 y) (fun hb=>by rw[I.stkFree a hb] at z;cases z) (by simp))
    ·rw[Zg6 y] at z
     refine (hok2 a o z).stay (fun b u _ e=>e) (fun b q=>?_) fun b ys q=>?_
     ·rw[Zg6 fun y=>by rw[none2 b y] at q;cases q];exact q
     ·rw[Zg6 fun y=>by rw[none2 b y] at q;cases q];exact q
def Yz7 (X:Cx) (σ:St) (ix:List Nat) (cs:List (Addr×Obj)):Prop :=
 Paired (fun (i:Nat) (p:Addr×Obj)=>∃ x v u,X.N[i]?=some x∧σ[i]?=some (some v)∧X.env.cells.lookup x=some p.1∧p.2.data=.cell (some u)∧RelV v u) ix cs
def Ys1 (X:Cx) (k:Nat) (f:Addr) (fd:FuncData) (ps:List Str) (ix:List Nat) (t:TA):TE:=fun σ H Q=>t σ H fun vs H1=>(∀ i∈ix,∃ v,σ[i]?=some (some v))∧∃ xs:List (Addr×Obj),(∀ p∈xs,H1 p.1=some (FZ p.2)) ∧
 ∀ (K':W.Frag) (cs:List (Addr×Obj)),X.Ok→KLe X.K K'→(∀ a o,K'.lookup a=some o→X.K.lookup a=some o∨(a,o)∈xs++cs)→(∀ p∈xs++cs,K'.lookup p.1=some p.2)→Yz7 X σ ix cs →
  ∃ sp:Sp,(∀ base,FnOk X.prog X.w K' X.mg base CX0 k f fd ps sp)∧sp vs (remX xs H1) (fun v H2=>(∀ p∈xs,H2 p.1=none)→Q v (Yb4 xs H1 H2)) E0
theorem Inv.cellsAt {pins:List (Addr×Obj)} {σ:St} {H:Hp} {s:Shared} (I:Inv X pins σ H s):∀ (ix:List Nat),(∀ i∈ix,∃ x,X.N[i]?=some x∧X.env.scope.names.lookup x=some .cell∧X.fn x=true)→(∀ i∈ix,∃ v,σ[i]?=some (some v)) →
  ∃ cs,Yz7 X σ ix cs∧∀ p∈cs,s.heap.get? p.1=some p.2∧H p.1=none∧p.1 ∉ frs X.stack∧X.K.lookup p.1=none
 | [],_,_=>⟨[],.nil,fun _ h=>absurd h (by simp)⟩
 | i :: ix,h1,h2=>by
  obtain⟨cs,g1,g2⟩:=I.cellsAt ix (fun j hj=>h1 j (List.mem_cons_of_mem _ hj)) fun j hj=>h2 j (List.mem_cons_of_mem _ hj);obtain⟨x,e1,e2,e3⟩:=h1 i List.mem_cons_self;obtain⟨v,e4⟩:=h2 i List.mem_cons_self;obtain⟨m,_,hm⟩:=I.loc;obtain⟨u,rv,lk⟩:=hm i x v e1 e4 (.inr (.inl e2));rcases lk with ⟨lk,_⟩ | ⟨_,c,lk,o,ho,hd⟩
  ·have lk':X.env.scope.names.lookup x=some .local:=lk
   rw[e2] at lk';cases lk'
  ·have hc:=I.ok.cab x c e3 lk
   refine⟨(c,o) :: cs,.cons ⟨x,v,u,e1,e4,lk,hd,rv⟩ g1,fun p hp=>?_⟩;rcases List.mem_cons.mp hp with rfl | hp
   ·refine⟨ho,I.freeC x c lk,fun hb=>?_,?_⟩
    ·rcases List.mem_cons.mp (I.stkSub _ hb) with z | z
     ·exact I.cne x c lk z
     ·obtain⟨_,o',ho',_⟩:=I.ok.funs.mem z
      exact absurd (Heap.lt_size ho') (Nat.not_lt.mpr hc)
    ·cases z:X.K.lookup c with
     | none=>rfl
     | some o'=>exact absurd (Heap.lt_size (I.ok.bs c o' (I.ok.mod.kin c o' z)).1) (Nat.not_lt.mpr hc)
   ·exact g2 p hp
theorem Xc2 {x:Str} {p pos:Pos} {e:Expr} {es:List Expr} {t:TA} {ix:List Nat} (hr:Room k X.A) (hg:Gl X x) (hm:X.mg x=some (.ref f)) (hk:W.keepIn X.K (.ref f)=true) (hb:Binds X.K fd ps [])
  (hix:∀ i∈ix,∃ x,X.N[i]?=some x∧X.env.scope.names.lookup x=some .cell∧X.fn x=true)
  (ha:PA X (e :: es) t) (hdb:(x == ("__debug__":Str))=false:=by decide) (he:starEach (e :: es) X.env=(false,eval e X.env) :: starEach es X.env:=by rfl) (hpl:(backTo pos (starEach es X.env)).any (·.1)=false:=by rfl) :
  PE X (.Call (.Name x p) (e :: es) [] pos) (Ys1 X k f fd ps ix t):=by
 intro pins s σ H Q I h;refine wpAny_Call_Name_kw (Zk0 I hg hm ?_ hdb);refine W.callWith_K (h₀:=X.base) I.ok.mod.kin hk (thn (ha pos pins s σ H _ I h) fun us s1 ⟨vs,H1,I1,r,hσ,xs,hxs,q⟩=>⟨I1.kIn,?_⟩) he hpl;obtain⟨cs,g1,g2⟩:=I1.cellsAt ix hix hσ;have hx1:∀ p∈xs,s1.heap.get? p.1=some p.2:=fun p hp=>(I1.hok _ _ (hxs p hp)).1;have good2:∀ p∈xs++cs,s1.heap.get? p.1=some p.2:=fun p hp=>(List.mem_append.mp hp).elim (hx1 p) fun z=>(g2 p z).1
 obtain⟨sp,F,hs⟩:=q (X.K++(xs++cs)) cs I1.ok (fun a o z=>by
   show List.lookup a (X.K++(xs++cs))=some o
   rw[List.lookup_append,show List.lookup a X.K=some o from z];rfl) (fun a o z=>by
   have z:List.lookup a (X.K++(xs++cs))=some o:=z;rw[List.lookup_append] at z
   cases y:List.lookup a X.K with
   | some o' =>
    rw[y] at z;cases z;exact .inl rfl
   | none =>
    rw[y,Option.none_or] at z
    exact .inr (Zi9 z)) (fun p hp=>by
   have kn:X.K.lookup p.1=none:=by
    rcases List.mem_append.mp hp with z | z
    ·cases y:X.K.lookup p.1 with
     | none=>rfl
     | some o =>
      have:=(I1.bs p.1 o (I1.ok.mod.kin _ _ y)).2;rw[hxs p z] at this;cases this
    ·exact (g2 p z).2.2.2
   show List.lookup p.1 (X.K++(xs++cs))=some p.2;rw[List.lookup_append,show List.lookup p.1 X.K=none from kn,Option.none_or]
   exact Zu4 (fun q hq e=>by
    have h1:=good2 q hq;rw[e,good2 p hp] at h1
    exact (Option.some.inj h1).symm) hp) g1
 exact Xh9 xs cs I1 hxs (fun p hp=>⟨(g2 p hp).1,(g2 p hp).2.1,(g2 p hp).2.2.1⟩) F hr hb r hs
end
theorem Yv2 {P:Program} {w:World} {K:W.Frag} {mg mb:Str→Option Value} {CX:CXT} {k:Nat} {fa a:Addr} {fd:FuncData} {x:Str} {sp:Sp} {s₁:Shared} {vs:List Value} {ns:List Int} {ts:List Addr}
  (KX:K.In s₁.heap) (hns:s₁.heap.Ns mainGlobals mg) (hb:s₁.heap.Ns builtinsNs mb) (hbb:∀ x:Str,x≠"__name__"→mb x=bootBuiltins x) (hlim:s₁.heap.NoLimit) (hg:s₁.gens=#[])
  (ha:s₁.heap.get? a=some { cls:=.type "list",data:=.seq vs.toArray }) (hi:IntsAre vs ns) (hl:ns.length≤sizeLine) (hr:Room k callerA)
  (hT:∀ p∈ts,s₁.heap.get? p=some (W.tabObj #[])) (hTK:∀ p∈ts,K.lookup p=none) (hTc:∀ p∈ts,isCodeTable s₁.heap p)
  (F:∀ base:Heap,K.In base→base.Ns mainGlobals mg→FnOk P w K mg base CX k fa fd [x] sp) (hbind:∀ (s:Shared) (u:Value),BindsTo s fd ⟨[u],[]⟩ [(x,u)])
  (hsp:∀ H:Hp,(∀ p∈ts,H p=some (.tbl #[]))→SqL K H a (ns.map V.int)→sp [.ref a] H (fun v _=>v=.bl true) fun _ _ _=>False)
  (hCX:∀ H e s',CX [] H s₁ (fun _ _ _=>False) e s'→False) :
  codeAny (model P w) callerA (.call (.ref fa) ⟨[.ref a],[]⟩) (fun r s'=>r=.ok (.ret (.bool true))∧OldK s₁.heap s'.heap∧s'.os=s₁.os∧AllBare s'.gens) s₁:=by
 have rv:=Yb7 hi;have lenV:=hi.length
 have core:∀ H:Hp,(∀ b u,H b=some u→(b=a∧K.lookup a=none∧∃ xs,u=.frz { cls:=.type "list",data:=.seq vs.toArray } (.lst xs))∨(b∈ts∧u=.tbl #[]))→(∀ p∈ts,H p=some (.tbl #[]))→SqL K H a (ns.map V.int)→HOk P w H s₁.heap →
   codeAny (model P w) callerA (.call (.ref fa) ⟨[.ref a],[]⟩) (fun r s'=>r=.ok (.ret (.bool true))∧OldK s₁.heap s'.heap∧s'.os=s₁.os∧AllBare s'.gens) s₁:=by
  intro H hA hTb hS hok;have base_of:∀ {b:Addr} {o:Obj},s₁.heap.get? b=some o→H b=none→(hidT s₁.heap H).get? b=some o:=fun e n=>Xd1 e n
  have noA:∀ {b:Addr} {o:Obj} {es:Array DictEntry} {ep:Nat},s₁.heap.get? b=some o→o.data=.dict es ep→H b=none:=fun {b o es ep} e d=>by
   cases q:H b with
   | none=>rfl
   | some u =>
    rcases hA b u q with ⟨rfl,_⟩ | ⟨hb,_⟩
    ·rw[ha] at e;cases e
     have d':Data.seq vs.toArray _=Data.dict es ep:=d;cases d'
    ·rw[hT b hb] at e;cases e
     have d':Data.fields #[]=Data.dict es ep:=d;cases d'
  have nsK:∀ {b:Addr} {m:Str→Option Value},s₁.heap.Ns b m→(hidT s₁.heap H).Ns b m:=fun {b m} ⟨o,es,ep,e,d,r⟩=>⟨o,es,ep,base_of e (noA e d),d,r⟩
  have hKb:K.In (hidT s₁.heap H):=fun b o e=>base_of (KX b o e) (by
   cases q:H b with
   | none=>rfl
   | some u =>
    rcases hA b u q with ⟨rfl,hk,_⟩ | ⟨hb,_⟩
    ·rw[hk] at e;cases e
    ·rw[hTK b hb] at e;cases e)
  have hM:Mod K mg (hidT s₁.heap H):=⟨hKb,nsK hns,⟨mb,nsK hb,hbb⟩,let ⟨mc,h1,h2⟩:=hlim;⟨mc,nsK h1,h2⟩⟩;have e0:Env0 P w K mg (hidT s₁.heap H) callerA [] s₁ H:=⟨rfl,hM,fun b o e=>Xj1 e,Nat.le_of_eq (Yw3 _ _),trivial,fun b hb=>absurd (show b∈([]:List Addr) from hb) (by simp),hok,.of_eq hg⟩;refine codeAny_mono ((F _ hKb (nsK hns)).run callerA [] s₁ H ⟨[.ref a],[]⟩ [.ref a] [.ref a] _ _ hr e0 (hbind s₁ (.ref a)) (.cons rfl .nil) (hsp H hTb hS)) fun r s' h=>?_
  cases r with
  | error e=>exact (hCX H e s' h).elim
  | ok fl =>
   cases fl with
   | next=>exact False.elim h
   | brk=>exact False.elim h
   | cont=>exact False.elim h
   | ret u =>
    obtain⟨v,H',os,bare,un,hok',r',q⟩:=h;have q':v=.bl true:=q;subst q';obtain rfl:u=Value.bool true:=r';refine⟨rfl,⟨fun b o e=>?_,fun b o e=>un.there b o e (by simp)⟩,os,bare⟩
    cases q:H b with
    | none=>exact .inl (un.keep b o e q (by intro z;exact absurd (show b∈([]:List Addr) from z) (by simp)) (by simp))
    | some u =>
     rcases hA b u q with ⟨rfl,_,xs,rfl⟩ | ⟨hb,rfl⟩
     ·have z2:=un.frzs b _ _ q
      obtain⟨e1,_⟩:=hok b _ q;obtain⟨e2,_⟩:=hok' b _ z2;rw[e] at e1;cases e1;exact .inl e2
     ·obtain⟨more,z2⟩:=un.tbls b _ q
      have e2:=hok' b _ z2;rw[hT b hb] at e;cases e;exact .inr (.inl ⟨hTc b hb,rfl,#[],more,rfl,e2⟩)
 have naT:a ∉ ts:=fun z=>by
  have:=hT a z;rw[ha] at this;have h2:=congrArg Obj.cls (Option.some.inj this);cases h2
 cases hk:K.lookup a with
 | some o =>
  have e:=KX a o hk;rw[ha] at e;cases e;refine core (fun b=>if b∈ts then some (.tbl #[]) else none) (fun b u z=>?_) (fun p hp=>if_pos hp) (.inr ⟨_,vs.toArray,_,hk,rfl,rfl,rfl,by rw[List.size_toArray,lenV];exact hl,by simpa using rv⟩) (fun b u z=>?_)
  ·by_cases hb:b∈ts
   ·have z':=(if_pos hb).symm.trans z
    cases z';exact .inr ⟨hb,rfl⟩
   ·have z':=(if_neg hb).symm.trans z
    cases z'
  ·by_cases hb:b∈ts
   ·have z':=(if_pos hb).symm.trans z
    cases z';exact hT b hb
   ·have z':=(if_neg hb).symm.trans z
    cases z'
 | none =>
  refine core (fun b=>if b∈ts then some (.tbl #[]) else if b=a then some (.frz { cls:=.type "list",data:=.seq vs.toArray } (.lst (ns.map V.int))) else none) (fun b u z=>?_) (fun p hp=>if_pos hp) (.inl (.inr ⟨{ cls:=.type "list",data:=.seq vs.toArray },(if_neg naT).trans (if_pos rfl)⟩)) (fun b u z=>?_)
  ·by_cases hb:b∈ts
   ·have z':=(if_pos hb).symm.trans z
    cases z';exact .inr ⟨hb,rfl⟩
   ·have z':=(if_neg hb).symm.trans z
    by_cases hba:b=a
    ·rw[if_pos hba] at z'
     cases z';exact .inl ⟨hba,hk,_,rfl⟩
    ·rw[if_neg hba] at z'
     cases z'
  ·by_cases hb:b∈ts
   ·have z':=(if_pos hb).symm.trans z
    cases z';exact hT b hb
   ·have z':=(if_neg hb).symm.trans z
    by_cases hba:b=a
    ·rw[if_pos hba] at z'
     cases z';subst hba;exact⟨ha,by rw[List.length_map];exact hl,vs,_,rv,ha⟩
    ·rw[if_neg hba] at z'
     cases z'
structure BltK (K:W.Frag) (mg:Str→Option Value) (bm:Addr):Prop where
 m:mg (Str.ofString "__builtins__")=some (.ref bm)
 l:∃ ob,K.lookup bm=some ob∧ob.cls=.type "module"∧ob.dict=some builtinsNs∧ob.data=.plain
 n1:bm≠builtinsNs
 n2:bm≠mainGlobals
theorem BltK.at {K:W.Frag} {mg:Str→Option Value} {bm:Addr} (b:BltK K mg bm) {T:Addr} (n:bm≠T) (h:Heap) (k:K.In h):h.BuiltinsAt mg T:=by
 obtain⟨ob,l,c,d,e⟩:=b.l;exact⟨bm,ob,b.m,b.n1,b.n2,n,k _ _ l,c,d,e⟩
end L2
namespace Ken
open PySem L2
theorem Zd4:bootBuiltins "len"=some (.builtin "len"):=by decide +kernel
theorem Zd7:bootBuiltins "isinstance"=some (.builtin "isinstance"):=by decide +kernel
theorem Xe4:bootBuiltins "max"=some (.builtin "max"):=by decide +kernel
theorem Yn6:bootBuiltins "str"=some (.type "str"):=by decide +kernel
theorem Zk4:bootBuiltins "int"=some (.type "int"):=by decide +kernel
theorem Yq1:bootBuiltins "tuple"=some (.type "tuple"):=by decide +kernel
theorem Yz0:bootBuiltins "list"=some (.type "list"):=by decide +kernel
theorem Xw4 (K:W.Frag):W.kitOne K (.type "tuple") (.type "str")=some false:=rfl
inductive Kd where
 | both | one | thn
 deriving DecidableEq
noncomputable def Kd.str:Kd→Str
 | .both=>"both"
 | .one=>"one"
 | .thn=>"then"
inductive Tm where
 | low
 | ltr (w:Str)
 | nd (k:Kd) (a b:Tm)
 deriving DecidableEq
noncomputable def Tm.data:Tm→PyData
 | .low=>.tuple [.str "low"]
 | .ltr w=>.tuple [.str "letter",.str w]
 | .nd k a b=>.tuple [.str k.str,a.data,b.data]
noncomputable def Tm.parts:Tm→Nat
 | .low=>1
 | .ltr _=>1
 | .nd _ a b=>1+a.parts+b.parts
noncomputable def Tm.deep:Tm→Nat
 | .low=>1
 | .ltr _=>1
 | .nd _ a b=>1+max a.deep b.deep
theorem Tm.parts_pos:∀ t:Tm,1≤t.parts
 | .low=>Nat.le_refl _
 | .ltr _=>Nat.le_refl _
 | .nd _ a b=>by show 1≤1+a.parts+b.parts;walk_at "o"
def Word (x:Str):Prop:=1≤x.cps.toList.length∧x.cps.toList.length≤8∧∀ c∈x.cps.toList,97≤c∧c≤122
theorem Word.strOk {x:Str} (h:Word x):PySem.PyData.strOk x=true:=by
 unfold PySem.PyData.strOk;rw[Array.all_eq_true_iff_forall_mem];intro c hc;have:=h.2.2 c (by simpa using hc);exact decide_eq_true (by walk_at "o")
def Tm.ok:Tm→Prop
 | .low=>True
 | .ltr w=>Word w
 | .nd _ a b=>a.ok∧b.ok
abbrev IsT (K:W.Frag) (H:Hp) (v:V) (t:Tm):Prop:=Dn K H v t.data
theorem Tm.noList:∀ t:Tm,L2.noList t.data=true
 | .low=>rfl
 | .ltr _=>rfl
 | .nd k a b=>by
  show (true&&(L2.noList a.data&&(L2.noList b.data&&true)))=true;rw[a.noList,b.noList];rfl
theorem Tm.lay:∀ t:Tm,t.ok→t.data.canLay0=true
 | .low,_=>by
  show (PySem.PyData.strOk "low"&&true)=true;decide +kernel
 | .ltr w,h=>by
  show (PySem.PyData.strOk "letter"&&(PySem.PyData.strOk w&&true))=true;rw[Word.strOk h];decide +kernel
 | .nd k a b,h=>by
  show (PySem.PyData.strOk k.str&&(a.data.canLay0&&(b.data.canLay0&&true)))=true;rw[a.lay h.1,b.lay h.2]
  cases k<;>decide +kernel
theorem Tm.depth:∀ t:Tm,t.data.depth=t.deep
 | .low=>rfl
 | .ltr _=>rfl
 | .nd k a b=>by
  show max 0 (max a.data.depth (max b.data.depth 0))+1=1+max a.deep b.deep;rw[a.depth,b.depth];walk_at "o"
section
variable {K:W.Frag} {H H':Hp} {v:V}
theorem IsT.keep {t:Tm} (h:IsT K H v t) (k:KeepT K H H'):IsT K H' v t:=Dn.keepT k t.noList h
theorem isT_low:IsT K H v .low↔∃ a,v=.ref a∧SqT K H a [.str "low"]:=by
 show Dn K H v (.tuple [.str "low"])↔_;rw[Dn];constructor
 ·rintro⟨a,xs,rfl,hs,hd⟩
  rw[DnAll] at hd;obtain⟨x,r,rfl,h1,h2⟩:=hd;rw[Dn] at h1;rw[DnAll] at h2;subst h1;subst h2;exact⟨a,rfl,hs⟩
 ·rintro⟨a,rfl,hs⟩
  refine⟨a,_,rfl,hs,?_⟩;rw[DnAll];exact⟨_,_,rfl,by rw[Dn],by rw[DnAll]⟩
theorem isT_ltr {w:Str}:IsT K H v (.ltr w)↔∃ a,v=.ref a∧SqT K H a [.str "letter",.str w]:=by
 show Dn K H v (.tuple [.str "letter",.str w])↔_;rw[Dn];constructor
 ·rintro⟨a,xs,rfl,hs,hd⟩
  rw[DnAll] at hd;obtain⟨x,r,rfl,h1,h2⟩:=hd;rw[DnAll] at h2;obtain⟨y,r,rfl,h3,h4⟩:=h2;rw[Dn] at h1 h3;rw[DnAll] at h4;subst h1;subst h3;subst h4;exact⟨a,rfl,hs⟩
 ·rintro⟨a,rfl,hs⟩
  refine⟨a,_,rfl,hs,?_⟩;rw[DnAll];refine⟨_,_,rfl,by rw[Dn],?_⟩;rw[DnAll];exact⟨_,_,rfl,by rw[Dn],by rw[DnAll]⟩
theorem isT_nd {k:Kd} {a b:Tm}:IsT K H v (.nd k a b)↔∃ p x y,v=.ref p∧SqT K H p [.str k.str,x,y]∧IsT K H x a∧IsT K H y b:=by
 show Dn K H v (.tuple [.str k.str,a.data,b.data])↔_;rw[Dn];constructor
 ·rintro⟨p,xs,rfl,hs,hd⟩
  rw[DnAll] at hd;obtain⟨x,r,rfl,h1,h2⟩:=hd;rw[DnAll] at h2;obtain⟨y,r,rfl,h3,h4⟩:=h2;rw[DnAll] at h4;obtain⟨z,r,rfl,h5,h6⟩:=h4;rw[Dn] at h1;rw[DnAll] at h6;subst h1;subst h6;exact⟨p,y,z,rfl,hs,h3,h5⟩
 ·rintro⟨p,x,y,rfl,hs,h1,h2⟩
  refine⟨p,_,rfl,hs,?_⟩;rw[DnAll];refine⟨_,_,rfl,by rw[Dn],?_⟩;rw[DnAll];refine⟨_,_,rfl,h1,?_⟩;rw[DnAll];exact⟨_,_,rfl,h2,by rw[DnAll]⟩
end
theorem Xl6 (a b c d e f:PyData):PyData.eqvAll [a,b,c] [d,e,f]=(PyData.eqv a d&&(PyData.eqv b e&&PyData.eqv c f)):=by
 simp[PyData.eqvAll]
theorem Kd.str_inj {a b:Kd} (h:a.str=b.str):a=b:=by
 cases a<;>cases b<;>first | rfl | exact absurd h (by decide)
theorem Tm.eqv:∀ s t:Tm,PyData.eqv s.data t.data=decide (s=t)
 | .low,.low=>by decide
 | .low,.ltr w=>by
  show PyData.eqvAll [.str "low"] [.str "letter",.str w]=_;simp[PyData.eqvAll]
 | .low,.nd k a b=>by
  show PyData.eqvAll [.str "low"] [.str k.str,a.data,b.data]=_;simp[PyData.eqvAll]
 | .ltr w,.low=>by
  show PyData.eqvAll [.str "letter",.str w] [.str "low"]=_;simp[PyData.eqvAll]
 | .ltr w,.ltr v=>by
  show (PyData.eqv (.str "letter") (.str "letter")&&(PyData.eqv (.str w) (.str v)&&true))=_;simp[PyData.eqv];rfl
 | .ltr w,.nd k a b=>by
  show PyData.eqvAll [.str "letter",.str w] [.str k.str,a.data,b.data]=_;simp[PyData.eqvAll]
 | .nd k a b,.low=>by
  show PyData.eqvAll [.str k.str,a.data,b.data] [.str "low"]=_;simp[PyData.eqvAll]
 | .nd k a b,.ltr w=>by
  show PyData.eqvAll [.str k.str,a.data,b.data] [.str "letter",.str w]=_;simp[PyData.eqvAll]
 | .nd k a b,.nd l c d=>by
  show PyData.eqvAll [.str k.str,a.data,b.data] [.str l.str,c.data,d.data]=_;rw[Xl6,a.eqv c,b.eqv d]
  have e:PyData.eqv (.str k.str) (.str l.str)=decide (k=l):=by
   show (k.str == l.str)=_
   by_cases h:k=l
   ·subst h;simp
   ·have:¬ k.str=l.str:=fun z=>h (Kd.str_inj z)
    rw[decide_eq_false h];exact beq_eq_false_iff_ne.mpr this
  rw[e]
  by_cases h1:k=l<;>by_cases h2:a=c<;>by_cases h3:b=d<;>simp[h1,h2,h3]
noncomputable def mix (c k:Int):Int:=((c+1)*(48271+118*k) % 2147483629 / 977*16807+(c+1)*(48271+118*k) % 2147483629*(k*k+7)+k) % 2147483587
theorem Zf0 (c k:Int):0≤mix c k:=by unfold mix;exact Int.emod_nonneg _ (by decide)
def Zh1:Sp:=fun vs H Q _=>∃ c k:Int,vs=[.int c,.int k]∧0≤k∧k≤100000∧Q (.int (mix c k)) H
noncomputable def cellOf (ns:List Int) (k:Int):Int:=mix (if k < (ns.length:Int) then (ns[k.toNat]?.getD 0) % 2147483647 else 0) (k+101)
theorem Xm0 (ns:List Int) (k:Int):0≤cellOf ns k:=Zf0 _ _
def Yh7 (K:W.Frag):Sp:=fun vs H Q _=>∃ (a:Addr) (ns:List Int) (k:Int),vs=[.ref a,.int k]∧SqL K H a (ns.map V.int)∧ns.length≤63∧0≤k∧k≤1000∧Q (.int (cellOf ns k)) H
def Yb5 (ws:List Str):Prop:=2≤ws.length∧ws.length≤6∧∀ w∈ws,Word w
def Yk7:Sp:=fun vs H Q _=>∃ c m:Int,vs=[.int c,.int m]∧0≤c∧2≤m∧m≤6 ∧
 ∀ (r:Addr) (H':Hp) (ws:List Str),Same H H'→H r=none→H' r=some (.lst (ws.map V.str))→Yb5 ws→Q (.ref r) H'
def Tm.inW (ws:List Str):Tm→Prop
 | .low=>True
 | .ltr w=>w∈ws
 | .nd _ a b=>a.inW ws∧b.inW ws
theorem Tm.inW.ok {ws:List Str} (hw:∀ w∈ws,Word w):∀ {t:Tm},t.inW ws→t.ok
 | .low,_=>trivial
 | .ltr w,h=>hw w h
 | .nd _ a b,h=>⟨Tm.inW.ok hw h.1,Tm.inW.ok hw h.2⟩
noncomputable def rk (n:Int):Nat:=if n < 40 then n.toNat else if n≤53 then 40 else if n≤71 then 41 else if n≤95 then 42 else if n≤127 then 43 else if n≤170 then 44 else if n≤227 then 45 else 46
theorem Xq0 {n:Int} (h0:3≤n) (h1:n < 40):rk (n - 2) < rk n:=by
 unfold rk;rw[if_pos (by walk_at "o"),if_pos (by walk_at "o")];walk_at "o"
theorem Ys9 {n m:Int} (h0:3≤n) (h1:n < 40) (h2:m≤n - 1):rk m < rk n:=by
 unfold rk;rw[if_pos (by walk_at "o"),if_pos (by walk_at "o")];walk_at "o"
theorem Yz8 {c:Nat} {n:Int} (h1:97≤c) (h2:c≤122) (h3:1≤n) (h4:n≤8):Word (Txt.mul ⟨#[c]⟩ n):=by
 unfold Word;rw[PyProof.Rows.mul_one_list];refine⟨by rw[List.length_replicate];walk_at "o",by rw[List.length_replicate];walk_at "o",fun d hd=>?_⟩;rw[List.mem_replicate] at hd;walk_at "o"
theorem Yz9 {c d:Nat} {a b:Int} (h1:97≤c) (h2:c≤122) (h3:97≤d) (h4:d≤122) (h5:0≤a) (h6:0≤b) (h7:a+b≤7):Word (Txt.mul ⟨#[c]⟩ a++⟨#[d]⟩++Txt.mul ⟨#[c]⟩ b):=by
 unfold Word;rw[Zx4,Zx4,PyProof.Rows.mul_one_list,PyProof.Rows.mul_one_list];refine⟨by simp only[List.length_append,List.length_replicate,List.length_cons,List.length_nil];walk_at "o",by simp only[List.length_append,List.length_replicate,List.length_cons,List.length_nil];walk_at "o",fun e he=>?_⟩;simp only[List.mem_append,List.mem_replicate,List.mem_cons,List.not_mem_nil,or_false] at he;walk_at "o"
theorem Yu7 {c:Nat} {n:Int}:(Txt.mul ⟨#[c]⟩ n).length=n.toNat:=by rw[Xj6,PyProof.Rows.mul_one_list,List.length_replicate]
noncomputable def Xh3 (x:Str):Bool:=decide (1≤x.cps.toList.length)&&decide (x.cps.toList.length≤8)&&x.cps.toList.all fun c=>decide (97≤c)&&decide (c≤122)
theorem Xh2 {x:Str} (h:Xh3 x=true):Word x:=by
 unfold Xh3 at h;simp only[Bool.and_eq_true,decide_eq_true_eq,List.all_eq_true] at h;exact⟨h.1.1,h.1.2,fun c hc=>by have:=h.2 c hc;simpa using this⟩
def Six (H0 H:Hp) (p:Addr) (ws:List Str):Prop:=Same H0 H∧H0 p=none∧H p=some (.lst (ws.map V.str))∧ws.length=6∧∀ w∈ws,Word w
theorem Zv4 (ws:List Str) (lo hi:Option Int):cutV (ws.map V.str) lo hi=((ws.drop (HT.sIx ws.length 0 lo)).take (HT.sIx ws.length ws.length hi - HT.sIx ws.length 0 lo)).map V.str:=by
 unfold cutV;rw[List.length_map,← List.map_drop,← List.map_take]
noncomputable def kd4 (i:Int):Kd:=if i=0 then .both else if i=1 then .one else .thn
theorem Xy7 {i:Int} (h0:0≤i) (h1:i < 4):atI [V.str "both",V.str "one",V.str "then",V.str "then"] i=some (.str (kd4 i).str):=by
 have:i=0∨i=1∨i=2∨i=3:=by walk_at "o"
 rcases this with rfl | rfl | rfl | rfl<;>rfl
theorem Xm2 {α:Type} {xs:List α} {i:Int} (h0:0≤i) (h1:i < (xs.length:Int)):∃ v,v∈xs∧atI xs i=some v:=by
 obtain⟨j,rfl⟩:=Int.eq_ofNat_of_zero_le h0
 have hj:j < xs.length:=by walk_at "o"
 exact⟨xs[j],List.getElem_mem hj,Zd0 (List.getElem?_eq_getElem hj)⟩
theorem Zd5 {n:Nat} (h:n≤1000000):n < sizeLine:=Nat.lt_of_le_of_lt h (by rw[sizeLine_eq];decide)
noncomputable abbrev Itm:=Str ⊕ Tm
theorem isT_tup {K:W.Frag} {H:Hp} {v:V} {t:Tm} (h:IsT K H v t):∃ a xs,v=.ref a∧SqT K H a xs:=by
 cases t with
 | low=>obtain⟨a,rfl,hs⟩:=isT_low.mp h;exact⟨a,_,rfl,hs⟩
 | ltr w=>obtain⟨a,rfl,hs⟩:=isT_ltr.mp h;exact⟨a,_,rfl,hs⟩
 | nd k x y=>obtain⟨a,vx,vy,rfl,hs,_,_⟩:=isT_nd.mp h;exact⟨a,_,rfl,hs⟩
theorem Yj7 {ds:List PyData} (h:∀ d∈ds,d.canLay0=true):(PyData.list ds).canLay0=true:=by
 show PyData.canLayAll0 ds=true
 induction ds with
 | nil=>rfl
 | cons d ds ih =>
  show (d.canLay0&&PyData.canLayAll0 ds)=true;rw[h d List.mem_cons_self,ih fun e he=>h e (List.mem_cons_of_mem _ he)];rfl
theorem paired_get {α β:Type} {F:α→β→Prop}:∀ {l:List α} {m:List β} {i:Nat} {x:α},Paired F l m→l[i]?=some x→∃ y,m[i]?=some y∧F x y
 | _,_,0,_,.cons h t,e=>by cases e;exact⟨_,rfl,h⟩
 | _,_,i+1,_,.cons h t,e=>paired_get (i:=i) t (by simpa using e)
end Ken
namespace L2
open PySem PySem.Spec PyProof.Rows
end L2
namespace Ken
open PySem L2
theorem Zw7 {α β:Type} {F:α→β→Prop}:∀ {l:List α} {m:List β},Paired F l m→Paired F l.reverse m.reverse
 | _,_,.nil=>.nil
 | _,_,.cons h t=>by rw[List.reverse_cons,List.reverse_cons];exact Paired.snoc (Zw7 t) h
theorem Zj3 {α β:Type} {F:α→β→Prop}:∀ {l l':List α} {m m':List β},Paired F l m→Paired F l' m'→Paired F (l++l') (m++m')
 | _,_,_,_,.nil,q=>q
 | _,_,_,_,.cons h t,q=>.cons h (Zj3 t q)
def DIx (K:W.Frag) (H:Hp):V→Itm→Prop
 | v,.inl x=>v=.str x
 | v,.inr t=>IsT K H v t
noncomputable def Xg1:Itm→Nat
 | .inl _=>0
 | .inr t=>t.deep
def Zp9 (K:W.Frag) (n:Nat):Sp:=fun vs H Q _=>∃ (v u:V) (i:Itm),vs=[v,u]∧DIx K H v i∧DIx K H u i∧Xg1 i < n∧Q (.bl true) H
noncomputable def subs:Tm→List Itm
 | .low=>[.inl "low"]
 | .ltr w=>[.inl "letter",.inl w]
 | .nd k a b=>[.inl k.str,.inr a,.inr b]
theorem Ym7 {K:W.Frag} {H:Hp} {v:V} {t:Tm} (h:IsT K H v t):∃ p xs,v=.ref p∧SqT K H p xs∧Paired (DIx K H) xs (subs t):=by
 cases t with
 | low=>obtain⟨a,rfl,hs⟩:=isT_low.mp h;exact⟨a,_,rfl,hs,.cons rfl .nil⟩
 | ltr w=>obtain⟨a,rfl,hs⟩:=isT_ltr.mp h;exact⟨a,_,rfl,hs,.cons rfl (.cons rfl .nil)⟩
 | nd k x y=>obtain⟨a,vx,vy,rfl,hs,hx,hy⟩:=isT_nd.mp h;exact⟨a,_,rfl,hs,.cons rfl (.cons hx (.cons hy .nil))⟩
theorem Ys3 {t:Tm}:∀ i∈subs t,Xg1 i < t.deep:=by
 intro i hi
 cases t with
 | low=>simp[subs] at hi;subst hi;decide
 | ltr w=>simp[subs] at hi;rcases hi with rfl | rfl<;>exact Nat.one_pos
 | nd k a b =>
  simp[subs] at hi;rcases hi with rfl | rfl | rfl
  ·show 0 < 1+max a.deep b.deep;walk_at "o"
  ·show a.deep < 1+max a.deep b.deep;walk_at "o"
  ·show b.deep < 1+max a.deep b.deep;walk_at "o"
theorem Xa9 (t:Tm):(subs t).length≤3:=by cases t<;>simp[subs]
end Ken
namespace L2
open PySem PySem.Spec PyProof.Rows
noncomputable def Wb7 (elt:Expr) (acc:Value) (env:Env):Sem Unit:=eval elt env >>= fun x=>call (.builtin "list.append") [acc,x] >>= fun _=>pure ()
noncomputable def Wb6 (elt:Expr) (acc:Value) (env:Env):Sem Unit:=eval elt env >>= fun v=>standAt elt.pos >>= fun _=>call (.builtin "set.add") [acc,v] >>= fun _=>pure ()
noncomputable def Wb8 (k v:Expr) (d:Addr) (env:Env):Sem Unit:=eval k env >>= fun kv=>holding [kv] (eval v env) >>= fun vv=>standAt { line:=k.pos.line,col:=k.pos.col,endLine:=v.pos.endLine,endCol:=v.pos.endCol } >>= fun _=>holding [kv,vv] (dictSet d kv vv)
noncomputable def Wb5 (e:Expr) (d:Nat) (iter:Expr) (acc:Value) (env:Env):Sem Unit:=eval iter env >>= fun x=>standAt iter.pos >>= fun _=>foldedSetIterable iter env x >>= fun x=>holding [x] (pyIter x) >>= fun it=>runOwn (.compStart e d it acc env) env >>= fun _=>pure ()
end L2
namespace Ken
open PySem L2
end Ken
namespace L2
open PySem PySem.Spec PyProof.Rows
end L2
namespace Ken
open PySem L2
noncomputable def Tm.kids:Tm→List Tm
 | .nd _ a b=>[a,b]
 | _=>[]
noncomputable def Tm.pre:Tm→List Tm
 | .low=>[.low]
 | .ltr w=>[.ltr w]
 | .nd k a b=>.nd k a b :: (a.pre++b.pre)
theorem Tm.pre_len:∀ t:Tm,t.pre.length=t.parts
 | .low=>rfl
 | .ltr _=>rfl
 | .nd _ a b=>by
  show (a.pre++b.pre).length+1=1+a.parts+b.parts;rw[List.length_append,a.pre_len,b.pre_len];walk_at "o"
theorem Tm.pre_eq (t:Tm):t.pre=t :: t.kids.flatMap Tm.pre:=by
 cases t with
 | low=>rfl
 | ltr w=>rfl
 | nd k a b=>show _ :: (a.pre++b.pre)=_ :: (a.pre++(b.pre++[]));rw[List.append_nil]
end Ken
namespace L2
open PySem PySem.Spec PyProof.Rows
noncomputable def Itv (K:W.Frag) (a:Addr) (n:Nat):It :=
 ⟨fun i H=>i < n∧∃ xs x,SqL K H a xs∧xs[n - 1 - i]?=some x,fun i H x H'=>H'=H∧∀ xs,SqL K H a xs→xs[n - 1 - i]?=some x,fun i _=>i=n⟩
theorem Xa2 {P:Program} {w:World} {K:W.Frag} {tg:Expr} (a it:Addr) (n:Nat):Turn P w K tg (Itv K a n) [it] it (fun i h=>h.IsRevIter it a ((n:Int) - 1 - (i:Int))) where
  mem:=by simp
  obj:=fun i h st b hb=>by
    have e:b=it:=by simpa using hb
    subst e;obtain⟨o,e,c,d⟩:=st;exact⟨o,e,fun v z=>by rw[d] at z;cases z⟩
  keep:=fun i h h' st k=>st.at fun o e=>k it (by simp) o e
  item:=by
    intro X hP hw hK hc i pins s σ H E I hf st hg;subst hP hw hK;obtain⟨hi,xs,x,hq,hx⟩:=hg;obtain⟨its,rv,p,hz⟩:=I.list hq;obtain⟨u,hu,ru⟩:=rv.get hx;obtain⟨f0,f1,f2,f3,f4,f5⟩:=hf it (by simp)
    have en:(n:Int) - 1 - (i:Int)=((n - 1 - i:Nat):Int):=by walk_at "o"
    rw[en] at st;refine wpAny_pyNext_rev_item st p.isList (x:=u) (by simpa using hu) fun h' st' sb=>?_;have I1:Inv X pins σ H { s with heap:=h' }:=I.turned (t':=s.toks) (fun b o hb e=>(sb.2 b hb).trans e) f0 f1 f3 f4 f5
    have en2:((n - 1 - i:Nat):Int) - 1=(n:Int) - 1 - ((i+1:Nat):Int):=by walk_at "o"
    rw[en2] at st';obtain⟨o,e,c,d⟩:=id st';exact⟨u,rfl,Xl0 (s:={ s with heap:=h' }) e c d (by decide) ⟨x,H,I1,ru,⟨rfl,fun ys hy=>by rw[I.list_inj hy hq];exact hx⟩,st',fun b hb=>(hf b hb).1⟩⟩
  done:=by
    intro X hP hw hK hc i pins s σ H E I hf st hg;subst hP hw hK;have hg':i=n:=hg;subst hg';obtain⟨f0,f1,f2,f3,f4,f5⟩:=hf it (by simp)
    have en:(i:Int) - 1 - (i:Int)=-1:=by walk_at "o"
    rw[en] at st;exact wpAny_pyNext_rev_end (I.ok.hd hc) st fun h' eb=>⟨rfl,I.turned (t':=s.toks) (fun b o hb e=>eb b o hb e) f0 f1 f3 f4 f5⟩
  self:=fun _ _ _ _ _ st h=>wpAny_pyIter_revIter st h
def iRev (K:W.Frag) (ta:TA):TI:=fun σ H R=>ta σ H fun vs H1=>∃ a xs,vs=[.ref a]∧SqL K H1 a xs∧R (Itv K a xs.length) H1
section
variable {X:Cx}
theorem Xq7 {tg e:Expr} {ta:TA} {p pos:Pos} (hg:Gl X "reversed") (hm:X.mg "reversed"=none) (ha:PA X [e] ta) (hs:starEach [e] X.env=[(false,eval e X.env)]:=by rfl) :
  PI X tg (.Call (.Name "reversed" p) [e] [] pos) (iRev X.K ta):=by
 intro pins s σ H R I h;refine Call_ (Ye9 I hg hm (by first | exact PySem.boot_reversed | rfl) (PyProof.Rows.callWith_type1 (thn (ha pos pins s σ H _ I h) fun us s1 ⟨vs,H1,I1,r1,q1⟩=>?_) (by rw[hs];rfl) rfl));obtain⟨l,xs,e,q1,q⟩:=q1;subst e;obtain⟨u1,rfl,ru1⟩:=r1.one;cases ru1;obtain⟨its1,rv1,p1,_⟩:=I1.list q1;have hlen:=rv1.length;refine call_reversed_list p1.isList ?_;have hit:Heap.IsRevIter (s1.heap.push (revObj l ((its1.toArray.size:Int) - 1))) s1.heap.objs.size l ((its1.toArray.size:Int) - 1):=⟨_,Heap.get?_push_size _ rfl,rfl,rfl⟩;refine wpAny_pyIter_revIter hit ?_;have I2:Inv X pins σ H1 { s1 with heap:=s1.heap.push (revObj l ((its1.toArray.size:Int) - 1)) }:=I1.kept (t':=s1.toks) fun b o e=>Heap.get?_push_of_some _ e
 have en:((its1.toArray.size:Nat):Int) - 1=(xs.length:Int) - 1 - ((0:Nat):Int):=by rw[List.size_toArray];walk_at "o"
 rw[en] at hit;rw[en] at I2;rw[en];refine⟨_,_,_,_,H1,rfl,I2,Xa2 l _ xs.length,hit,fun b hb=>?_,q⟩
 have e:b=s1.heap.objs.size:=by simpa using hb
 subst e;exact I1.fpOk (Nat.le_refl _) (I1.hok.fresh (Nat.le_refl _))
end
theorem Xl3 {K:W.Frag} {a:Addr} {xs:List V} {g:TG} {tb:TS} {D:Ends} {σ:St} {H:Hp} (Pv:Nat→St→Hp→Prop) (h0:Pv 0 σ H) (hl:∀ i σ H,i≤xs.length→Pv i σ H→SqL K H a xs)
  (hs:∀ i x σ H,i < xs.length→xs[xs.length - 1 - i]?=some x→Pv i σ H→g x σ H fun σ2 H2=>tb { D with nx:=Pv (i+1),ct:=Pv (i+1),bk:=D.nx } σ2 H2) (hd:∀ σ H,Pv xs.length σ H→D.nx σ H) :
  ∃ W:Nat→Nat→St→Hp→Prop,(∃ m,W 0 m σ H)∧∀ i m σ H,W i m σ H →
   ((Itv K a xs.length).stop i H∧D.nx σ H)∨((Itv K a xs.length).go i H∧∃ N:St→Hp→Prop,(∀ σ' H',N σ' H'→∃ m',m' < m∧W (i+1) m' σ' H')∧∀ x H',(Itv K a xs.length).yld i H x H'→g x σ H' fun σ2 H2=>tb { D with nx:=N,ct:=N,bk:=D.nx } σ2 H2):=by
 refine⟨fun i m σ H=>m=xs.length - i∧i≤xs.length∧Pv i σ H,⟨xs.length,by simp,Nat.zero_le _,h0⟩,?_⟩;rintro i m σ H ⟨rfl,hi,p⟩;have q:=hl i σ H hi p
 by_cases hlt:i < xs.length
 ·refine .inr ⟨⟨hlt,xs,xs[xs.length - 1 - i],q,List.getElem?_eq_getElem (by walk_at "o")⟩,Pv (i+1),fun σ' H' p'=>⟨xs.length - (i+1),by walk_at "o",rfl,hlt,p'⟩,fun x H' y=>?_⟩
  obtain⟨e,y⟩:=y;subst e;exact hs i x σ _ hlt (y xs q) p
 ·have e:i=xs.length:=by walk_at "o"
  subst e;exact .inl ⟨rfl,hd _ _ p⟩
def Zt4 (i:Nat) (f:Addr) (t:TE):TE:=fun σ H Q=>σ[i]?=some (some (.ref f))∧t σ H Q
section
variable {X:Cx}
theorem Zz5 {k:Nat} {CX:CXT} {E:XK} {f:Addr} {fd:FuncData} {ps:List Str} {sp:Sp} {ds:List Value} {dvs:List V} {x:Str} {p pos:Pos} {e:Expr} {es:List Expr} {t:TA} {i:Nat} (F:FnOk X.prog X.w X.K X.mg X.base CX k f fd ps sp) (hr:Room k X.A) (hN:X.N[i]?=some x) (hv:Vis X.env.scope x) (hk:W.keepIn X.K (.ref f)=true) (hb:Binds X.K fd ps ds) (hd:Vals dvs ds) (hx:Zp6 CX X E)
  (ha:PA X (e :: es) t) (hdb:(x == ("__debug__":Str))=false:=by decide) (hcd:(x == ("__classdict__":Str))=false:=by decide) (he:starEach (e :: es) X.env=(false,eval e X.env) :: starEach es X.env:=by rfl) (hpl:(backTo pos (starEach es X.env)).any (·.1)=false:=by rfl) :
  PE X (.Call (.Name x p) (e :: es) [] pos) (Zt4 i f (Zt5 sp dvs E t)):=by
 intro pins s σ H Q I h;obtain⟨h1,h2⟩:=h;refine wpAny_Call_Name_kw ?_;refine thn (Yt7 (X:=X) (i:=i) hN hv hdb hcd pins s σ H (fun v H1=>v=.ref f∧H1=H) I ⟨_,h1,rfl,rfl⟩) fun v s0 zq=>?_;obtain⟨y,H0,I0,r0,e1,e2⟩:=zq;subst e1;subst e2;cases (show v=Value.ref f from r0);refine W.callWith_K (h₀:=X.base) I0.ok.mod.kin hk (thn (ha pos pins s0 σ H0 _ I0 h2) fun us s1 ⟨vs,H1,I1,r,q⟩=>⟨I1.kIn,?_⟩) he hpl;exact Xe9 F hr hb hd hx I1 r q
end
end L2
namespace Ken
open PySem L2
theorem Zz3:∀ (t:Tm) (j:Nat),j < t.pre.length→∃ s rest,t.pre[j]?=some s∧t.pre.drop j=s.pre++rest∧s.parts≤t.parts
 | .low,j,h=>by
  have:j=0:=by have h':j < 1:=h;walk_at "o"
  subst this;exact⟨.low,[],rfl,rfl,Nat.le_refl _⟩
 | .ltr w,j,h=>by
  have:j=0:=by have h':j < 1:=h;walk_at "o"
  subst this;exact⟨.ltr w,[],rfl,rfl,Nat.le_refl _⟩
 | .nd k a b,0,h=>⟨.nd k a b,[],rfl,by rw[List.append_nil];rfl,Nat.le_refl _⟩
 | .nd k a b,j+1,h=>by
  have e1:(Tm.nd k a b).pre=.nd k a b :: (a.pre++b.pre):=rfl;have e2:(Tm.nd k a b).parts=1+a.parts+b.parts:=rfl;rw[e1] at h ⊢;rw[List.length_cons,List.length_append] at h;rw[List.getElem?_cons_succ,List.drop_succ_cons,e2]
  by_cases hj:j < a.pre.length
  ·obtain⟨s,rest,h1,h2,h3⟩:=Zz3 a j hj
   refine⟨s,rest++b.pre,by rw[List.getElem?_append_left hj];exact h1,?_,by walk_at "o"⟩;rw[List.drop_append_of_le_length (Nat.le_of_lt hj),h2,List.append_assoc]
  ·obtain⟨s,rest,h1,h2,h3⟩:=Zz3 b (j - a.pre.length) (by walk_at "o")
   refine⟨s,rest,by rw[List.getElem?_append_right (by walk_at "o")];exact h1,?_,by walk_at "o"⟩;rw[List.drop_append,List.drop_of_length_le (by walk_at "o"),List.nil_append];exact h2
theorem Zs4 (t:Tm):∃ l,t.pre=t :: l:=⟨_,t.pre_eq⟩
theorem Zo1 {fs:List Tm} {a:Tm} {rest:List Tm} (h:fs.flatMap Tm.pre=a.pre++rest):∃ fs',fs=a :: fs'∧fs'.flatMap Tm.pre=rest:=by
 cases fs with
 | nil =>
  obtain⟨l,e⟩:=Zs4 a;rw[e] at h;cases h
 | cons f fs =>
  obtain⟨l,e⟩:=Zs4 f;obtain⟨m,e'⟩:=Zs4 a;have h':=h;rw[List.flatMap_cons,e,e'] at h';have ef:f=a:=(List.cons.inj h').1;subst ef;rw[List.flatMap_cons] at h;exact⟨fs,rfl,List.append_cancel_left h⟩
theorem Yp6 {fs:List Tm} (h:fs.flatMap Tm.pre=[]):fs=[]:=by
 cases fs with
 | nil=>rfl
 | cons f fs =>
  obtain⟨l,e⟩:=Zs4 f;rw[List.flatMap_cons,e] at h;cases h
end Ken
namespace L2
open PySem PySem.Spec PyProof.Rows
noncomputable def posOf (s:Stmt):Pos:=match s with
 | .FunctionDef _ _ _ _ _ _ _ _ _ p=>p
 | _=>⟨0,0,0,0⟩
noncomputable def Xx7 (s:Stmt) (j:Nat):Stmt:=(Zc9 s).getD j (.Pass ⟨0,0,0,0⟩)
theorem Yt3 {X:Cx} {i:Nat} {name qual:Str} {st:Stmt} {cl:List (Str×Addr)} {c P:Addr} {ds:List (Pos×Str)}
  (hst:st=.FunctionDef name (Zd3 st) (Zc9 st) [] none [] (Za7 st) none name (posOf st))
  (hN:X.N.Nodup) (hi:X.N[i]?=some name) (hx:Loc X.env.scope name) (hcl:closureFor (Za7 st) X.env=pure cl) (hc:X.env.code=.ref c) (hC:∀ h,X.K.In h→W.CodeHd h c P) (hB:∀ h,X.K.In h→h.BuiltinsAt X.mg P) (hP:mainGlobals≠P)
  (hq:qualnameIn X.env name name=qual) (hd:(posOf st,qual)∈ds) (hds:∀ d∈ds,d.1.line=(posOf st).line→d.1.col=(posOf st).col→d.2=qual)
  (h1:(Zd3 st).defaults=[]) (h2:(Zd3 st).kw_defaults=[]) (h3:annTrees (Zd3 st) none X.env=[])
  (hf:X.fn name=true∨X.env.scope.names.lookup name=some .local:=by first | exact .inl rfl | exact .inr rfl | assumption) :
  PS X st (tDef i name qual (Zd3 st) (Zc9 st) (Za7 st) cl P ds):=by
 have h:=Xq4 (X:=X) (pos:=posOf st) (body:=Zc9 st) hN hi hx hcl hc hC hB hP hq hd hds h1 h2 h3 hf;rw[← hst] at h;exact h
theorem Yx9 {K:W.Frag} {c:Addr} {o:Obj} {vs:Array Value} {q:Str} {t:Tok} (h:K.lookup c=some o) (hd:o.data=.fields vs) (hv:vs[1]?=some (.str q t)):W.codeIn K (.ref c) q=true:=by
 obtain⟨cls,dict,data,slots⟩:=o;have hd:data=.fields vs:=hd;subst hd;unfold W.codeIn;dsimp only;rw[show List.lookup c K=_ from h];obtain⟨l⟩:=vs
 have hv:l[1]?=some (.str q t):=by simpa using hv
 match l,hv with
 | a :: b :: r,hv =>
  have hb:b=.str q t:=by simpa using hv
  subst hb;show (q == q)=true;simp
theorem Yf5 {K:W.Frag} {f:Addr} {oc:Value} {od:Option Addr} {fd:FuncData} {sl:Array (Option Value)} (h:K.lookup f=some ⟨oc,od,.func fd,sl⟩):W.keepIn K (.ref f)=true:=by
 unfold W.keepIn;dsimp only;rw[show List.lookup f K=_ from h]
theorem Yy0 {K K':W.Frag} (k:KLe K K') {cd:Value} {q:Str} (h:W.codeIn K cd q=true):W.codeIn K' cd q=true:=by
 cases cd with
 | ref c =>
  unfold W.codeIn at h ⊢;dsimp only at h ⊢
  cases z:List.lookup c K with
  | none=>rw[z] at h;cases h
  | some o =>
   rw[z] at h;rw[show List.lookup c K'=some o from k c o z];exact h
 | _=>exact absurd h (by simp[W.codeIn])
theorem Fun.le {K K':W.Frag} (k:KLe K K') {x qual:Str} {st:Stmt} {f:Addr} {fd:FuncData} (F:Fun K x qual st f fd):Fun K' x qual st f fd:=by
 obtain⟨⟨oc,od,kV,doc,pm,an,cdv,ct,osl,e,lk,hcd⟩,kp⟩:=F;exact⟨⟨oc,od,kV,doc,pm,an,cdv,ct,osl,e,k _ _ lk,Yy0 k hcd⟩,Yf5 (k _ _ lk)⟩
theorem Binds.le {K K':W.Frag} (k:KLe K K') {fd:FuncData} {ps:List Str} {ds:List Value} (b:Binds K fd ps ds):Binds K' fd ps ds:=fun s us h hl=>b s us (fun a o e=>h a o (k a o e)) hl
theorem SqT.le {K K':W.Frag} (k:KLe K K') {H:Hp} {a:Addr} {xs:List V} (h:SqT K H a xs):SqT K' H a xs:=by
 rcases h with h | ⟨o,its,n,e,r⟩
 ·exact .inl h
 ·exact .inr ⟨o,its,n,k a o e,r⟩
structure FunT (K:W.Frag) (x qual:Str) (st:Stmt) (f:Addr) (fd:FuncData) (P:Addr):Prop where
 ex:∃ (oc:Value) (od:Option Addr) (kV doc pm:Value) (an:Option Addr) (c:Addr) (ct:Value) (osl:Array (Option Value)),
  fd=W.fnOf x qual (Zd3 st) (Zc9 st) (Za7 st) .none kV doc pm an (.ref c) ct∧K.lookup f=some ⟨oc,od,.func fd,osl⟩∧W.codeIn K (.ref c) qual=true∧∀ h,K.In h→W.CodeHd h c P
 kp:W.keepIn K (.ref f)=true
theorem FunT.ok {P:Program} {w:World} {K:W.Frag} {mg:Str→Option Value} {base:Heap} {x qual:Str} {st:Stmt} {f:Addr} {fd:FuncData} {T:Addr} {N ps:List Str} {k:Nat} {sp:Sp} (F:FunT K x qual st f fd T) (S:FnScope N ps (Za7 st)) (len:∀ vs H Q E,sp vs H Q E→vs.length=ps.length)
  (hbody:∀ (c:Addr) (A:Around) (outer:List Env) (s:Shared) (H:Hp) (vs:List V) (Q:VK) (E:XK),(∀ h,K.In h→W.CodeHd h c T)→Room k (A.deeper (envOfC qual (Za7 st) s.heap.objs.size f (.ref c)))→sp vs H Q E →
   ∃ t,PSs (cxOf CX0 P w K mg base N qual (Za7 st) f (.ref c) A outer s H E).nox (Zc9 st) t∧t { nx:=fun _ H'=>Q .non H',rt:=Q } (start N vs) H):FnOk P w K mg base CX0 (k+1) f fd ps sp:=by
 obtain⟨oc,od,kV,doc,pm,an,c,ct,osl,rfl,lk,hcd,hC⟩:=F.ex;refine fn_of lk hcd S len fun A outer s H vs Q E hr hsp=>?_;obtain⟨t,h,q⟩:=hbody c A outer s H vs Q E hC hr hsp;exact⟨t,h.nox,q⟩
structure FunC (K:W.Frag) (x qual:Str) (st:Stmt) (cl:List (Str×Addr)) (f:Addr) (fd:FuncData):Prop where
 ex:∃ (oc:Value) (od:Option Addr) (doc pm cdv ct:Value) (osl:Array (Option Value)),
  fd=W.fnX x qual (Zd3 st) (Zc9 st) (Za7 st) cl .none .none doc pm none cdv ct∧K.lookup f=some ⟨oc,od,.func fd,osl⟩∧W.codeIn K cdv qual=true
 kp:W.keepIn K (.ref f)=true
theorem FunC.ok {P:Program} {w:World} {K:W.Frag} {mg:Str→Option Value} {base:Heap} {x qual:Str} {st:Stmt} {cl:List (Str×Addr)} {f:Addr} {fd:FuncData} {N ps fv:List Str} {frv:List V} {k:Nat} {sp:Sp} (F:FunC K x qual st cl f fd) (S:FnScopeC N ps fv (Za7 st)) (C:Caught K (Za7 st) cl fv frv) (len:∀ vs H Q E,sp vs H Q E→vs.length=ps.length)
  (hbody:∀ (cdv:Value) (A:Around) (outer:List Env) (s:Shared) (H:Hp) (vs:List V) (Q:VK) (E:XK),Room k (A.deeper (W.envX qual (Za7 st) s.heap.objs.size f cdv cl))→sp vs H Q E →
   ∃ t,PSs (cxC CX0 P w K mg base N qual (Za7 st) f cdv cl A outer s H E).nox (Zc9 st) t∧t { nx:=fun _ H'=>Q .non H',rt:=Q } (start N (vs++frv)) H):FnOk P w K mg base CX0 (k+1) f fd ps sp:=by
 obtain⟨oc,od,doc,pm,cdv,ct,osl,rfl,lk,hcd⟩:=F.ex;refine Xx8 lk hcd S C len fun A outer s H vs Q E hr hsp=>?_;obtain⟨t,h,q⟩:=hbody cdv A outer s H vs Q E hr hsp;exact⟨t,h.nox,q⟩
theorem FunC.binds {K:W.Frag} {x qual:Str} {st:Stmt} {cl:List (Str×Addr)} {f:Addr} {fd:FuncData} {ps:List Str} (F:FunC K x qual st cl f fd)
  (h:∀ (doc pm cdv ct:Value) (us:List Value),us.length=ps.length→bindArgs (W.fnX x qual (Zd3 st) (Zc9 st) (Za7 st) cl .none .none doc pm none cdv ct) ⟨us,[]⟩=pure (ps.zip us)):Binds K fd ps []:=by
 obtain⟨oc,od,doc,pm,cdv,ct,osl,rfl,lk,hcd⟩:=F.ex;exact .all (h doc pm cdv ct)
theorem FnFz.objs {H:Hp} {f:Addr} {name qual:Str} {st:Stmt} {cl:List (Str×Addr)} (h:FnFz H f name qual (Zd3 st) (Zc9 st) (Za7 st) cl) :
  ∃ (o1:Obj) (c:Addr) (o2:Obj),H f=some (FZ o1)∧H c=some (FZ o2)∧(∀ its n,o1.data≠.seq its n)∧(∀ its n,o2.data≠.seq its n) ∧
   ∀ K:W.Frag,K.lookup f=some o1→K.lookup c=some o2→∃ fd,FunC K name qual st cl f fd:=by
 obtain⟨doc,pm,ct,cv,h1,c,o,vs,t,rfl,h3,h4,h5⟩:=h;refine⟨_,c,o,h1,h3,?_,?_,fun K e1 e2=>⟨_,⟨_,_,doc,pm,_,ct,_,rfl,e1,Yx9 e2 h4 h5⟩,Yf5 e1⟩⟩
 ·intro its n z
  cases z
 ·intro its n z
  rw[h4] at z;cases z
def Xg7 (X:Cx) (K:W.Frag) (x:Str) (v:V):Prop:=∃ c o u,X.env.cells.lookup x=some c∧K.lookup c=some o∧o.data=.cell (some u)∧RelV v u
theorem Yg3 {X:Cx} {K:W.Frag} {sc:Scope} {fv:List Str} {frv:List V} (ok:X.Ok) (hlen:frv.length=fv.length) (h1:∀ y∈sc.names,y.2=.free→y.1∈fv) (h2:∀ x∈fv,(x,NameKind.free)∈sc.names)
  (hc:∀ (i:Nat) (x:Str) (v:V),fv[i]?=some x→frv[i]?=some v→Xg7 X K x v):Caught K sc (Zl0 X.env.cells sc.names []) fv frv:=by
 have at':∀ x c,(Zl0 X.env.cells sc.names []).lookup x=some c→x∈fv∧c=(X.env.cells.lookup x).getD 0:=fun x c e=>by
  rcases Zp4 (PySem.mem_of_lookup e) with z | ⟨z1,z2⟩
  ·exact absurd z (by simp)
  ·exact⟨h1 _ z1 rfl,z2⟩
 have val:∀ x∈fv,∃ i v,fv[i]?=some x∧frv[i]?=some v:=fun x hx=>by
  obtain⟨i,hi,e⟩:=List.getElem_of_mem hx;exact⟨i,frv[i]'(by walk_at "o"),by rw[List.getElem?_eq_getElem hi,e],List.getElem?_eq_getElem _⟩
 have lk:∀ x,x∈fv→∃ c,(Zl0 X.env.cells sc.names []).lookup x=some c:=fun x hx=>by
  obtain⟨c,hm⟩:=Zp5 (cells:=X.env.cells) (acc:=[]) (.inl (h2 x hx));exact Zo8 hm
 refine⟨hlen,fun i x v e1 e2=>?_,fun x c e=>?_,fun x y c e1 e2=>?_,fun x e=>?_⟩
 ·obtain⟨c,o,u,g1,g2,g3,g4⟩:=hc i x v e1 e2
  obtain⟨c',e⟩:=lk x (List.mem_of_getElem? e1);have:=(at' x c' e).2;rw[g1] at this;cases this;exact⟨c,o,u,e,g2,g3,g4⟩
 ·obtain⟨hx,hcv⟩:=at' x c e
  obtain⟨i,v,e1,e2⟩:=val x hx;obtain⟨c',o,u,g1,g2,g3,g4⟩:=hc i x v e1 e2;rw[g1] at hcv;cases hcv;exact⟨o,_,g2,g3⟩
 ·obtain⟨hx,hcx⟩:=at' x c e1
  obtain⟨hy,hcy⟩:=at' y c e2;obtain⟨i,v,i1,i2⟩:=val x hx;obtain⟨j,u,j1,j2⟩:=val y hy;obtain⟨c1,_,_,g1,_⟩:=hc i x v i1 i2;obtain⟨c2,_,_,g2,_⟩:=hc j y u j1 j2;rw[g1] at hcx;rw[g2] at hcy;cases hcx;cases hcy;exact ok.inj x y _ g1 g2
 ·exact lk x (h1 _ (PySem.mem_of_lookup e) rfl)
end L2
namespace Ken
open PySem L2
theorem SameT.keepT {K:W.Frag} {H H':Hp} (e:SameT H H'):KeepT K H H':=fun a xs h=>by
 rcases h with (h | ⟨o,h⟩) | h
 ·exact .inl (.inl (e _ _ (fun _ z=>nomatch z) h))
 ·exact .inl (.inr ⟨o,e _ _ (fun _ z=>nomatch z) h⟩)
 ·exact .inr h
end Ken
namespace L2
open PySem PySem.Spec PyProof.Rows
structure CodeFs (vs:Array Value) (T:Addr):Prop where
 a:vs[11]?=some (.ref T)
 b:vs.getD 11 .none=.ref T
 c:∃ file tf,vs.getD 18 .none=.str file tf
 d:∃ flags tg,vs.getD 7 .none=.int flags tg
 e:∃ inF,vs.getD 9 .none=.bool inF
 f:∃ text tt,vs.getD 10 .none=.int text tt
theorem Yy1 {K:W.Frag} {c T:Addr} {od:Option Addr} {vs:Array Value} {sl:Array (Option Value)} (l:K.lookup c=some ⟨.type "code",od,.fields vs,sl⟩) (x:CodeFs vs T) (n:c≠T) (h:Heap) (k:K.In h):W.CodeHd h c T:=by
 obtain⟨file,tf,h1⟩:=x.c;obtain⟨flags,tg,h2⟩:=x.d;obtain⟨inF,h3⟩:=x.e;obtain⟨text,tt,h4⟩:=x.f;exact⟨_,vs,file,tf,flags,tg,inF,text,tt,k _ _ l,rfl,rfl,x.a,x.b,h1,h2,h3,h4,n⟩
theorem Xl2 {K:W.Frag} {x qual:Str} {st:Stmt} {f:Addr} {oc:Value} {od an:Option Addr} {osl:Array (Option Value)} {kV doc pm ct:Value} {c T:Addr} (l:K.lookup f=some ⟨oc,od,.func (W.fnOf x qual (Zd3 st) (Zc9 st) (Za7 st) .none kV doc pm an (.ref c) ct),osl⟩)
  (cc:W.codeIn K (.ref c) qual=true) (k:W.keepIn K (.ref f)=true) (hC:∀ h,K.In h→W.CodeHd h c T):FunT K x qual st f (W.fnOf x qual (Zd3 st) (Zc9 st) (Za7 st) .none kV doc pm an (.ref c) ct) T:=⟨⟨oc,od,kV,doc,pm,an,c,ct,osl,rfl,l,cc,hC⟩,k⟩
end L2
namespace Hd
open PySem PySem.W PySem.Calls PyProof.Rows
noncomputable abbrev pos0:Pos:=⟨0,0,0,0⟩
noncomputable def o11:Obj:={ cls:=.type "tuple",data:=.seq #[] }
noncomputable def o12:Obj:={ cls:=.none,data:=.fields #[] }
noncomputable def o13:Obj:={ cls:=.type "code",data:=.fields #[.str (Str.ofString "<module>") 182,.str (Str.ofString "<module>") 183,.str (Str.ofString "/claim/cut.py") 184,.int 1 0,.int 0 0,.int 0 0,.int 0 0,.int 0 0,.ref 11,.bool false,.int 181 0,.ref 12,.none,.none,.none,.none,.int 185 0,.int 1 0,.str (Str.ofString "/claim/cut.py") 186] }
noncomputable def o14:Obj:={ cls:=.type "frame",slots:=#[some (.ref 13),some (.ref 3),some (.ref 3),none,some (.str (Str.ofString "__main__") 164),none,some (.ref 0)] }
noncomputable def Xz5 (P:Params):BT :=
 (.node (boot_o_0 P) (.node (boot_o_1 P) (.node (boot_o_3 P) (.node (boot_o_7 P) .nil .nil) (.node o11 .nil .nil)) (.node (boot_o_5 P) (.node (boot_o_9 P) .nil .nil) (.node o13 .nil .nil))) (.node (boot_o_2 P) (.node (boot_o_4 P) (.node (boot_o_8 P) .nil .nil) (.node o12 .nil .nil)) (.node (boot_o_6 P) (.node (boot_o_10 P) .nil .nil) (.node o14 .nil .nil))))
noncomputable abbrev annB:Option Value:=some (.ref 6)
noncomputable def Xd4 (p:Program):Env:={ scope:=p.main.scope,locals:=mainNs,globals:=mainNs,cells:=[],code:=.ref 13,frame:=some 14 }
noncomputable def Zp2 (p:Program):Code:=.body (behindTheImports p) (Xd4 p)
noncomputable def SB (w:World) (os:OsState):SharedT:=⟨Xz5 w.params,15,{},#[],{},187,os⟩
noncomputable def S0 (w:World) (os:OsState):Shared:=⟨boot_heap w.params,Array.mk [],boot_drawn,boot_toks,os⟩
noncomputable def pre (p:Program) (w:World) (os:OsState):=topGo treeTable p w 11 annB 12 (S0 w os) (topStub p)
noncomputable def preTo (p:Program) (w:World) (os:OsState):Option (Shared×Thread):=some ((SB w os).abs,⟨denote treeTable (Zp2 p),Zp2 p,pos0,[topFrame pos0]⟩)
noncomputable def blk (p:Program) (w:World) (os:OsState):=segRun treeTable p w 11 annB 1 1 (SB w os).abs (blockOf (behindTheImports p) (Xd4 p) (Zp2 p) pos0 [topFrame pos0])
noncomputable def blkTo (p:Program) (w:World) (os:OsState):Option (Flow×Shared×Code×Pos):=some (.next,(SB w os).abs,Zp2 p,pos0)
noncomputable def run (p:Program) (n:Nat) (w:World) (os:OsState):=segRunT treeTable p w 11 annB 1 n (SB w os) (piecesOf (behindTheImports p) (Xd4 p) (Zp2 p) pos0 [topFrame pos0])
noncomputable def fin (p:Program) (e:Pos) (w:World) (x:SharedT):Option Shared:=topRun treeTable p w 11 annB 2 x.abs ⟨doneF .next,Zp2 p,e,[topFrame pos0]⟩
noncomputable def kept (p:Program) (w:World) (s:Shared):Bool:=staticsOk (importedModules p.main.body) (boot_heap w.params) s.heap&&namesBound p s.heap&&gensDone s&&laidKept (boot_heap w.params) s.heap
noncomputable def ev {α:Type} (p q:Program) (loose:List Str) (lv:List (Str×WData)) (Yf:Shared→α) (n:Nat) (e:Pos) (w:World) (os:OsState) :=
 (run p n w os).map fun x=>(x.1,x.2.2,(fin p e w x.2.1).map fun s=>(kept p w s,openSeen q loose (importedModules p.main.body) (fun s=>xlAt q lv s&&recOk [] s) true s,Yf s))
noncomputable def evTo {α:Type} (p q:Program) (loose:List Str) (Ya:World→α) (e:Pos) (w:World) :=
 some (Flow.next,(Zp2 p,e),some (true,(expectedOf q,bltViewBooted,true,true,pinGoodD (drecsOf q),
  plainGoodE q (looseW q loose),plainGoodD q loose,wideGood q,clsGoodW q loose),Ya w))
theorem Xm9 (w:World) (os:OsState):((S0 w os).heap.isNs mainGlobals&&(S0 w os).gens.size == 0)=true∧(S0 w os).heap.objs.size=11∧(S0 w os).heap.nsMap mainGlobals "__annotations__"=annB:=by
 refine⟨?_,?_,?_⟩<;>kernel_rfl
theorem left {α:Type} {p q:Program} {loose:List Str} {lv:List (Str×WData)} {Yf:Shared→α} {Ya:World→α} {N n:Nat} {e:Pos}
  (ho:opening p=plainProg p.main.scope.names) (hN:Nat.ble 600 N=true) (hf:∀ s,fenceModules? p s=some s)
  (h1:∀ w,(fun os=>pre p w os)=fun os=>preTo p w os) (h2:∀ w,(fun os=>blk p w os)=fun os=>blkTo p w os)
  (h3:∀ w,(fun os=>ev p q loose lv Yf n e w os)=fun _=>evTo p q loose Ya e w) (hl:Nat.ble (12+(1+(n+2))) N=true) :
  LeftO p q loose (fun s=>xlAt q lv s&&recOk [] s) Yf Ya N:=fun w=>by
 obtain⟨s,es,eb⟩:=Option.map_eq_some_iff.mp (boot_open ho hN hf w);obtain⟨hp,gs,dr,tk,os⟩:=s;have sz:=Xm9 w os
 obtain⟨rfl,rfl,rfl,rfl⟩:hp=boot_heap w.params∧gs=Array.mk []∧dr=boot_drawn∧tk=boot_toks:=by
  have:=eb;simp only[Prod.mk.injEq] at this;exact this
 obtain⟨x,ex,ey⟩:=Option.map_eq_some_iff.mp (congrFun (h3 w) os);obtain⟨f,xT,c,pe⟩:=x;have q1:=(Prod.mk.inj ey).1;have q2:=(Prod.mk.inj (Prod.mk.inj ey).2).1;have q3:=(Prod.mk.inj (Prod.mk.inj ey).2).2;dsimp only at q1 q2 q3;subst q1;cases q2;obtain⟨s1,e1,e2⟩:=Option.map_eq_some_iff.mp q3;have r3:topRun treeTable p w 11 annB (n+2) (SB w os).abs (restOf (behindTheImports p++[]) (Xd4 p) (Zp2 p) pos0 [topFrame pos0])=some s1:=piece_app (segRun_of ex) (piece_nil e1);rw[List.append_nil] at r3;have r2:=piece_block (congrFun (h2 w) os) r3;have r1:=go_top (congrFun (h1 w) os) r2;have r0:=topRun_mono (N - (12+(1+(n+2)))) _ _ _ _ r1;rw[show 12+(1+(n+2))+(N - (12+(1+(n+2))))=N by have:=Nat.le_of_ble_eq_true hl;walk_at "o"] at r0;have k1:=(Prod.mk.inj e2).1;have k2:=(Prod.mk.inj (Prod.mk.inj e2).2).1;have k3:=(Prod.mk.inj (Prod.mk.inj e2).2).2
 have t:topFrom treeTable p w N (S0 w os)=some s1:=by
  unfold topFrom;rw[sz.1,sz.2.1,sz.2.2];dsimp only;rw[r0,Option.bind_some];have k1':(staticsOk (importedModules p.main.body) (S0 w os).heap s1.heap&&namesBound p s1.heap&&gensDone s1&&laidKept (S0 w os).heap s1.heap)=true:=k1;rw[k1']
 unfold openEnds;rw[es,Option.bind_some];have t':=congrArg (Option.map fun s=>(openSeen q loose (importedModules p.main.body) (fun s=>xlAt q lv s&&recOk [] s) true s,Yf s)) t;exact t'.trans (congrArg some (Prod.ext k2 k3))
theorem pre_self:@pre=@pre:=rfl
theorem preTo_self:@preTo=@preTo:=rfl
theorem blk_self:@blk=@blk:=rfl
theorem blkTo_self:@blkTo=@blkTo:=rfl
end Hd
name_quick hdPre for Hd.pre by Hd.pre_self
name_quick hdPreTo for Hd.preTo by Hd.preTo_self
name_quick hdBlk for Hd.blk by Hd.blk_self
name_quick hdBlkTo for Hd.blkTo by Hd.blkTo_self
namespace Hd
open PySem PySem.W PySem.Calls PyProof.Rows
noncomputable def evA (p:Program) (n:Nat) (e:Pos) (w:World) (os:OsState):=(run p n w os).map fun x=>(x.1,x.2.2,(fin p e w x.2.1).map fun s=>kept p w s)
noncomputable def evATo (p:Program) (e:Pos):=some (Flow.next,(Zp2 p,e),some true)
noncomputable def Xo2 (p q:Program) (loose:List Str) (lv:List (Str×WData)) (s:Shared):=((openSeen q loose (importedModules p.main.body) (fun s=>xlAt q lv s&&recOk [] s) true s).1,(openSeen q loose (importedModules p.main.body) (fun s=>xlAt q lv s&&recOk [] s) true s).2.1,(openSeen q loose (importedModules p.main.body) (fun s=>xlAt q lv s&&recOk [] s) true s).2.2.1)
noncomputable def Xo1 (p q:Program) (loose:List Str) (lv:List (Str×WData)) (s:Shared):=(openSeen q loose (importedModules p.main.body) (fun s=>xlAt q lv s&&recOk [] s) true s).2.2.2
noncomputable def evB (p q:Program) (loose:List Str) (lv:List (Str×WData)) (n:Nat) (e:Pos) (w:World) (os:OsState):=(run p n w os).map fun x=>(fin p e w x.2.1).map fun s=>Xo2 p q loose lv s
noncomputable def evBTo (q:Program):=some (some (expectedOf q,bltViewBooted,true))
noncomputable def evD (p q:Program) (loose:List Str) (lv:List (Str×WData)) (n:Nat) (e:Pos) (w:World) (os:OsState):=(run p n w os).map fun x=>(fin p e w x.2.1).map fun s=>Xo1 p q loose lv s
noncomputable def evDTo (q:Program) (loose:List Str):=some (some (true,pinGoodD (drecsOf q),plainGoodE q (looseW q loose),plainGoodD q loose,wideGood q,clsGoodW q loose))
noncomputable def evC {α:Type} (p:Program) (Yf:Shared→α) (n:Nat) (e:Pos) (w:World) (os:OsState):=(run p n w os).map fun x=>(fin p e w x.2.1).map fun s=>Yf s
noncomputable def evCTo {α:Type} (Ya:World→α) (w:World):=some (some (Ya w))
theorem ev_of {α:Type} {p q:Program} {loose:List Str} {lv:List (Str×WData)} {Yf:Shared→α} {Ya:World→α} {n:Nat} {e:Pos} {w:World}
  (hA:(fun os=>evA p n e w os)=fun _=>evATo p e) (hB:(fun os=>evB p q loose lv n e w os)=fun _=>evBTo q) (hD:(fun os=>evD p q loose lv n e w os)=fun _=>evDTo q loose) (hC:(fun os=>evC p Yf n e w os)=fun _=>evCTo Ya w) :
  (fun os=>ev p q loose lv Yf n e w os)=fun _=>evTo p q loose Ya e w:=by
 funext os
 have a:=congrFun hA os;have b:=congrFun hB os;have c:=congrFun hC os;have d:=congrFun hD os;unfold evD evDTo at d;unfold evA evATo at a;unfold evB evBTo at b;unfold evC evCTo at c;unfold ev evTo
 cases hr:run p n w os with
 | none=>rw[hr] at a;cases a
 | some x =>
  rw[hr] at a b c d;have a:=Option.some.inj a;have b:=Option.some.inj b;have c:=Option.some.inj c;have d:=Option.some.inj d;dsimp only at a b c d;obtain⟨a1,a2⟩:=Prod.mk.inj a;obtain⟨a2,a3⟩:=Prod.mk.inj a2;show some (x.1,x.2.2,_)=_
  cases hf:fin p e w x.2.1 with
  | none=>rw[hf] at a3;cases a3
  | some s =>
   rw[hf] at a3 b c d;have a3:=Option.some.inj a3;have b:=Option.some.inj b;have c:=Option.some.inj c;have d:=Option.some.inj d;dsimp only at a3 b c d;unfold Xo2 at b;unfold Xo1 at d;obtain⟨b1,b2⟩:=Prod.mk.inj b;obtain⟨b2,b3⟩:=Prod.mk.inj b2;have o:openSeen q loose (importedModules p.main.body) (fun s=>xlAt q lv s&&recOk [] s) true s=(expectedOf q,bltViewBooted,true,true,pinGoodD (drecsOf q),plainGoodE q (looseW q loose),plainGoodD q loose,wideGood q,clsGoodW q loose):=Prod.ext b1 (Prod.ext b2 (Prod.ext b3 d));rw[a1,a2];show some (_,_,some (kept p w s,_,_))=_;rw[a3,o,c]
theorem evA_self:@evA=@evA:=rfl
theorem evB_self:@evB=@evB:=rfl
theorem evD_self:@evD=@evD:=rfl
theorem evDTo_self:@evDTo=@evDTo:=rfl
theorem evC_self:@evC=@evC:=rfl
end Hd
name_quick hdEvA for Hd.evA by Hd.evA_self
name_quick hdEvB for Hd.evB by Hd.evB_self
name_quick hdEvD for Hd.evD by Hd.evD_self
name_quick hdEvDTo for Hd.evDTo by Hd.evDTo_self
name_quick hdEvC for Hd.evC by Hd.evC_self
namespace Hd
open PySem PySem.W PySem.Calls PyProof.Rows L2
noncomputable def pick (h:Heap) (as:List Addr):Frag:=as.filterMap fun a=>(h.get? a).map fun o=>(a,o)
theorem Yt5 (h:Heap):∀ as:List Addr,(pick h as).In h
 | []=>fun _ _ e=>by cases e
 | b :: as=>fun a o e=>by
  have ih:=Yt5 h as a o;have e':List.lookup a (pick h (b :: as))=some o:=e;unfold pick at e';rw[List.filterMap_cons] at e'
  cases z:h.get? b with
  | none=>rw[z] at e';exact ih e'
  | some u =>
   rw[z] at e';dsimp only[Option.map] at e';rw[List.lookup_cons] at e'
   split at e'
   ·rename_i hb
    have:=eq_of_beq hb;subst this;cases e';exact z
   ·exact ih e'
noncomputable def stAt (p:Program) (i:Nat):Stmt:=p.main.body.getD i (.Pass ⟨0,0,0,0⟩)
noncomputable def nm:Stmt→Str
 | .FunctionDef n _ _ _ _ _ _ _ _ _=>n
 | .ClassDef n _ _ _ _ _ _ _ _ _ _=>n
 | .Assign [.Name n _] _ _=>n
 | _=>Str.empty
noncomputable def Yx7:PySem.Expr→Str
 | .Constant (.str s) _ _=>s
 | .Name n _=>n
 | _=>Str.empty
noncomputable def Yk5:Stmt→List Str
 | .Assign _ (.Tuple es _ _) _=>es.map Yx7
 | _=>[]
noncomputable def Zf7:Stmt→List (Str×Str)
 | .Assign _ (.Dict ks vs _) _=>List.zip (ks.map fun k=>match k with | some e=>Yx7 e | none=>Str.empty) (vs.map Yx7)
 | _=>[]
structure Ask where
 fns:List Nat
 tups:List Nat
 kfs:List Nat
 kds:List Nat
 bl:List Str
noncomputable abbrev FnD:=Str×Str×Arguments×FuncBody×Scope×Addr×List (Str×Addr)×Value×Addr×Bool
noncomputable def fnD (K:Frag) (fd:FuncData):FnD:=(fd.name,fd.qualname,fd.params,fd.body,fd.scope,fd.globals,fd.closure,fd.defaults,fd.builtins,codeIn K fd.code fd.qualname)
noncomputable def Zi0 (K:Frag) (x:Str):Option (Addr×Obj):=match nsIn K mainGlobals x with
 | some (some (.ref f))=>(K.lookup f).map fun o=>(f,o)
 | _=>none
noncomputable def Zp0 (K:Frag) (x:Str):Option FnD:=match Zi0 K x with
 | some (_,⟨_,_,.func fd,_⟩)=>some (fnD K fd)
 | _=>none
noncomputable def Zr8 (st:Stmt):Option FnD:=some (nm st,nm st,Zd3 st,.stmts (Zc9 st),Za7 st,mainGlobals,[],.none,builtinsNs,true)
theorem Yl2 {K:Frag} {x:Str} {r:Addr×Obj} (e:Zi0 K x=some r):nsIn K mainGlobals x=some (some (.ref r.1))∧K.lookup r.1=some r.2:=by
 unfold Zi0 at e
 split at e
 ·rename_i f hf
  obtain⟨o,e1,e2⟩:=Option.map_eq_some_iff.mp e;subst e2;exact⟨hf,e1⟩
 ·cases e
theorem fn_of {K:Frag} {st:Stmt} (e:Zp0 K (nm st)=Zr8 st):∃ (f:Addr) (oc:Value) (od:Option Addr) (sl:Array (Option Value)) (kV dc pm:Value) (an:Option Addr) (cd ct:Value),
  nsIn K mainGlobals (nm st)=some (some (.ref f))∧K.lookup f=some ⟨oc,od,.func (fnOf (nm st) (nm st) (Zd3 st) (Zc9 st) (Za7 st) .none kV dc pm an cd ct),sl⟩∧codeIn K cd (nm st)=true∧keepIn K (.ref f)=true:=by
 unfold Zp0 at e
 split at e
 ·rename_i f oc od fd sl h
  obtain⟨h1,h2⟩:=Yl2 h;dsimp only at h1 h2;obtain⟨a1,a2,a3,a4,a5,a6,a7,a8,a9,a10,a11,a12,a13,a14,a15⟩:=fd;have e:=Option.some.inj e;simp only[fnD,Prod.mk.injEq] at e;obtain⟨rfl,rfl,rfl,rfl,rfl,rfl,rfl,rfl,rfl,hc⟩:=e;refine⟨f,oc,od,sl,_,_,_,_,_,_,h1,h2,hc,?_⟩;show (match K.lookup f with | some ⟨_,_,.func _,_⟩=>true | some ⟨_,_,.cls _,_⟩=>specialIn K (.ref f) "__call__" == some (some (.builtin "type.__call__")) | _=>false)=true;rw[h2]
 ·cases e
noncomputable def Zt6:Value→Option Str
 | .str s _=>some s
 | _=>none
theorem Zx9 {v:Value} {s:Str} (e:Zt6 v=some s):∃ t,v=.str s t:=by
 unfold Zt6 at e
 split at e
 ·cases e;exact⟨_,rfl⟩
 ·cases e
noncomputable def Zp8 (K:Frag) (x:Str):Option (Value×List (Option Str)):=match Zi0 K x with
 | some (_,⟨c,_,.seq vs _,_⟩)=>some (c,vs.toList.map Zt6)
 | _=>none
noncomputable def Zs9 (st:Stmt):Option (Value×List (Option Str)):=some (.type "tuple",(Yk5 st).map some)
theorem Yb6:∀ {l:List Str} {vs:List Value},vs.map Zt6=l.map some→Vals (l.map V.str) vs
 | [],[],_=>.nil
 | [],_ :: _,e=>by cases e
 | _ :: _,[],e=>by cases e
 | s :: l,v :: vs,e=>by
  have e1:=(List.cons.inj e).1;have e2:=(List.cons.inj e).2;exact .cons (Zx9 e1) (Yb6 e2)
theorem Xn2 {K:Frag} {st:Stmt} (e:Zp8 K (nm st)=Zs9 st) (hl:(Yk5 st).length≤sizeLine):∃ a:Addr,nsIn K mainGlobals (nm st)=some (some (.ref a))∧∀ H,SqT K H a ((Yk5 st).map V.str):=by
 unfold Zp8 at e
 split at e
 ·rename_i a c od vs n sl h
  obtain⟨h1,h2⟩:=Yl2 h;have e:=Option.some.inj e;obtain⟨rfl,e2⟩:=Prod.mk.inj e;refine⟨a,h1,fun H=>.inr ⟨_,_,_,h2,rfl,rfl,?_,Yb6 e2⟩⟩;have:=congrArg List.length e2;rw[List.length_map,List.length_map,Array.length_toList] at this;rw[this];exact hl
 ·cases e
noncomputable abbrev DiD:=Value×Option Addr×Array (Option Value)×Bool×Nat×List (Int×Option Str×Bool)
noncomputable def Xk0 (K:Frag) (e:DictEntry) (kf:Str×Str):Int×Option Str×Bool:=(e.hash,Zt6 e.key,nsIn K mainGlobals kf.2 == some (some e.val))
noncomputable def Zx0 (K:Frag) (x:Str) (kfs:List (Str×Str)):Option DiD:=match Zi0 K x with
 | some (a,⟨c,od,.dict es _,sl⟩)=>some (c,od,sl,a == sysModules,es.toList.length,List.zipWith (Xk0 K) es.toList kfs)
 | _=>none
noncomputable def Yf2 (P:Params) (kfs:List (Str×Str)):Option DiD:=some (.type "dict",none,#[],false,kfs.length,kfs.map fun kf=>(PyData.keyHash P kf.1,some kf.1,true))
theorem Ym4 {K:Frag} {w:World}:∀ {kfs:List (Str×Str)} {es:List DictEntry} {fs:List Addr},es.length=kfs.length→List.zipWith (Xk0 K) es kfs=kfs.map (fun kf=>(PyData.keyHash w.params kf.1,some kf.1,true)) →
  Paired (fun (kf:Str×Str) (f:Addr)=>nsIn K mainGlobals kf.2=some (some (.ref f))) kfs fs →
  Paired (fun (p:Str×V) (e:DictEntry)=>(∃ tk,e.key=.str p.1 tk)∧e.hash=PyData.keyHash w.params p.1∧RelV p.2 e.val) (List.zipWith (fun kf f=>(kf.1,V.ref f)) kfs fs) es
 | [],[],_,_,_,r=>by cases r;exact .nil
 | [],_ :: _,_,h,_,_=>by cases h
 | _ :: _,[],_,h,_,_=>by cases h
 | kf :: kfs,e :: es,_,h,q,r=>by
  cases r with
  | @cons _ f _ fs h1 t =>
   have q1:=(List.cons.inj q).1;have q2:=(List.cons.inj q).2;simp only[Xk0,Prod.mk.injEq] at q1;obtain⟨q3,q4,q5⟩:=q1;have q6:=eq_of_beq q5;rw[h1] at q6;refine .cons ⟨Zx9 q4,q3,?_⟩ (Ym4 (Nat.succ.inj h) q2 t);have:e.val=.ref f:=(Option.some.inj (Option.some.inj q6)).symm;rw[this];exact rfl
theorem Wa4 {K:Frag} {w:World} {st:Stmt} (e:Zx0 K (nm st) (Zf7 st)=Yf2 w.params (Zf7 st)) (fs:List Addr) (hf:Paired (fun (kf:Str×Str) (f:Addr)=>nsIn K mainGlobals kf.2=some (some (.ref f))) (Zf7 st) fs)
  (nd:((List.zipWith (fun kf f=>(kf.1,V.ref f)) (Zf7 st) fs).map (·.1)).Nodup):∃ a:Addr,nsIn K mainGlobals (nm st)=some (some (.ref a))∧KDict K w a (List.zipWith (fun kf f=>(kf.1,V.ref f)) (Zf7 st) fs):=by
 unfold Zx0 at e
 split at e
 ·rename_i a c od es n sl h
  obtain⟨h1,h2⟩:=Yl2 h;have e:=Option.some.inj e;simp only[Prod.mk.injEq] at e;obtain⟨rfl,rfl,rfl,e4,e5,e6⟩:=e;exact⟨a,h1,⟨_,es,n,h2,⟨rfl,rfl,rfl⟩,rfl,Ym4 e5 e6 hf⟩,nd,e4⟩
 ·cases e
noncomputable abbrev DsD:=Value×Option Addr×Array (Option Value)×Bool×List (Int×Option Str×Option Str)
noncomputable def Xx2 (K:Frag) (x:Str):Option DsD:=match Zi0 K x with
 | some (a,⟨c,od,.dict es _,sl⟩)=>some (c,od,sl,a == sysModules,es.toList.map fun e=>(e.hash,Zt6 e.key,Zt6 e.val))
 | _=>none
noncomputable def Xx1 (P:Params) (kvs:List (Str×Str)):Option DsD:=some (.type "dict",none,#[],false,kvs.map fun kv=>(PyData.keyHash P kv.1,some kv.1,some kv.2))
noncomputable abbrev Obs:=List (Option FnD)×List (Option (Value×List (Option Str)))×List (Option DiD)×List (Option DsD)×List (Option (Option Value))
noncomputable def obsK (p:Program) (A:Ask) (K:Frag):Obs :=
 (A.fns.map fun i=>Zp0 K (nm (stAt p i)),A.tups.map fun i=>Zp8 K (nm (stAt p i)),A.kfs.map fun i=>Zx0 K (nm (stAt p i)) (Zf7 (stAt p i)),A.kds.map fun i=>Xx2 K (nm (stAt p i)),A.bl.map fun x=>nsIn K mainGlobals x)
noncomputable def valK (p:Program) (A:Ask) (P:Params):Obs :=
 (A.fns.map fun i=>Zr8 (stAt p i),A.tups.map fun i=>Zs9 (stAt p i),A.kfs.map fun i=>Yf2 P (Zf7 (stAt p i)),A.kds.map fun i=>Xx1 P (Zf7 (stAt p i)),A.bl.map fun _=>some none)
noncomputable def Wb4 (p:Program) (A:Ask) (h:Heap):List Addr :=
 mainGlobals :: (A.fns++A.tups++A.kfs++A.kds).flatMap fun i=>match nsIn (pick h [mainGlobals]) mainGlobals (nm (stAt p i)) with
  | some (some (.ref a))=>a :: (match h.get? a with
   | some ⟨_,_,.func fd,_⟩=>(match fd.code with | .ref c=>[c] | _=>[])
   | _=>[])
  | _=>[]
theorem Ye6 {α β:Type} {f g:α→β} {l:List α} (e:l.map f=l.map g) {a:α} (h:a∈l):f a=g a:=List.map_inj_left.mp e a h
section
variable {p:Program} {A:Ask} {K:Frag} {P:Params} (e:obsK p A K=valK p A P)
theorem e_fn (e:obsK p A K=valK p A P) {i:Nat} (h:i∈A.fns):Zp0 K (nm (stAt p i))=Zr8 (stAt p i):=Ye6 (f:=fun i=>Zp0 K (nm (stAt p i))) (g:=fun i=>Zr8 (stAt p i)) (Prod.mk.inj e).1 h
theorem e_tup (e:obsK p A K=valK p A P) {i:Nat} (h:i∈A.tups):Zp8 K (nm (stAt p i))=Zs9 (stAt p i):=Ye6 (f:=fun i=>Zp8 K (nm (stAt p i))) (g:=fun i=>Zs9 (stAt p i)) (Prod.mk.inj (Prod.mk.inj e).2).1 h
theorem e_kf (e:obsK p A K=valK p A P) {i:Nat} (h:i∈A.kfs):Zx0 K (nm (stAt p i)) (Zf7 (stAt p i))=Yf2 P (Zf7 (stAt p i)) :=
 Ye6 (f:=fun i=>Zx0 K (nm (stAt p i)) (Zf7 (stAt p i))) (g:=fun i=>Yf2 P (Zf7 (stAt p i))) (Prod.mk.inj (Prod.mk.inj (Prod.mk.inj e).2).2).1 h
theorem e_bl (e:obsK p A K=valK p A P) {x:Str} (h:x∈A.bl):nsIn K mainGlobals x=some none :=
 Ye6 (f:=fun x=>nsIn K mainGlobals x) (g:=fun _=>some none) (Prod.mk.inj (Prod.mk.inj (Prod.mk.inj (Prod.mk.inj e).2).2).2).2 h
end
open PySem.Spec
noncomputable def posOf:Stmt→Pos
 | .FunctionDef _ _ _ _ _ _ _ _ _ p=>p
 | _=>⟨0,0,0,0⟩
def FnF (K:Frag) (x:Str) (st:Stmt):Prop:=∃ (f:Addr) (oc:Value) (od:Option Addr) (sl:Array (Option Value)) (kV dc pm:Value) (an:Option Addr) (cd ct:Value),
 nsIn K mainGlobals x=some (some (.ref f))∧K.lookup f=some ⟨oc,od,.func (fnOf x x (Zd3 st) (Zc9 st) (Za7 st) .none kV dc pm an cd ct),sl⟩∧codeIn K cd x=true∧keepIn K (.ref f)=true
theorem fn_ofx {K:Frag} {x:Str} {st:Stmt} (hx:nm st=x) (e:Zp0 K (nm st)=Zr8 st):FnF K x st:=hx▸fn_of e
def FunF (K:Frag) (x:Str) (st:Stmt):Prop:=∃ (f:Addr) (fd:FuncData),nsIn K mainGlobals x=some (some (.ref f))∧Fun K x x st f fd
theorem Yw6 {K:Frag} {x:Str} {st:Stmt} (hx:nm st=x) (e:Zp0 K (nm st)=Zr8 st):FunF K x st:=by
 obtain⟨f,oc,od,sl,kV,dc,pm,an,cd,ct,a,l,c,k⟩:=fn_ofx hx e;exact⟨f,_,a,Ym9 l c k⟩
def TupF (K:Frag) (x:Str) (l:List Str):Prop:=∃ a:Addr,nsIn K mainGlobals x=some (some (.ref a))∧∀ H,SqT K H a (l.map V.str)
theorem tup_ofx {K:Frag} {x:Str} {st:Stmt} {l:List Str} (hx:nm st=x) (hl:Yk5 st=l) (hz:l.length≤sizeLine) (e:Zp8 K (nm st)=Zs9 st):TupF K x l:=by
 subst hx hl;exact Xn2 e hz
def KfF (K:Frag) (w:World) (x:Str) (l:List (Str×V)):Prop:=∃ a:Addr,nsIn K mainGlobals x=some (some (.ref a))∧KDict K w a l
theorem kf_ofx {K:Frag} {w:World} {x:Str} {st:Stmt} {l:List (Str×Str)} (fs:List Addr) (hx:nm st=x) (hl:Zf7 st=l) (hf:Paired (fun (kf:Str×Str) (f:Addr)=>nsIn K mainGlobals kf.2=some (some (.ref f))) l fs)
  (nd:((List.zipWith (fun kf f=>(kf.1,V.ref f)) l fs).map (·.1)).Nodup) (e:Zx0 K (nm st) (Zf7 st)=Yf2 w.params (Zf7 st)):KfF K w x (List.zipWith (fun kf f=>(kf.1,V.ref f)) l fs):=by
 subst hx hl;exact Wa4 e fs hf nd
end Hd
namespace L2
open PySem PySem.Spec PyProof.Rows Ken
theorem Zj5 (CX:CXT) (P:Program) (w:World) (K:W.Frag) (mg:Str→Option Value) (base:Heap) (N:List Str) (qual:Str) (scope:Scope) (f:Addr) (cd:Value) (A:Around) (outer:List Env) (s:Shared) (H:Hp) (E:XK):(cxOf CX P w K mg base N qual scope f cd A outer s H E).prog=P:=rfl
theorem Zx2 (CX:CXT) (P:Program) (w:World) (K:W.Frag) (mg:Str→Option Value) (base:Heap) (N:List Str) (qual:Str) (scope:Scope) (f:Addr) (cd:Value) (A:Around) (outer:List Env) (s:Shared) (H:Hp) (E:XK):(cxOf CX P w K mg base N qual scope f cd A outer s H E).w=w:=rfl
theorem Zm6 (X:Cx) (N':List Str) (scope:Scope) (cl:List (Str×Addr)) (s:Shared) (H:Hp) (C:Addr) (ex:List Addr):(blk X N' scope cl s H C ex).prog=X.prog:=rfl
theorem Yq2 (X:Cx) (N':List Str) (scope:Scope) (cl:List (Str×Addr)) (s:Shared) (H:Hp) (C:Addr) (ex:List Addr):(blk X N' scope cl s H C ex).w=X.w:=rfl
end L2
namespace Ken
open PySem L2 PyProof.Rows
end Ken
namespace L2
open PySem PySem.Spec PyProof.Rows Ken
noncomputable def ExcO (e:Addr) (C:Value) (dd T:Option Addr):HO:=.ext fun h=>∃ vs sl,h.get? e=some ⟨C,dd,.fields vs,sl⟩∧vs.size=6∧vs[1]?=some (T.elim Value.none Value.ref)
noncomputable def TbO (t:Addr) (fl:Value):HO:=.ext fun h=>∃ c d ts sl,h.get? t=some ⟨c,d,.fields ts,sl⟩∧ts[3]?=some fl
section
variable {P:Program} {w:World} {H:Hp} {h:Heap} {e t:Addr} {C fl:Value} {dd T:Option Addr}
theorem Zo2 (hok:HOk P w H h) (q:H e=some (ExcO e C dd T)):∃ vs sl,h.get? e=some ⟨C,dd,.fields vs,sl⟩∧vs.size=6∧vs[1]?=some (T.elim Value.none Value.ref):=(hok e _ q).1
theorem Xg3 (z:∃ vs sl,h.get? e=some ⟨C,dd,.fields vs,sl⟩∧vs.size=6∧vs[1]?=some (T.elim Value.none Value.ref)):ObjOk P w H h e (ExcO e C dd T) :=
 ⟨z,let ⟨_,_,q,_⟩:=z;⟨_,q⟩,fun _ _ ⟨vs,sl,a,b⟩ k=>⟨vs,sl,k _ a,b⟩⟩
theorem Yr6 (hok:HOk P w H h) (q:H t=some (TbO t fl)):∃ c d ts sl,h.get? t=some ⟨c,d,.fields ts,sl⟩∧ts[3]?=some fl:=(hok t _ q).1
theorem Xa6 (z:∃ c d ts sl,h.get? t=some ⟨c,d,.fields ts,sl⟩∧ts[3]?=some fl):ObjOk P w H h t (TbO t fl) :=
 ⟨z,let ⟨_,_,_,_,q,_⟩:=z;⟨_,q⟩,fun _ _ ⟨c,d,ts,sl,a,b⟩ k=>⟨c,d,ts,sl,k _ a,b⟩⟩
end
def Xn0 (fl:Value) (H:Hp) (e:Addr) (C:Value) (dd T:Option Addr):Prop:=H e=some (ExcO e C dd T)∧∀ t,T=some t→t≠e∧H t=some (TbO t fl)
noncomputable abbrev FlyT:=Xn0 .none
def XStep (e:Addr) (T:Option Addr) (H:Hp) (T':Option Addr) (H':Hp):Prop :=
 (∀ b o,H b=some o→b≠e→T≠some b→H' b=some o)∧∀ t,T'=some t→t≠e∧(T=some t∨H t=none)
theorem XStep.refl {e:Addr} {T:Option Addr} {H:Hp} (h:∀ t,T=some t→t≠e):XStep e T H T H:=⟨fun _ _ q _ _=>q,fun t q=>⟨h t q,.inl q⟩⟩
theorem XStep.trans {e:Addr} {T T' T'':Option Addr} {H H' H'':Hp} (a:XStep e T H T' H') (b:XStep e T' H' T'' H''):XStep e T H T'' H'':=by
 refine⟨fun c o q n1 n2=>b.1 c o (a.1 c o q n1 n2) n1 fun z=>?_,fun t q=>⟨(b.2 t q).1,?_⟩⟩
 ·rcases (a.2 c z).2 with y | y
  ·exact n2 y
  ·rw[q] at y;cases y
 ·rcases (b.2 t q).2 with z | z
  ·exact (a.2 t z).2
  ·by_cases hT:T=some t
   ·exact .inl hT
   ·cases e1:H t with
    | none=>exact .inr rfl
    | some o=>rw[a.1 t o e1 (b.2 t q).1 hT] at z;cases z
section
variable {X:Cx} {pins:List (Addr×Obj)} {σ:St} {H:Hp} {s:Shared} {M:Model} {A:Around} {E:Value→Shared→Prop} {e L:Addr} {C:Value} {dd T:Option Addr}
theorem Inv.noted {s':Shared} {t:Addr} {fl:Value} (I:Inv X pins σ H s) (F:FlyT H e C dd T) (hos:s'.os=s.os) (hg:s'.gens=s.gens)
  (hn:s.heap.objs.size≤t)
  (keep:∀ b o,s.heap.get? b=some o→b ∉ frs X.stack→b≠e→T≠some b→s'.heap.get? b=some o)
  (slot:∀ b o,s.heap.get? b=some o→b∈frs X.stack→∃ sl,s'.heap.get? b=some { o with slots:=sl })
  (old:∀ b,T=some b→∃ c d ts sl,s'.heap.get? b=some ⟨c,d,.fields ts,sl⟩∧ts[3]?=some Value.none)
  (exc:∃ vs sl,s'.heap.get? e=some ⟨C,dd,.fields vs,sl⟩∧vs.size=6∧vs[1]?=some (Value.ref t))
  (tb:∃ c d ts sl,s'.heap.get? t=some ⟨c,d,.fields ts,sl⟩∧ts[3]?=some fl) :
  Inv X pins σ (upd (upd H t (TbO t fl)) e (ExcO e C dd (some t))) s':=by
 have hnt:H t=none:=I.hok.fresh hn;have het:e≠t:=Zb6 F.1 hnt
 have hfe:e ∉ frs X.stack:=fun z=>by have:=I.stkFree e z;rw[F.1] at this;cases this
 have nx:∀ b o,H b=some o→(∀ φ,o≠.ext φ)→b≠e∧b≠t∧T≠some b:=fun b o q n=>by
  refine⟨fun z=>?_,Zb6 q hnt,fun z=>?_⟩
  ·subst z;rw[F.1] at q;cases q;exact n _ rfl
  ·have:=(F.2 b z).2;rw[q] at this;cases this;exact n _ rfl
 have up:∀ b o,H b=some o→b≠e→upd (upd H t (TbO t fl)) e (ExcO e C dd (some t)) b=some o:=fun b o q n=>by
  rw[Zb0 n,Zb0 (Zb6 q hnt)];exact q
 have upn:∀ b,H b=none→b≠t→upd (upd H t (TbO t fl)) e (ExcO e C dd (some t)) b=none:=fun b q n=>by
  rw[Zb0 (Zb6 F.1 q).symm,Zb0 n];exact q
 refine I.call' (ch:=[]) hos ⟨fun b o q n hb _=>?_,fun b o q n hb _=>slot b o q hb,fun b o q n _=>upn b n (Nat.ne_of_lt (Nat.lt_of_lt_of_le (Heap.lt_size q) hn)),fun b o q _=>?_,fun b xs q=>up b _ q (nx b _ q fun φ z=>nomatch z).1,fun b o u q=>up b _ q (nx b _ q fun φ z=>nomatch z).1,
  fun b ps q=>⟨#[],by rw[up b _ q (nx b _ q fun φ z=>nomatch z).1];simp⟩⟩ (fun b o q=>?_) (by rw[hg];exact I.bare) (fun b z=>nomatch z)
 ·exact keep b o q hb (Zb6 F.1 n).symm fun z=>by have:=(F.2 b z).2;rw[n] at this;cases this
 ·by_cases hb:b∈frs X.stack
  ·obtain⟨sl,z⟩:=slot b o q hb;exact⟨_,z⟩
  ·by_cases he:b=e
   ·subst he;obtain⟨_,_,z,_⟩:=exc;exact⟨_,z⟩
   ·by_cases hT:T=some b
    ·obtain⟨_,_,_,_,z,_⟩:=old b hT;exact⟨_,z⟩
    ·exact⟨o,keep b o q hb he hT⟩
 ·by_cases he:b=e
  ·subst he;rw[Za4] at q;cases q;exact Xg3 exc
  ·rw[Zb0 he] at q
   by_cases ht:b=t
   ·subst ht;rw[Za4] at q;cases q;exact Xa6 tb
   ·rw[Zb0 ht] at q
    by_cases hT:T=some b
    ·have q2:=(F.2 b hT).2
     rw[q] at q2;cases q2;exact Xa6 (old b hT)
    ·refine (I.hok b o q).stay (fun c u hc z=>keep c u z ?_ ?_ ?_) (fun c z=>up c _ z (nx c _ z fun φ y=>nomatch y).1) fun c xs z=>up c _ z (nx c _ z fun φ y=>nomatch y).1
     ·intro y
      have y2:=I.stkFree c y;rcases hc with hc | hc
      ·subst hc;rw[q] at y2;cases y2
      ·rw[hc] at y2;cases y2
     ·rcases hc with hc | hc
      ·rw[hc];exact he
      ·exact (nx c _ hc fun φ y=>nomatch y).1
     ·rcases hc with hc | hc
      ·rw[hc];exact hT
      ·exact (nx c _ hc fun φ y=>nomatch y).2.2
theorem Yn1 {head:Value} {hadNext:Bool} {Q:Unit→Shared→Prop} (I:Inv X pins σ H s) (F:FlyT H e C dd T) (hA:A.frames=some X.stack) (hst:X.stack=X.env :: X.outer) (hf:X.env.frame=some L)
  (h:∀ s' t,H t=none→Inv X pins σ (upd (upd H t (TbO t (rawInt L))) e (ExcO e C dd (some t))) s'→Q () s') :
  wpAny M A (do let a ← frameOf X.env;let pl ← entryPlaceOf L hadNext;let b ← EntryCells.newEntry head a .none (rawInt L) .none pl;setField (.ref e) 1 b) Q E s:=by
 obtain⟨vs,sl,he,hz,h1⟩:=Zo2 I.hok F.1
 have hfe:e ∉ frs X.stack:=fun z=>by have:=I.stkFree e z;rw[F.1] at this;cases this
 have FF:=I.stack;rw[hst] at FF hA;refine wpAny_bind (wpAny_frameOf_fun hA FF hf fun h₁ hs₁=>?_);refine wpAny_bind (wpAny_entryPlaceOf fun pl hpl=>?_);unfold EntryCells.newEntry newFields;refine wpAny_bind (wpAny_newObj_type ?_ (hpl.sizeOk5 _ _ _ _ _));have hs2:∀ b,b ∉ frs X.stack→h₁.get? b=s.heap.get? b:=fun b hb=>hs₁.2.1 b (by rw[hst] at hb;exact hb);have he₁:h₁.get? e=some ⟨C,dd,.fields vs,sl⟩:=(hs2 e hfe).trans he;have he₂:=Heap.get?_push_of_some (h:=h₁) { cls:=.type "traceback",dict:=none,data:=.fields ([head,.ref L,.none,rawInt L,.none]++(if pl.isEmpty then List.replicate 6 Value.none else pl)).toArray } he₁;refine wpAny_setField he₂ rfl (by rw[hz];decide) ?_;have hTe:h₁.objs.size≠e:=Nat.ne_of_gt (Heap.lt_size he₁);have hsz:s.heap.objs.size≤h₁.objs.size:=Nat.le_of_eq hs₁.1.symm;refine h _ h₁.objs.size (I.hok.fresh hsz) (Inv.noted I F rfl rfl hsz (fun b o q hb hbe hT=>?_) (fun b o q hb=>?_) (fun b hT=>?_) ?_ ?_)
 ·show (Heap.update _ e _).get? b=some o
  rw[Heap.get?_update_other _ _ (Ne.symm hbe)];exact Heap.get?_push_of_some _ ((hs2 b hb).trans q)
 ·obtain⟨sl',z⟩:=hs₁.2.2 b o q
  refine⟨sl',?_⟩;show (Heap.update _ e _).get? b=_;rw[Heap.get?_update_other _ _ (fun y=>hfe (by rw[y];exact hb))];exact Heap.get?_push_of_some _ z
 ·obtain⟨c,d,ts,sl',z,z3⟩:=Yr6 I.hok (F.2 b hT).2
  have hb:b ∉ frs X.stack:=fun y=>by have:=I.stkFree b y;rw[(F.2 b hT).2] at this;cases this
  refine⟨c,d,ts,sl',?_,z3⟩;show (Heap.update _ e _).get? b=_;rw[Heap.get?_update_other _ _ (Ne.symm (F.2 b hT).1)];exact Heap.get?_push_of_some _ ((hs2 b hb).trans z)
 ·refine⟨vs.setIfInBounds 1 (.ref h₁.objs.size),sl,?_,by simp[hz],by simp[hz]⟩
  show (Heap.update _ e _).get? e=_;rw[Heap.get?_update_self _ he₂ rfl];rfl
 ·exact⟨_,_,_,_,(Heap.get?_update_other _ _ (Ne.symm hTe)).trans (Heap.get?_push_size h₁ rfl),by simp⟩
theorem Yu5 {Q:Unit→Shared→Prop} (I:Inv X pins σ H s) (F:FlyT H e C dd T) (hA:A.frames=some X.stack) (hst:X.stack=X.env :: X.outer) (hf:X.env.frame=some L)
  (h:∀ s' H' t,Inv X pins σ H' s'→Xn0 (rawInt L) H' e C dd (some t)→XStep e T H (some t) H'→Q () s'):wpAny M A (noteFrame (.ref e) X.env) Q E s:=by
 obtain⟨vs,sl,he,hz,h1⟩:=Zo2 I.hok F.1
 have fin:∀ s' t,H t=none→Inv X pins σ (upd (upd H t (TbO t (rawInt L))) e (ExcO e C dd (some t))) s'→Q () s':=fun s' t hn J=>by
  have het:e≠t:=Zb6 F.1 hn;refine h s' _ t J ⟨Za4,fun u q=>?_⟩ ⟨fun b o q n1 n2=>?_,fun u q=>?_⟩
  ·cases q;exact⟨het.symm,by rw[Zb0 het.symm,Za4]⟩
  ·rw[Zb0 n1,Zb0 (Zb6 q hn)];exact q
  ·cases q;exact⟨het.symm,.inr hn⟩
 unfold noteFrame;simp only[hf];refine wpAny_bind (wpAny_field he rfl h1 ?_)
 cases hT:T with
 | none =>
  subst hT;rw[if_neg (by decide)];exact Yn1 I F hA hst hf fin
 | some t =>
  subst hT;obtain⟨hte,ht⟩:=F.2 t rfl;obtain⟨c,d,ts,sl',z,z3⟩:=Yr6 I.hok ht;rw[if_pos (show ((Option.some t).elim Value.none Value.ref != Value.none)=true from by simp)];refine wpAny_bind (wpAny_field z rfl z3 ?_);rw[if_neg (by simp[rawInt])];refine wpAny_bind (wpAny_setField z rfl (Array.getElem?_eq_some_iff.mp z3).1 ?_);refine Yn1 (T:=some t) ?_ F hA hst hf fin;have I2:=I.write (o:=TbO t .none) (h':=s.heap.update t (Obj.mapFields (·.setIfInBounds 3 .none))) (x:=t) (e:=t) (t':=s.toks) (by rw[ht];trivial) (.inl rfl) (fun b u n q=>by rw[Heap.get?_update_other _ _ (Ne.symm n)];exact q)
   ⟨_,Heap.get?_update_self _ z rfl⟩ (Xa6 ⟨c,d,ts.setIfInBounds 3 .none,sl',by rw[Heap.get?_update_self _ z rfl];rfl,by simp[(Array.getElem?_eq_some_iff.mp z3).1]⟩)
  have:upd H t (TbO t .none)=H:=by
   funext b
   by_cases hb:b=t
   ·subst hb;rw[Za4,ht]
   ·rw[Zb0 hb]
  rw[this] at I2;exact I2
theorem Yj0 {Q:Unit→Shared→Prop} {fl:Value} (I:Inv X pins σ H s) (F:Xn0 fl H e C dd T)
  (h:∀ s' H',Inv X pins σ H' s'→FlyT H' e C dd T→XStep e T H T H'→Q () s'):wpAny M A (setFlight (.ref e) none) Q E s:=by
 obtain⟨vs,sl,he,hz,h1⟩:=Zo2 I.hok F.1;unfold setFlight;refine wpAny_bind (wpAny_field he rfl h1 ?_)
 cases hT:T with
 | none =>
  subst hT;rw[if_neg (by decide)];exact wpAny_pure (h s H I ⟨F.1,fun t q=>nomatch q⟩ (XStep.refl fun t q=>nomatch q))
 | some t =>
  subst hT;obtain⟨hte,ht⟩:=F.2 t rfl;obtain⟨c,d,ts,sl',z,z3⟩:=Yr6 I.hok ht;rw[if_pos (show ((Option.some t).elim Value.none Value.ref != Value.none)=true from by simp)];refine wpAny_setField z rfl (Array.getElem?_eq_some_iff.mp z3).1 ?_;have I2:=I.write (o:=TbO t .none) (h':=s.heap.update t (Obj.mapFields (·.setIfInBounds 3 .none))) (x:=t) (e:=t) (t':=s.toks) (by rw[ht];trivial) (.inl rfl) (fun b u n q=>by rw[Heap.get?_update_other _ _ (Ne.symm n)];exact q)
   ⟨_,Heap.get?_update_self _ z rfl⟩ (Xa6 ⟨c,d,ts.setIfInBounds 3 .none,sl',by rw[Heap.get?_update_self _ z rfl];rfl,by simp[(Array.getElem?_eq_some_iff.mp z3).1]⟩)
  refine h _ _ I2 ⟨by rw[Zb0 (Ne.symm hte)];exact F.1,fun u q=>?_⟩ ⟨fun b o q n1 n2=>?_,fun u q=>?_⟩
  ·cases q;exact⟨hte,Za4⟩
  ·rw[Zb0 (fun y=>n2 (by rw[y]))];exact q
  ·cases q;exact⟨hte,.inl rfl⟩
end
noncomputable def CXe (P:Program) (w:World):CXT:=fun outer H s E e s'=>∃ ea C dd T H',e=.ref ea∧s'.os=s.os∧AllBare s'.gens∧Un (frs outer) [] H H' s.heap s'.heap∧HOk P w H' s'.heap∧FlyT H' ea C dd T ∧
 ∀ T'' H'',XStep ea T H' T'' H''→FlyT H'' ea C dd T''→E (.ref ea) dd H''
def XOk (X:Cx) (E:XK):Prop:=∀ (pins:List (Addr×Obj)) (σ:St) (H:Hp) (s:Shared) (ea:Addr) (C:Value) (dd T:Option Addr),Inv X pins σ H s→FlyT H ea C dd T →
 (∀ T'' H'',XStep ea T H T'' H''→FlyT H'' ea C dd T''→E (.ref ea) dd H'')→X.xe (.ref ea) s
theorem Xc8 {X:Cx} {pins:List (Addr×Obj)} {σ:St} {H:Hp} {s:Shared} {M:Model} {A:Around} {E:Value→Shared→Prop} {e L:Addr} {C:Value} {dd T:Option Addr} {Q:Unit→Shared→Prop}
  (I:Inv X pins σ H s) (F:FlyT H e C dd T) (hA:A.frames=some X.stack) (hst:X.stack=X.env :: X.outer) (hf:X.env.frame=some L)
  (h:∀ s' H' T',Inv X pins σ H' s'→FlyT H' e C dd T'→XStep e T H T' H'→Q () s'):wpAny M A (leaving X.env (.ref e)) Q E s:=by
 unfold leaving;exact wpAny_bind (Yu5 I F hA hst hf fun s1 H1 t I1 F1 S1=>Yj0 I1 F1 fun s2 H2 I2 F2 S2=>h s2 H2 _ I2 F2 (S1.trans S2))
theorem Ze7 {P:Program} {w:World} {K:W.Frag} {mg:Str→Option Value} {base:Heap} {N:List Str} {qual:Str} {scope:Scope} {f:Addr} {cd:Value} {A:Around} {outer:List Env} {s:Shared} {H:Hp} {E:XK} :
  XOk (cxOf (CXe P w) P w K mg base N qual scope f cd A outer s H E) E:=by
 intro pins σ H1 s1 ea C dd T I F h;refine Xc8 (X:=cxOf (CXe P w) P w K mg base N qual scope f cd A outer s H E) (L:=s.heap.objs.size) I F I.ok.frames rfl rfl fun s2 H2 T' I2 F2 S2=>?_;exact⟨ea,C,dd,T',H2,rfl,I2.os,I2.bare,I2.base,I2.hok,F2,fun T'' H'' S F=>h T'' H'' (S2.trans S) F⟩
theorem Zv9 {X:Cx} {E:XK} (h:XOk X E):Zp6 (CXe X.prog X.w) X E:=by
 rintro pins σ H s e s' I ⟨ea,C,dd,T,H',rfl,ho,hg,hu,hk,F,q⟩;exact h pins σ H' s' ea C dd T (I.call' (ch:=[]) ho hu hk hg fun b z=>nomatch z) F q
noncomputable abbrev bmV:List Value:=[.type "ValueError",.type "Exception",.type "BaseException",.type "object"]
def IsXC (h:Heap) (C:Addr) (bm:List Value) (mN:Str→Option Value):Prop:=∃ nm q N bs hdct sn sub ab col dd k0 k1 k2 k3 k5,h.get? C=some (excClassObj nm q C N bs bm hdct sn sub ab col dd k0 k1 k2 k3 k5 "ValueError.__new__")∧h.Ns N mN∧OwnTail h bmV bm
def XCls (K:W.Frag) (C:Addr):Prop:=∀ h,K.In h→∃ bm mN,IsXC h C bm mN∧mN "__init__"=none
theorem IsXC.keeps {h h':Heap} {C:Addr} {bm:List Value} {mN:Str→Option Value} (x:IsXC h C bm mN) (k:∀ b o,h.get? b=some o→h'.get? b=some o):IsXC h' C bm mN :=
 let ⟨nm,q,N,bs,hdct,sn,sub,ab,col,dd,k0,k1,k2,k3,k5,a,b,c⟩:=x
 ⟨nm,q,N,bs,hdct,sn,sub,ab,col,dd,k0,k1,k2,k3,k5,k _ _ a,b.keeps k,c.keeps k⟩
section
variable {P:Program} {w:World} {H:Hp} {h h':Heap} {a:Addr} {o:HO}
theorem ObjOk.obj (x:ObjOk P w H h a o):∃ ob,h.get? a=some ob:=by
 cases o with
 | lst xs=>obtain⟨_,_,_,_,e⟩:=x;exact⟨_,e⟩
 | tup xs=>obtain⟨_,_,_,o,e,_⟩:=x;exact⟨_,e⟩
 | dK kvs=>obtain⟨_,_,_,_,o,_,_,e,_⟩:=x;exact⟨_,e⟩
 | dT kvs=>obtain⟨_,_,_,_,o,_,_,e,_⟩:=x;exact⟨_,e⟩
 | set S n=>obtain⟨o,_,_,_,e,_⟩:=x;exact⟨_,e⟩
 | ins C dx fs=>obtain⟨_,_,_,e,_⟩:=x;exact⟨_,e⟩
 | own y=>exact x
 | xd fs=>obtain⟨_,⟨_,_,_,e,_⟩,_⟩:=x;exact⟨_,e⟩
 | rng lo hi=>obtain⟨_,_,_,e⟩:=x;exact⟨_,e⟩
 | frz ob u=>obtain⟨e,_⟩:=x;exact⟨_,e⟩
 | tbl ps=>exact⟨_,x⟩
 | met f y=>exact⟨_,x⟩
 | ext φ=>exact x.2.1
theorem HOk.newAt (x:HOk P w H h) (n:h.get? a=none):H a=none:=by
 cases q:H a with
 | none=>rfl
 | some u =>
  obtain⟨ob,z⟩:=(x a u q).obj;rw[n] at z;cases z
theorem Inv.laidN {X:Cx} {pins:List (Addr×Obj)} {σ:St} {s:Shared} {t':Nat} (I:Inv X pins σ H s) (k:∀ b u,s.heap.get? b=some u→h'.get? b=some u) (hn:s.heap.get? a=none) (new:ObjOk X.prog X.w (upd H a o) h' a o) :
  Inv X pins σ (upd H a o) { s with heap:=h',toks:=t' }:=by
 have hH:=I.hok.newAt hn
 have nb:∀ b u,H b=some u→upd H a o b=some u:=fun b u q=>by rw[Zb0 (Zb6 q hH)];exact q
 refine I.un ⟨fun b u q _ _ _=>k b u q,fun b u q _ _ _=>⟨u.slots,k b u q⟩,fun b u q n _=>?_,fun b u q _=>⟨u,k b u q⟩,fun b xs q=>nb _ _ q,fun b u xs q=>nb _ _ q,fun b ps q=>⟨#[],by rw[nb _ _ q];simp⟩⟩ fun b u q=>?_
 ·rw[Zb0 (fun z=>by subst z;rw[hn] at q;cases q)];exact n
 ·by_cases hb:b=a
  ·subst hb;rw[Za4] at q;cases q;exact new
  ·rw[Zb0 hb] at q
   exact (I.hok b u q).stay (fun c v _ z=>k c v z) (fun c z=>nb _ _ z) fun c xs z=>nb _ _ z
end
theorem IsXC.base {h:Heap} {C:Addr} {bm:List Value} {mN:Str→Option Value} (x:IsXC h C bm mN):bm.contains (.type "BaseException")=true:=by
 obtain⟨_,_,_,_,_,_,_,_,_,_,_,_,_,_,_,_,_,c⟩:=x;exact c.hasType rfl
theorem Xh1 {K:W.Frag} {C N:Addr} {nm q:Str} {bs bm:List Value} {hdct:Bool} {sn:List Str} {sub:List Value} {ab:Bool} {col:Option Bool} {dd:Option Addr} {k0 k1 k2 k3 k5:Option Value}
  (l:K.lookup C=some (excClassObj nm q C N bs bm hdct sn sub ab col dd k0 k1 k2 k3 k5 "ValueError.__new__")) (t:W.tailIn K bmV bm=true) (n:W.nsOkIn K N=true) (i:W.nsIn K N "__init__"=some none):XCls K C:=fun h X =>
 ⟨bm,h.nsMap N,⟨nm,q,N,bs,hdct,sn,sub,ab,col,dd,k0,k1,k2,k3,k5,X _ _ l,.of_isNs (W.isNs_of_in X n),W.tail_of_in X t⟩,W.nsMap_none_of_in X n i⟩
def Xtd (H:Hp) (e:Addr) (C:Value) (dd:Option Addr) (H':Hp):Prop:=H e=none∧Same H H'∧∃ T,FlyT H' e C dd T
theorem Xtd.step {G H H':Hp} {e:Addr} {C:Value} {dd T T':Option Addr} (n:G e=none) (nt:∀ t,T=some t→G t=none) (s:Same G H) (S:XStep e T H T' H') (F:FlyT H' e C dd T'):Xtd G e C dd H' :=
 ⟨n,fun b o q=>S.1 b o (s b o q) (Zb6 q n) (fun z=>by rw[nt b z] at q;cases q),T',F⟩
def Yc4 (E:XK) (C:Addr) (t:TA):TS:=fun _ σ H=>t σ H fun vs H1=>vs.length≤sizeLine∧∀ e H',Xtd H1 e (.ref C) none H'→E (.ref e) none H'
section
variable {X:Cx} {E:XK} {x:Str} {C:Addr} {np cpos pos:Pos} {e:Expr} {es:List Expr} {t:TA}
theorem Zs3 (hx:XOk X E) (hc:X.calm=true) (hg:Gl X x) (hm:X.mg x=some (.ref C)) (hC:XCls X.K C) (ha:PA X (e :: es) t) (hdb:(x == ("__debug__":Str))=false:=by decide)
  (hs:starEach (e :: es) X.env=(false,eval e X.env) :: starEach es X.env:=by rfl) (hpl:(backTo cpos (starEach es X.env)).any (·.1)=false:=by rfl) :
  PS X (.Raise (some (.Call (.Name x np) (e :: es) [] cpos)) none pos) (Yc4 E C t):=by
 intro pins s σ H D I h;obtain⟨bm,mN,hI,hni⟩:=hC X.base I.ok.mod.kin;obtain⟨nm,q,N,bs,hdct,sn,sub,ab,col,dd,k0,k1,k2,k3,k5,c1,c2,c3⟩:=id hI;refine wpAny_Raise_call_subT F.excBase_ValueError (C:=C) (nm:=nm) (q:=q) (N:=N) (bs:=bs) (bm:=bm) (hdct:=hdct) (sn:=sn) (sub:=sub) (ab:=ab) (col:=col) (dd:=dd) (k0:=k0) (k1:=k1) (k2:=k2) (k3:=k3) (k5:=k5) (mN:=mN)
  hI.base (I.ok.hd hc) (by rw[hs];exact hpl) hni (Zk0 I hg hm ⟨rfl,?_⟩ hdb)
 rw[hs];refine PySem.Calls.evalArgs_plain ?_;have ha':=ha cpos pins s σ H _ I h;rw[hs] at ha';refine thn ha' fun us s1 ⟨vs,H1,I1,r,hl,q1⟩=>⟨rfl,by rw[← r.length];exact hl,I1.bk _ _ c1,c2.keeps I1.bk,c3.keeps I1.bk,fun h' ea m=>?_⟩;obtain⟨t0,he,_,ht⟩:=m.there;have J:=I1.laidN (o:=ExcO ea (.ref C) none none) (t':=s1.toks) m.keeps m.new (Xg3 ⟨_,_,he,rfl,rfl⟩);have hn:=I1.hok.newAt m.new;refine hx pins σ _ _ ea (.ref C) none none J ⟨Za4,fun t q=>nomatch q⟩ fun T'' H'' S F=>q1 ea H'' ?_;exact Xtd.step (T:=none) hn (fun t z=>nomatch z) (fun b o q=>by rw[Zb0 (Zb6 q hn)];exact q) S F
end
noncomputable abbrev Cx.hand (X:Cx) (ea:Addr):Cx:={ X with A:=X.A.mark (some (.ref ea)),calm:=false,xe:=fun _ _=>False }
section
variable {X:Cx} {pins:List (Addr×Obj)} {σ:St} {H:Hp} {s:Shared} {ea:Addr}
theorem Inv.hand (I:Inv X pins σ H s) (ea:Addr):Inv (X.hand ea) pins σ H s :=
 ⟨⟨I.ok.mod,I.ok.kind,I.ok.glob,I.ok.blt,I.ok.above,I.ok.inj,I.ok.has,I.ok.cab,(fun z=>nomatch z),I.ok.frames,I.ok.stk,I.ok.exf,I.ok.bs,I.ok.bsz,I.ok.noex,I.ok.exfs,I.ok.funs,I.ok.frf⟩,I.os,I.bare,I.base,I.loc,I.cell,I.free,I.freeC,I.pin,I.hok,I.len⟩
theorem Inv.unhand (hd:X.calm=true→X.A.handled=none) (I:Inv (X.hand ea) pins σ H s):Inv X pins σ H s :=
 ⟨⟨I.ok.mod,I.ok.kind,I.ok.glob,I.ok.blt,I.ok.above,I.ok.inj,I.ok.has,I.ok.cab,hd,I.ok.frames,I.ok.stk,I.ok.exf,I.ok.bs,I.ok.bsz,I.ok.noex,I.ok.exfs,I.ok.funs,I.ok.frf⟩,I.os,I.bare,I.base,I.loc,I.cell,I.free,I.freeC,I.pin,I.hok,I.len⟩
theorem Yq9 {M:Model} {A:Around} {E:Value→Shared→Prop} {i:Nat} {x:Str} {v:V} {pos:Pos} {Q:Unit→Shared→Prop} (I:Inv X pins σ H s) (hN:X.N.Nodup) (hi:X.N[i]?=some x) (hx:X.env.scope.names.lookup x=some .local) (hv:σ[i]?=some (some v))
  (h:∀ s',Inv X pins (σ.set i none) H s'→Q () s'):wpAny M A (unbindBehindTheSuite X.env x pos) Q E s:=by
 obtain⟨m,hn,hl⟩:=id I.loc;obtain⟨u,ru,lk⟩:=hl i x v hi hv (.inl hx)
 have hm:m x=some u:=by
  rcases lk with ⟨_,z⟩ | ⟨z,_⟩
  ·exact z
  ·have z2:X.env.kindOf x=some .local:=hx
   rw[z2] at z;rcases z with z | z<;>cases z
 unfold unbindBehindTheSuite;refine wpAny_onRaise (wpAny_mono (wpAny_unbindName_local (E:=fun _ _=>False) hx hn hm (by rw[I.ok.kind];rfl) fun h' u' hn' hs=>?_) (fun _ _ q=>q) fun _ _ z=>False.elim z);refine h _ ?_;have same:∀ b o,b≠X.env.locals→s.heap.get? b=some o→h'.get? b=some o:=fun b o n q=>(hs.2 b n).trans q;have neL:∀ b o,X.s₀.heap.get? b=some o→b≠X.env.locals:=fun b o e=>Nat.ne_of_lt (Nat.lt_of_lt_of_le (Heap.lt_size e) I.ok.above)
 have neH:∀ b o,H b=some o→b≠X.env.locals:=fun b o e z=>by rw[z,I.free] at e;cases e
 refine⟨I.ok,I.os,I.bare,⟨fun b o e n hb hx=>same b o (neL b o e) (I.base.keep b o e n hb hx),fun b o e n hb hx=>?_,I.base.free,fun b o e hx=>?_,I.base.tups,I.base.frzs,I.base.tbls⟩,⟨_,hn',fun j y w e1 e2 e3=>?_⟩,fun y c e=>?_,I.free,I.freeC,fun p hp=>?_,fun b o e=>?_,by rw[List.length_set];exact I.len⟩
 ·obtain⟨sl,z⟩:=I.base.slot b o e n hb hx
  exact⟨sl,same b _ (neL b o e) z⟩
 ·obtain⟨o',z⟩:=I.base.there b o e hx
  exact⟨o',same b _ (neL b o e) z⟩
 ·have hj:j≠i:=fun z=>by
   subst z;rw[List.getElem?_set_self (by rw[I.len];exact (List.getElem?_eq_some_iff.mp e1).1)] at e2;cases e2
  rw[List.getElem?_set_ne (Ne.symm hj)] at e2;obtain⟨u2,r2,l2⟩:=hl j y w e1 e2 e3;have hy:y≠x:=fun z=>hj (Ya0 hN (by rw[← z];exact e1) hi);refine⟨u2,r2,?_⟩;rcases l2 with ⟨z1,z2⟩ | ⟨z1,c,z2,o,z3,z4⟩
  ·exact .inl ⟨z1,(if_neg hy).trans z2⟩
  ·exact .inr ⟨z1,c,z2,o,same c o (I.cne y c z2) z3,z4⟩
 ·obtain⟨w,o,z3,z4⟩:=I.cell y c e
  exact⟨w,o,same c o (I.cne y c e) z3,z4⟩
 ·obtain⟨e1,n1,ne,nf,d1⟩:=I.pin p hp
  exact⟨same _ _ ne e1,n1,ne,nf,d1⟩
 ·refine (I.hok b o e).stay (fun c w hc z=>same c w ?_ z) (fun _ z=>z) fun _ _ z=>z
  rcases hc with z1 | z1
  ·rw[z1];exact neH b o e
  ·exact neH c _ z1
end
def Fell (X:Cx) (pins:List (Addr×Obj)) (σ:St) (E:XK) (x:Value) (s':Shared):Prop:=∃ ea C dd T H',x=.ref ea∧Inv X pins σ H' s'∧FlyT H' ea C dd T∧∀ T'' H'',XStep ea T H' T'' H''→FlyT H'' ea C dd T''→E (.ref ea) dd H''
def PX (X:Cx) (e:Expr) (t:XK→TE):Prop:=∀ (pins:List (Addr×Obj)) (s:Shared) (σ:St) (H:Hp) (Q:VK) (E:XK),Inv X pins σ H s→t E σ H Q→wpAny (model X.prog X.w) X.A (eval e X.env) (EP X pins σ Q) (Fell X pins σ E) s
section
variable {X:Cx} {k:Nat} {f:Addr} {fd:FuncData} {ps:List Str} {sp:Sp} {dvs:List V} {ds:List Value} {x:Str} {p pos:Pos} {e:Expr} {es:List Expr} {t:TA}
theorem Xi1 (F:FnOk X.prog X.w X.K X.mg X.base (CXe X.prog X.w) k f fd ps sp) (hr:Room k X.A) (hg:Gl X x) (hm:X.mg x=some (.ref f)) (hk:W.keepIn X.K (.ref f)=true) (hb:Binds X.K fd ps ds) (hd:Vals dvs ds)
  (ha:PA X.nox (e :: es) t) (hdb:(x == ("__debug__":Str))=false:=by decide) (he:starEach (e :: es) X.env=(false,eval e X.env) :: starEach es X.env:=by rfl) (hpl:(backTo pos (starEach es X.env)).any (·.1)=false:=by rfl) :
  PX X (.Call (.Name x p) (e :: es) [] pos) (fun E=>Zt5 sp dvs E t):=by
 intro pins s σ H Q E I h;refine wpAny_Call_Name_kw (Zk0 I hg hm ?_ hdb);refine W.callWith_K (h₀:=X.base) I.ok.mod.kin hk (wpAny_mono (ha pos pins s σ H _ (I.wish _) h) (fun us s1 ⟨vs,H1,I1',r,q⟩=>⟨I1'.unwish.kIn,?_⟩) fun _ _ z=>False.elim z) he hpl;have I1:=I1'.unwish;have r2:Vals (vs++dvs) (us++ds):=r.append hd
 have hl:(us++ds).length=ps.length:=by rw[← r2.length];exact F.len _ _ _ _ q
 refine wpAny_call (codeAny_mono (F.run X.A X.stack s1 H1 ⟨us,[]⟩ (us++ds) (vs++dvs) Q E hr I1.env0 (hb s1 us I1.kIn hl) r2 q) fun r s' hq=>?_)
 cases r with
 | error e =>
  obtain⟨ea,C,dd,T,H',rfl,ho,hg,hu,hk,F,q⟩:=hq;exact⟨ea,C,dd,T,H',rfl,I1.call' (ch:=[]) ho hu hk hg (fun b z=>nomatch z),F,q⟩
 | ok fl =>
  cases fl with
  | ret u=>exact I1.after hq
  | next=>exact False.elim hq
  | brk=>exact False.elim hq
  | cont=>exact False.elim hq
end
def Zl4 (C:Addr) (i:Nat) (ts:TS) (D:Ends) (σ:St):XK:=fun e dd H'=>∃ ea T,e=.ref ea∧FlyT H' ea (.ref C) dd T ∧
 ts { nx:=fun σ' H''=>D.nx (σ'.set i none) H'',rt:=D.rt,bk:=fun σ' H''=>D.bk (σ'.set i none) H'',ct:=fun σ' H''=>D.ct (σ'.set i none) H'' } (σ.set i (some (.ref ea))) H'
theorem Xl4 {P:Program} {w:World} {H:Hp} {h:Heap} {e:Addr} {C C':Value} {dd dd' T T':Option Addr} (hok:HOk P w H h) (a:FlyT H e C dd T) (b:FlyT H e C' dd' T'):C=C':=by
 obtain⟨_,_,z,_⟩:=Zo2 hok a.1;obtain⟨_,_,y,_⟩:=Zo2 hok b.1;rw[z] at y;injection y with y;injection y
section
variable {X:Cx} {pins:List (Addr×Obj)} {σ:St} {H:Hp} {s:Shared} {ea L C:Addr} {dd T:Option Addr} {D:Ends} {c n:Str} {cp hpos:Pos} {b₀:Stmt} {suite:List Stmt} {i:Nat} {ts:TS} {bm:List Value} {mN:Str→Option Value} {x:Value}
theorem Yy3 (hc:X.calm=true) (hst:X.stack=X.env :: X.outer) (hf:X.env.frame=some L) (hg:Gl X c) (hm:X.mg c=some (.ref C)) (hC:IsXC X.base C bm mN) (hN:X.N.Nodup) (hi:X.N[i]?=some n) (hx:X.env.scope.names.lookup n=some .local)
  (hs:∀ ea,PSs (X.hand ea) (b₀ :: suite) ts) (Fl:Fell X pins σ (Zl4 C i ts D σ) x s) (hdb:(c == ("__debug__":Str))=false:=by decide) :
  wpAny (model X.prog X.w) X.A (noteFrame x X.env) (fun _ s₂=>wpAny (model X.prog X.w) X.A (setFlight x none) (fun _ s₃=>wpAny (model X.prog X.w) X.A (handleBy x X.env [.ExceptHandler (some (.Name c cp)) (some n) (b₀ :: suite) hpos]) (SP X pins D) X.xe s₃) X.xe s₂) X.xe s:=by
 obtain⟨ea,C',dd,T,H',rfl,I,Fy,q⟩:=Fl;have hd:=I.ok.hd;refine Yu5 I Fy I.ok.frames hst hf fun s1 H1 t1 I1 F1 S1=>Yj0 I1 F1 fun s2 H2 I2 F2 S2=>?_;refine wpAny_handleBy_cons (codeAny_handlers_test (Zk0 (X:=X.hand ea) (I2.hand ea) hg hm ?_ hdb)) (fun z=>nomatch z);obtain⟨ea',T',e1,F3,q3⟩:=q _ H2 (S1.trans S2) F2;cases e1;obtain rfl:C'=Value.ref C:=Xl4 I2.hok F2 F3;obtain⟨nm,qn,N,bs,hdct,sn,sub,ab,col,dd',k0,k1,k2,k3,k5,c1,c2,c3⟩:=(hC.keeps I2.bk);obtain⟨vs,sl,he,_⟩:=Zo2 I2.hok F2.1;obtain⟨hh,g,d,tk,os⟩:=s2;refine wpAny_excMatches_sub_self c1 he rfl hC.base (codeAny_handlers_suite_as ?_);refine Yj0 (I2.hand ea) F2 fun s3 H3 I3 F3' S3=>?_;obtain⟨ea',T',e1,F3,q3⟩:=q _ H3 ((S1.trans S2).trans S3) F3';cases e1;refine Zi4 (X:=X.hand ea) I3 hN hi (.inl hx) (v:=.ref ea) rfl (fun s4 I4=>?_) (.inr hx);refine wpAny_mono (hs ea pins s4 _ H3 _ I4 q3) (fun f s5 h5=>?_) fun _ _ z=>False.elim z
 have fin:∀ {σ':St} {H5:Hp} {Q:Flow→Shared→Prop},Inv (X.hand ea) pins σ' H5 s5→(∀ s6,Inv X pins (σ'.set i none) H5 s6→Q f s6)→wpAny (model X.prog X.w) X.A (do bindName X.env n .none;unbindBehindTheSuite X.env n hpos) (fun _ s6=>Q f s6) X.xe s5:=by
  intro σ' H5 Q J k;refine wpAny_bind (wpAny_bindName (Zi4 (J.unhand hd) hN hi (.inl hx) (v:=.non) rfl (fun s6 J6=>?_) (.inr hx)))
  have hlen:i < σ'.length:=by rw[J.len];exact (List.getElem?_eq_some_iff.mp hi).1
  refine Yq9 J6 hN hi hx (by rw[List.getElem?_set_self hlen]) fun s7 J7=>k s7 ?_;rw[List.set_set] at J7;exact J7
 cases f with
 | next=>obtain⟨σ',H5,J,q5⟩:=h5;exact fin (Q:=SP X pins D) J fun s6 J6=>⟨_,_,J6,q5⟩
 | brk=>obtain⟨σ',H5,J,q5⟩:=h5;exact fin (Q:=SP X pins D) J fun s6 J6=>⟨_,_,J6,q5⟩
 | cont=>obtain⟨σ',H5,J,q5⟩:=h5;exact fin (Q:=SP X pins D) J fun s6 J6=>⟨_,_,J6,q5⟩
 | ret u=>obtain⟨v,σ',H5,J,r,q5⟩:=h5;exact fin (Q:=SP X pins D) J fun s6 J6=>⟨v,_,_,J6,r,q5⟩
end
def Yc2 (te:XK→TE) (j:Nat) (C:Addr) (i:Nat) (ts:TS):TS:=fun D σ H=>te (Zl4 C i ts D σ) σ H fun v H1=>D.nx (σ.set j (some v)) H1
def XC (K:W.Frag) (C:Addr):Prop:=∀ h,K.In h→∃ bm mN,IsXC h C bm mN
theorem XCls.xc {K:W.Frag} {C:Addr} (x:XCls K C):XC K C:=fun h X=>let ⟨bm,mN,a,_⟩:=x h X;⟨bm,mN,a⟩
section
variable {X:Cx} {C:Addr} {c n x:Str} {cp hpos pos apos xp:Pos} {b₀:Stmt} {suite:List Stmt} {i j:Nat} {ts:TS} {e:Expr} {te:XK→TE} {L:Addr}
theorem Xb7 (hc:X.calm=true) (hst:X.stack=X.env :: X.outer) (hf:X.env.frame=some X.env.locals) (hg:Gl X c) (hm:X.mg c=some (.ref C)) (hC:XC X.K C) (hN:X.N.Nodup) (hj:X.N[j]?=some x) (hl:Loc X.env.scope x) (hi:X.N[i]?=some n) (hx:X.env.scope.names.lookup n=some .local)
  (he:PX X e te) (hs:∀ ea,PSs (X.hand ea) (b₀ :: suite) ts) (hw:swapsWith e (some (.Name x xp)) apos.line X.env=pure false:=by rfl) (hfn:X.fn x=true∨X.env.scope.names.lookup x=some .local:=by first | exact .inl rfl | exact .inr rfl | assumption) (hdb:(c == ("__debug__":Str))=false:=by decide) :
  PS X (.Try [.Assign [.Name x xp] e apos] [.ExceptHandler (some (.Name c cp)) (some n) (b₀ :: suite) hpos] [] [] pos) (Yc2 te j C i ts):=by
 intro pins s σ H D I h;obtain⟨bm,mN,hI⟩:=hC X.base I.ok.mod.kin;refine wpAny_Try_except (wpAny_execs_cons (wpAny_Assign_Name (wpAny_mono (he pins s σ H _ _ I h) (fun v s1 ⟨y,H1,I1,r1,q1⟩=>?_) fun y s1 Fl=>Yy3 hc hst hf hg hm hI hN hi hx hs Fl hdb) hw));exact Zi4 I1 hN hj hl r1 (fun s2 I2=>wpAny_execs_nil (wpAny_execs_nil ⟨_,H1,I2,q1⟩)) hfn
end
open PySem.W
section
variable {prog:Program} {w:World} {A:Around} {E:Value→Shared→Prop} {s:Shared} {K:W.Frag} {x C:Addr} {ox:Obj} {od:Option Obj} {nm:Str} {tk:Tok}
structure XGet (K:W.Frag) (C:Addr):Prop where
 ga:findIn K (.ref C) "__getattribute__"=some (some (.builtin "BaseException.__getattribute__"))
 gt:findIn K (.ref C) "__getattr__"=some none
 mb:mroIn K C (.type "BaseException")=some true
theorem Yq6 {R:Result→Shared→Prop} (X:K.In s.heap) (I:W.InstAt s.heap x ox C od) (G:XGet K C)
  (h:wpAny (model prog w) A.in1 (Builtin.«object.__getattribute__» ⟨[.ref x,.str nm tk],[]⟩) (fun fin s'=>match fin with | .done (.ret v)=>R (.ok (.ret v)) s' | _=>False) (fun _ _=>False) s) :
  codeAny (model prog w) A (.call (.builtin "BaseException.__getattribute__") ⟨[.ref x,.str nm tk],[]⟩) R s:=by
 refine codeAny_call_builtin PySem.F.attrBase_ValueError.ga.plain PySem.F.entry_bexc_ga ?_
 have hk:builtinKind "BaseException.__getattribute__"=some .slot:=by decide +kernel
 have hsp:splitId "BaseException.__getattribute__"=some ("BaseException","__getattribute__"):=by decide +kernel
 have ha:=PySem.F.args_bexc_ga (.ref x) (.str nm tk);obtain⟨hh,g,d,t,os⟩:=s;have L0:=I.type (M:=model prog w);have L1:=looks_mroIn (M:=model prog w) X G.mb;have LI:Looks (model prog w) hh (isInstance (.ref x) (.type "BaseException")) true:=L0.andThen L1;simp only[checkBuiltinCall,hk,hsp];refine wpAny_bind (LI.at ?_);simp only[Bool.not_true,Bool.false_eq_true,if_false];refine wpAny_mono (Q:=fun _ s'=>s'=⟨hh,g,d,t,os⟩) (E:=fun _ _=>False) ?_ (fun _ s' z=>?_) fun _ _ z=>False.elim z
 ·have:=ha
  repeat (any_goals (first | assumption | rfl | wp_step))
 ·subst z
  refine wpAny_mono h (fun fin s' z=>?_) fun _ _ z=>False.elim z
  rcases fin with (_ | _ | _ | _) | _<;>first | exact z | exact False.elim z
theorem Xg9 {fill expr:Bool} {Q:Value→Shared→Prop} (X:K.In s.heap) (I:W.InstAt s.heap x ox C od) (G:XGet K C)
  (h:wpAny (model prog w) A.in1 (Builtin.«object.__getattribute__» ⟨[.ref x,.str nm tk],[]⟩) (fun fin s'=>match fin with | .done (.ret v)=>wpAny (model prog w) A (handedOut v) Q E s' | _=>False) (fun _ _=>False) s) :
  wpAny (model prog w) A (getAttrBy (.ref x) (.str nm tk) fill expr) Q E s:=by
 obtain⟨hh,g,d,t,os⟩:=s;have L0:=I.type (M:=model prog w);have L1:=looks_findIn (M:=model prog w) X G.ga;have L2:=looks_findIn (M:=model prog w) X G.gt;unfold getAttrBy;refine wpAny_holding (wpAny_bind (L0.at (wpAny_bind (L1.at ?_))));dsimp only;rw[if_neg (by rw[show (Value.builtin "BaseException.__getattribute__" == Value.builtin "object.__getattribute__")=false from by decide];simp)];unfold getAttrByItsOwn hookBefore;rw[if_pos (show onTheHeap (.ref C)=true from rfl)];refine wpAny_bind (L2.at (wpAny_bind (wpAny_attempt (wpAny_holding ?_))));unfold callGetattribute boundAndCalled;rw[if_neg (by cases expr<;>decide)];refine wpAny_bind (wpAny_of_eq (PySem.F.attrBase_ValueError.ga.bind (.ref x)) ?_);refine wpAny_call (Yq6 X I G (wpAny_mono h (fun fin s' z=>?_) fun _ _ z=>z))
 rcases fin with (_ | _ | _ | _) | _<;>first | exact z | exact False.elim z
theorem Yn8 {Q:Option Value→Shared→Prop} (X:K.In s.heap) (I:W.InstAt s.heap x ox C od) (G:XGet K C) (hf:findObj K C od "__class__"=some (.bind (.builtin "getset_descriptor.__get__") (.builtin "object.__class__"))) (hm:mroIn K C (.type "object")=some true)
  (h:Q (some (.ref C)) { s with toks:=s.toks+1 }):wpAny (model prog w) A (getAttr? (.ref x) "__class__") Q E s:=by
 obtain⟨hh,g,d,t,os⟩:=s;unfold getAttr? getAttrBy?;refine wpAny_bind (wpAny_mkText (wpAny_bind (wpAny_attempt (Xg9 (s:=⟨hh,g,d,t+1,os⟩) X I G ?_))));have L0:=I.type (M:=model prog w);have L1:=looks_find (M:=model prog w) X I hf;unfold Builtin.«object.__getattribute__»;refine wpAny_bind (wpAny_pure (wpAny_bind (wpAny_pure (wpAny_bind (L0.at (wpAny_bind (L1.at ?_)))))));dsimp only;unfold Builtin.ObjectAttr.bindTo;refine wpAny_bind (wpAny_holding (wpAny_call (class_get (s:=⟨hh,g,d,t+1,os⟩) (ox:=ox) (od:=od) X I hm ?_)));exact wpAny_pure (handed_on rfl (wpAny_pure h))
end
section
variable {P:Program} {w:World} {K:W.Frag} {mg:Str→Option Value} {base:Heap}
theorem Fun.okX {x qual:Str} {st:Stmt} {f:Addr} {fd:FuncData} {N ps:List Str} {k:Nat} {sp:Sp} (F:Fun K x qual st f fd) (S:FnScope N ps (Za7 st)) (len:∀ vs H Q E,sp vs H Q E→vs.length=ps.length)
  (hbody:∀ (cdv:Value) (A:Around) (outer:List Env) (s:Shared) (H:Hp) (vs:List V) (Q:VK) (E:XK),Room k (A.deeper (envOfC qual (Za7 st) s.heap.objs.size f cdv))→sp vs H Q E →
   ∃ t,PSs (cxOf (CXe P w) P w K mg base N qual (Za7 st) f cdv A outer s H E) (Zc9 st) t∧t { nx:=fun _ H'=>Q .non H',rt:=Q } (start N vs) H):FnOk P w K mg base (CXe P w) (k+1) f fd ps sp:=by
 obtain⟨oc,od,kV,doc,pm,an,cdv,ct,osl,rfl,lk,hcd⟩:=F.ex;exact fn_of lk hcd S len fun A outer s H vs Q E hr hsp=>hbody cdv A outer s H vs Q E hr hsp
end
structure XIsi (K:W.Frag) (C:Addr):Prop extends XGet K C where
 cls:(clsIn K C).isSome=true
 ca:findIn K (.ref C) "__class__"=some (some (.builtin "object.__class__"))
 mo:mroIn K C (.type "object")=some true
theorem Yk4:pureOf (fastBuiltinType "object.__class__")=some (.type "getset_descriptor"):=by kernel_rfl
theorem Xb2 (K:W.Frag):specialIn K (.builtin "object.__class__") "__get__"=some (some (.builtin "getset_descriptor.__get__")):=by
 show (pureOf (fastBuiltinType "object.__class__")).bind _=_;rw[Yk4];show fastLookup "getset_descriptor" "__get__"=_
 kernel_rfl
theorem Xa4 (K:W.Frag):takesIn K (.builtin "object.__class__")=some true:=by
 have e:specialIn K (.builtin "object.__class__") "__set__"=some (some (.builtin "getset_descriptor.__set__")):=by
  show (pureOf (fastBuiltinType "object.__class__")).bind _=_;rw[Yk4];show fastLookup "getset_descriptor" "__set__"=_
  kernel_rfl
 unfold takesIn;rw[e]
def XObj (x C:Addr) (h:Heap):Prop:=∃ ox od,W.InstAt h x ox C od
theorem Ya5 {K:W.Frag} {x C:Addr} (Z:XIsi K C):KitX K (.ref x) (.ref C) (XObj x C):=by
 obtain⟨cd,hcd⟩:=Option.isSome_iff_exists.mp Z.cls
 have hl:∃ c d sl,K.lookup C=some ⟨c,d,.cls cd,sl⟩:=by
  unfold clsIn at hcd
  split at hcd
  ·rename_i q;cases hcd;exact⟨_,_,_,q⟩
  ·cases hcd
 obtain⟨c,d,sl,hl⟩:=hl;refine⟨fun M h _ ⟨_,_,I⟩=>I.type,fun M h X _ A Q E s k q=>?_,fun h tp dd its n sl' X htp=>?_,fun {prog w A E Q s} X ⟨ox,od,I⟩ k=>Yn8 X I Z.toXGet ?_ Z.mo k⟩
 ·unfold isType loadHead
  exact wpAny_bind (wpAny_loadPart (k _ _ (X _ _ hl)) (wpAny_pure q))
 ·refine Bool.eq_false_iff.mpr fun q=>?_
  have e:C=tp:=Value.ref.inj (beq_iff_eq.mp q);subst e;have z:=(X _ _ hl).symm.trans htp;cases z
 ·unfold findObj
  rw[hcd,Option.bind_some,Z.ca,Option.bind_some];simp[Xb2 K,Xa4 K]
def Yz5 (H:Hp) (dd:Option Addr):Prop:=∀ d,dd=some d→∃ fs,H d=some (.xd fs)
theorem Yg9 {P:Program} {w:World} {H:Hp} {h:Heap} {e C:Addr} {dd T:Option Addr} (hok:HOk P w H h) (F:H e=some (ExcO e (.ref C) dd T)) (D:Yz5 H dd):XObj e C h:=by
 obtain⟨vs,sl,z,_⟩:=Zo2 hok F
 cases dd with
 | none=>exact⟨_,none,z,rfl,rfl,trivial⟩
 | some d =>
  obtain⟨fs,q⟩:=D d rfl;obtain⟨o,y⟩:=(hok d _ q).obj;exact⟨_,some o,z,rfl,rfl,y⟩
def Yd2 (K:W.Frag):List V→Hp→VK→Prop:=fun xs H Q=>∃ e C dd T C' b,xs=[.ref e,.ref C']∧H e=some (ExcO e (.ref C) dd T)∧Yz5 H dd∧XIsi K C∧kitOne K (.ref C) (.ref C')=some b∧Q (.bl b) H
def Yd3 (K:W.Frag):List V→Hp→VK→Prop:=fun xs H Q=>∃ e C dd T n b,xs=[.ref e,.ty n]∧H e=some (ExcO e (.ref C) dd T)∧Yz5 H dd∧XIsi K C∧kitOne K (.ref C) (.type n)=some b∧Q (.bl b) H
def Yd1 (K:W.Frag):List V→Hp→VK→Prop:=fun xs H Q=>∃ e C dd T t,∃ (cs:List Addr) (b:Bool),xs=[.ref e,.ref t]∧H e=some (ExcO e (.ref C) dd T)∧Yz5 H dd∧XIsi K C∧H t=some (.tup (cs.map V.ref))∧kitAny K (.ref C) (cs.map Value.ref)=some b∧Q (.bl b) H
theorem Yk1:∀ {cs:List Addr} {us:List Value},Vals (cs.map V.ref) us→us=cs.map Value.ref
 | [],_,.nil=>rfl
 | _ :: _,_,.cons r t=>by rw[Yk1 t];cases (show _=Value.ref _ from r);rfl
section
variable {X:Cx}
theorem Yy6:Zr0 X (.builtin "isinstance") (Yd2 X.K):=by
 intro pins s σ H xs us Q I r h;obtain⟨e,C,dd,T,C',b,rfl,he,hD,Z,hk,q⟩:=h;obtain⟨u,c,rfl,rx,rc⟩:=Yq8 r;cases (show u=Value.ref e from rx);cases (show c=Value.ref C' from rc);exact W.kia_one (Ya5 Z) I.kIn (Yg9 I.hok he hD) hk (fun z=>nomatch z) fun tk=>⟨.bl b,H,I.tok tk,rfl,q⟩
theorem Yy7:Zr0 X (.builtin "isinstance") (Yd3 X.K):=by
 intro pins s σ H xs us Q I r h;obtain⟨e,C,dd,T,C',b,rfl,he,hD,Z,hk,q⟩:=h;obtain⟨u,c,rfl,rx,rc⟩:=Yq8 r;cases (show u=Value.ref e from rx);cases (show c=Value.type C' from rc);exact W.kia_one (Ya5 Z) I.kIn (Yg9 I.hok he hD) hk (fun z=>nomatch z) fun tk=>⟨.bl b,H,I.tok tk,rfl,q⟩
theorem Yy5:Zr0 X (.builtin "isinstance") (Yd1 X.K):=by
 intro pins s σ H xs us Q I r h;obtain⟨e,C,dd,T,t,cs,b,rfl,he,hD,Z,ht,hk,q⟩:=h;obtain⟨u,c,rfl,rx,rc⟩:=Yq8 r;cases (show u=Value.ref e from rx);cases (show c=Value.ref t from rc);obtain⟨_,its,rv,o,h1,h2,n,h3⟩:=(show ObjOk X.prog X.w H s.heap t (.tup (cs.map V.ref)) from I.hok t _ ht);obtain⟨oc,od,odt,osl⟩:=o;dsimp only at h2 h3;subst h2 h3;rw[Yk1 rv] at h1;exact W.kia_tup (Ya5 Z) I.kIn (Yg9 I.hok he hD) h1 hk (fun z=>nomatch z) fun tk=>⟨.bl b,H,I.tok tk,rfl,q⟩
end
section
variable {X:Cx}
theorem Yo6 (X:Cx):X.nox.K=X.K:=rfl
theorem Zq8 (CX:CXT) (P:Program) (w:World) (K:W.Frag) (mg:Str→Option Value) (base:Heap) (N:List Str) (qual:Str) (scope:Scope) (f:Addr) (cd:Value) (A:Around) (outer:List Env) (s:Shared) (H:Hp) (E:XK):(cxOf CX P w K mg base N qual scope f cd A outer s H E).K=K:=rfl
end
end L2
namespace Ken
open PySem
theorem Zv5:bootBuiltins "ValueError"=some (.type "ValueError"):=PyProof.Rows.Boot.«ValueError»
end Ken
namespace L2
open PySem PySem.Spec PyProof.Rows PySem.W
open Ken
section
variable {X:Cx} {K:W.Frag}
theorem Yp9 (hK:X.K=K):Zr0 X (.builtin "isinstance") (Yd2 K):=hK▸Yy6
theorem Yq0 (hK:X.K=K):Zr0 X (.builtin "isinstance") (Yd3 K):=hK▸Yy7
theorem Zx5 (hK:X.K=K):Zr0 X (.builtin "isinstance") (Yd1 K):=hK▸Yy5
theorem Xj2 {N:Addr} {c:Value} {d:Option Addr} {es:Array DictEntry} {ep:Nat} {sl:Array (Option Value)} (l:K.lookup N=some ⟨c,d,.dict es ep,sl⟩) (h:(es.toList.all fun e=>match e.key with | .str _ _=>true | _=>false)=true):W.nsOkIn K N=true:=by
 unfold W.nsOkIn;rw[l];show (es.all _)=true;rw[← Array.all_toList];exact h
theorem Xa7 {B N:Addr} {nm q:Str} {bs bm:List Value} {hdct:Bool} {sn:List Str} {sub:List Value} {ab:Bool} {col:Option Bool} {dd:Option Addr} {k0 k1 k2 k3 k5:Option Value} {nw:String}
  (l:K.lookup B=some (excClassObj nm q B N bs bm hdct sn sub ab col dd k0 k1 k2 k3 k5 nw)) (hn:W.nsOkIn K N=true) (hi:W.nsIn K N "__init__"=some none):W.tailIn K bmV (.ref B :: bmV)=true:=by
 rw[W.tailIn.eq_2,l];unfold excClassObj;dsimp only;rw[hn,hi,show W.tailIn K bmV bmV=true by rw[W.tailIn.eq_def];rfl];exact Bool.or_true _
theorem Xe3 {C:Addr} (h:W.hasDictIn K C=true):(W.clsIn K C).isSome=true:=by
 unfold W.hasDictIn at h
 cases e:W.clsIn K C with
 | none=>rw[e] at h;cases h
 | some _=>rfl
end
end L2
namespace Hd
open PySem PySem.W PySem.Calls PySem.Spec PyProof.Rows L2
noncomputable def adr (K:Frag) (x:Str):Addr:=match nsIn K mainGlobals x with
 | some (some (.ref a))=>a
 | _=>0
noncomputable def Xk4 (K:Frag) (x:Str):Bool:=match nsIn K mainGlobals x with
 | some (some (.ref _))=>true
 | _=>false
theorem Xy8 {K:Frag} {x:Str} (h:Xk4 K x=true):nsIn K mainGlobals x=some (some (.ref (adr K x))):=by
 unfold Xk4 at h;unfold adr
 split at h
 ·rename_i a e
  rw[e]
 ·cases h
noncomputable def Zo3 (o:Obj) (C:Addr):Option (List Value×Addr):=match o with
 | ⟨c,_,.cls cd,sl⟩=>(match cd.mro,sl.toList with
  | .ref c1 :: bm,[_,_,_,_,some (.builtin n),_]=>if c=.type "type"∧c1=C∧cd.hasDel=false∧n="ValueError.__new__" then some (bm,cd.ns) else none
  | _,_=>none)
 | _=>none
theorem Xg2 {o:Obj} {C N:Addr} {bm:List Value} (h:Zo3 o C=some (bm,N)):∃ (nm q:Str) (bs:List Value) (hdct:Bool) (sn:List Str) (sub:List Value) (ab:Bool) (col:Option Bool) (dd:Option Addr) (k0 k1 k2 k3 k5:Option Value),
  o=excClassObj nm q C N bs bm hdct sn sub ab col dd k0 k1 k2 k3 k5 "ValueError.__new__":=by
 unfold Zo3 at h
 split at h
 ·rename_i c dd cd sl
  split at h
  ·rename_i c1 bm' k0 k1 k2 k3 n k5 hm hs
   split at h
   ·rename_i hc
    obtain⟨h1,h2,h3,h4⟩:=hc;have h:=Option.some.inj h;obtain⟨e1,e2⟩:=Prod.mk.inj h;obtain⟨nm,bs,mro,ns,q,hd,sn,sub,ab,col,del⟩:=cd;dsimp only at hm h3 e2;subst hm h1 h2 h3 h4 e1 e2;refine⟨nm,q,bs,hd,sn,sub,ab,col,dd,k0,k1,k2,k3,k5,?_⟩;have:sl=#[k0,k1,k2,k3,some (.builtin "ValueError.__new__"),k5]:=Array.toList_inj.mp hs;rw[this]
   ·cases h
  ·cases h
 ·cases h
noncomputable def Yo5 (K:Frag) (N:Addr):Bool:=match K.lookup N with
 | some ⟨_,_,.dict es _,_⟩=>es.toList.all fun e=>match e.key with | .str _ _=>true | _=>false
 | _=>false
theorem Ym0 {K:Frag} {N:Addr} (h:Yo5 K N=true):nsOkIn K N=true:=by
 unfold Yo5 at h
 split at h
 ·rename_i l
  exact Xj2 l h
 ·cases h
noncomputable def Xl5 (K:Frag) (C B:Addr):Bool:=match (K.lookup C).bind (Zo3 · C),(K.lookup B).bind (Zo3 · B) with
 | some (bm,N),some (_,M)=>bm == .ref B :: bmV&&Yo5 K N&&Yo5 K M&&nsIn K N "__init__" == some none&&nsIn K M "__init__" == some none
 | _,_=>false
theorem Xh0 {K:Frag} {C B:Addr} (h:Xl5 K C B=true):XCls K C:=by
 unfold Xl5 at h
 split at h
 ·rename_i bm N bm2 M hC hB
  obtain⟨o,l,f⟩:=Option.bind_eq_some_iff.mp hC;obtain⟨o2,l2,f2⟩:=Option.bind_eq_some_iff.mp hB;simp only[Bool.and_eq_true] at h;obtain⟨⟨⟨⟨h1,h2⟩,h3⟩,h4⟩,h5⟩:=h;have h1:=eq_of_beq h1;have h4:=eq_of_beq h4;have h5:=eq_of_beq h5;subst h1;obtain⟨nm,q,bs,hd,sn,sub,ab,col,dd,k0,k1,k2,k3,k5,rfl⟩:=Xg2 f;obtain⟨nm',q',bs',hd',sn',sub',ab',col',dd',k0',k1',k2',k3',k5',rfl⟩:=Xg2 f2;exact Xh1 l (Xa7 l2 (Ym0 h3) h5) (Ym0 h2) h4
 ·cases h
noncomputable def Xc9 (K:Frag) (C:Addr):Bool:=findIn K (.ref C) "__getattribute__" == some (some (.builtin "BaseException.__getattribute__"))&&findIn K (.ref C) "__getattr__" == some none&&mroIn K C (.type "BaseException") == some true&&hasDictIn K C &&
 findIn K (.ref C) "__class__" == some (some (.builtin "object.__class__"))&&mroIn K C (.type "object") == some true
theorem Xg8 {K:Frag} {C:Addr} (h:Xc9 K C=true):XIsi K C:=by
 unfold Xc9 at h;simp only[Bool.and_eq_true] at h;obtain⟨⟨⟨⟨⟨h1,h2⟩,h3⟩,h4⟩,h5⟩,h6⟩:=h;exact⟨⟨eq_of_beq h1,eq_of_beq h2,eq_of_beq h3⟩,Xe3 h4,eq_of_beq h5,eq_of_beq h6⟩
structure ClsAsk where
 cls:List Nat
 exc:List (Nat×Nat)
 kit:List (Nat×List Nat)
noncomputable def at_ (p:Program) (K:Frag) (i:Nat):Addr:=adr K (nm (stAt p i))
noncomputable def chk (p:Program) (B:ClsAsk) (K:Frag):Bool :=
 (B.cls.all fun i=>Xk4 K (nm (stAt p i)))&&(B.exc.all fun ij=>Xl5 K (at_ p K ij.1) (at_ p K ij.2)&&Xc9 K (at_ p K ij.1)&&kitOne K (.ref (at_ p K ij.1)) (.ref (at_ p K ij.2)) == some true&&kitOne K (.ref (at_ p K ij.1)) (.type "ValueError") == some true) &&
 B.kit.all fun ij=>kitAny K (.ref (at_ p K ij.1)) (ij.2.map fun j=>.ref (at_ p K j)) == some false
section
variable {p:Program} {B:ClsAsk} {K:Frag}
theorem Wb2 (h:chk p B K=true) {i:Nat} (hi:i∈B.cls):nsIn K mainGlobals (nm (stAt p i))=some (some (.ref (at_ p K i))):=by
 unfold chk at h;simp only[Bool.and_eq_true] at h;exact Xy8 (List.all_eq_true.mp h.1.1 i hi)
theorem c_refx {x:Str} (h:chk p B K=true) {i:Nat} (hx:nm (stAt p i)=x) (hi:i∈B.cls):nsIn K mainGlobals x=some (some (.ref (at_ p K i))):=hx▸Wb2 h hi
theorem c_exc (h:chk p B K=true) {ij:Nat×Nat} (hi:ij∈B.exc):XCls K (at_ p K ij.1)∧XIsi K (at_ p K ij.1)∧kitOne K (.ref (at_ p K ij.1)) (.ref (at_ p K ij.2))=some true∧kitOne K (.ref (at_ p K ij.1)) (.type "ValueError")=some true:=by
 unfold chk at h;simp only[Bool.and_eq_true] at h;have:=List.all_eq_true.mp h.1.2 ij hi;simp only[Bool.and_eq_true] at this;obtain⟨⟨⟨h1,h2⟩,h3⟩,h4⟩:=this;exact⟨Xh0 h1,Xg8 h2,eq_of_beq h3,eq_of_beq h4⟩
theorem c_kit (h:chk p B K=true) {ij:Nat×List Nat} (hi:ij∈B.kit):kitAny K (.ref (at_ p K ij.1)) (ij.2.map fun j=>.ref (at_ p K j))=some false:=by
 unfold chk at h;simp only[Bool.and_eq_true] at h;exact eq_of_beq (List.all_eq_true.mp h.2 ij hi)
end
noncomputable def Xz4 (p:Program) (A:Ask) (B:ClsAsk) (h:Heap):List Addr :=
 Wb4 p A h++B.cls.flatMap fun i=>match nsIn (pick h [mainGlobals]) mainGlobals (nm (stAt p i)) with
  | some (some (.ref a))=>a :: (match h.get? a with
   | some ⟨_,_,.cls cd,_⟩=>[cd.ns]
   | _=>[])
  | _=>[]
noncomputable def nsOf (K:Frag) (C:Addr):Option Addr:=((K.lookup C).bind (Zo3 · C)).map (·.2)
noncomputable def Wa8 (K:Frag) (C:Addr):Option (Addr×Obj):=(nsOf K C).bind fun N=>match nsIn K N "__init__" with
 | some (some (.ref f))=>(K.lookup f).map fun o=>(f,o)
 | _=>none
noncomputable def Xk7 (K:Frag) (C:Addr):Option (Value×FnD):=match Wa8 K C with
 | some (_,⟨c,_,.func fd,_⟩)=>some (c,fnD K fd)
 | _=>none
noncomputable def Ya8 (q:Str) (st:Stmt):Option (Value×FnD):=some (.type "function","__init__",q,Zd3 st,.stmts (Zc9 st),Za7 st,mainGlobals,[],.none,builtinsNs,true)
noncomputable def Xx9 (K:Frag) (C B:Addr):Bool:=match (K.lookup C).bind (Zo3 · C),(K.lookup B).bind (Zo3 · B) with
 | some (bm,N),some (_,M)=>bm == .ref B :: bmV&&Yo5 K N&&Yo5 K M&&nsIn K M "__init__" == some none
 | _,_=>false
noncomputable def Xz7 (K:Frag) (C:Addr) (x:Str):Bool:=findIn K (.ref C) "__setattr__" == some (some (.builtin "object.__setattr__"))&&findIn K (.ref C) x == some none&&hasDictIn K C&&mroIn K C (.type "object") == some true
noncomputable def fiOk:Option CFound→Bool
 | some (.val (.builtin n))=>n == "ValueError.__init__"
 | _=>false
noncomputable def Wa7 (K:Frag) (B:Addr):Bool:=specialIn K (.ref B) "__getattribute__" == some (some (.builtin "type.__getattribute__"))&&readsIn K B (.type "type")&&fiOk (findCls K (.ref B) (.type "type") "__init__")
structure IniRow where
 cls:Nat
 bas:Nat
 met:Nat
 qual:Str
 fld:Str
noncomputable def Xx6 (K:Frag) (C B:Addr) (fld:Str):Bool:=Xx9 K C B&&Xc9 K C&&Xz7 K C fld&&Wa7 K B&&kitOne K (.ref C) (.ref B) == some true&&kitOne K (.ref C) (.type "ValueError") == some true
noncomputable def Wa6 (K:Frag) (x:Str) (i:Int):Bool:=match nsIn K mainGlobals x with
 | some (some (.int j _))=>decide (j=i)
 | _=>false
structure MoreAsk where
 ini:List IniRow
 nums:List (Str×Int)
noncomputable def chkM (p:Program) (M:MoreAsk) (K:Frag):Bool:=(M.ini.all fun r=>Xx6 K (at_ p K r.cls) (at_ p K r.bas) r.fld)&&M.nums.all fun xi=>Wa6 K xi.1 xi.2
noncomputable def iniK (p:Program) (M:MoreAsk) (K:Frag):List (Option (Value×FnD)):=M.ini.map fun r=>Xk7 K (at_ p K r.cls)
noncomputable def iniV (p:Program) (M:MoreAsk):List (Option (Value×FnD)):=M.ini.map fun r=>Ya8 r.qual (Zq7 (stAt p r.cls) r.met)
noncomputable def Xz3 (p:Program) (A:Ask) (B:ClsAsk) (M:MoreAsk) (h:Heap):List Addr :=
 cStatics :: Xz4 p A B h++M.ini.flatMap fun r=>match nsIn (pick h [mainGlobals]) mainGlobals (nm (stAt p r.cls)) with
  | some (some (.ref a))=>(match h.get? a with
   | some ⟨_,_,.cls cd,_⟩=>(match nsIn (pick h [cd.ns]) cd.ns "__init__" with
    | some (some (.ref f))=>f :: (match h.get? f with
     | some ⟨_,_,.func fd,_⟩=>(match fd.code with | .ref c=>[c] | _=>[])
     | _=>[])
    | _=>[])
   | _=>[])
  | _=>[]
noncomputable abbrev Obs3:=Obs×Bool×List (Option (Value×FnD))×Bool
noncomputable def Wa2 (p:Program) (A:Ask) (B:ClsAsk) (M:MoreAsk) (K:Frag):Obs3:=(obsK p A K,chk p B K,iniK p M K,chkM p M K)
noncomputable def val3 (p:Program) (A:Ask) (M:MoreAsk) (w:World):Obs3:=(valK p A w.params,true,iniV p M,true)
end Hd
namespace L2
open PySem PySem.Spec PyProof.Rows
structure Df (K:W.Frag) (mg:Str→Option Value) (x:Str) (st:Stmt) (ps:List Str):Prop where
 ex:∃ (f:Addr) (fd:FuncData),mg x=some (.ref f)∧Fun K x x st f fd∧W.keepIn K (.ref f)=true∧Binds K fd ps []
end L2
namespace Hd
open PySem PySem.W PySem.Calls PySem.Spec PyProof.Rows L2
section
variable {p:Program} {A:Ask} {K:Frag} {P:Params} {h:Heap} {mg:Str→Option Value} {x a b c d e f g:Str}
theorem df {ps:List Str} (X:K.In h) (G:h.Ns mainGlobals mg) (E:obsK p A K=valK p A P) (i:Nat) (hx:nm (stAt p i)=x) (hi:i∈A.fns)
  (hb:∀ kV dc pm an cd ct (us:List Value),us.length=ps.length→bindArgs (fnOf x x (Zd3 (stAt p i)) (Zc9 (stAt p i)) (Za7 (stAt p i)) .none kV dc pm an cd ct) ⟨us,[]⟩=pure (ps.zip us)):Df K mg x (stAt p i) ps:=by
 obtain⟨f,fd,a,F⟩:=Yw6 hx (e_fn E hi);exact⟨⟨f,fd,mg_of X G a,F,F.kp,F.binds hb⟩⟩
theorem nsx {f:Addr} (X:K.In h) (G:h.Ns mainGlobals mg) (E:obsK p A K=valK p A P) (i:Nat) (m:mg x=some (.ref f)) (hx:nm (stAt p i)=x:=by kernel_rfl) (hi:i∈A.fns:=by decide):nsIn K mainGlobals x=some (some (.ref f)):=by
 obtain⟨f',fd,a,F⟩:=Yw6 hx (e_fn E hi);have e:=(mg_of X G a).symm.trans m;cases e;exact a
theorem lS {α:Type} {n:Nat} {us:List α} (h:us.length=n+1):∃ u t,us=u :: t∧t.length=n:=by
 cases us with
 | nil=>cases h
 | cons u t=>exact⟨u,t,rfl,Nat.succ.inj h⟩
theorem df1 (X:K.In h) (G:h.Ns mainGlobals mg) (E:obsK p A K=valK p A P) (i:Nat) (hx:nm (stAt p i)=x:=by kernel_rfl) (hi:i∈A.fns:=by decide)
  (hb:∀ kV dc pm an cd ct u1,bindArgs (fnOf x x (Zd3 (stAt p i)) (Zc9 (stAt p i)) (Za7 (stAt p i)) .none kV dc pm an cd ct) ⟨[u1],[]⟩=pure [(a,u1)]:=by intros;rfl):Df K mg x (stAt p i) [a] :=
 df X G E i hx hi fun kV dc pm an cd ct us hl=>by
  obtain⟨u,us1,rfl,hl1⟩:=lS hl;cases List.length_eq_zero_iff.mp hl1;exact hb kV dc pm an cd ct u
theorem df2 (X:K.In h) (G:h.Ns mainGlobals mg) (E:obsK p A K=valK p A P) (i:Nat) (hx:nm (stAt p i)=x:=by kernel_rfl) (hi:i∈A.fns:=by decide)
  (hb:∀ kV dc pm an cd ct u1 u2,bindArgs (fnOf x x (Zd3 (stAt p i)) (Zc9 (stAt p i)) (Za7 (stAt p i)) .none kV dc pm an cd ct) ⟨[u1,u2],[]⟩=pure [(a,u1),(b,u2)]:=by intros;rfl):Df K mg x (stAt p i) [a,b] :=
 df X G E i hx hi fun kV dc pm an cd ct us hl=>by
  obtain⟨u,us1,rfl,hl1⟩:=lS hl;obtain⟨v,us2,rfl,hl2⟩:=lS hl1;cases List.length_eq_zero_iff.mp hl2;exact hb kV dc pm an cd ct u v
theorem df3 (X:K.In h) (G:h.Ns mainGlobals mg) (E:obsK p A K=valK p A P) (i:Nat) (hx:nm (stAt p i)=x:=by kernel_rfl) (hi:i∈A.fns:=by decide)
  (hb:∀ kV dc pm an cd ct u1 u2 u3,bindArgs (fnOf x x (Zd3 (stAt p i)) (Zc9 (stAt p i)) (Za7 (stAt p i)) .none kV dc pm an cd ct) ⟨[u1,u2,u3],[]⟩=pure [(a,u1),(b,u2),(c,u3)]:=by intros;rfl):Df K mg x (stAt p i) [a,b,c] :=
 df X G E i hx hi fun kV dc pm an cd ct us hl=>by
  obtain⟨u,us1,rfl,hl1⟩:=lS hl;obtain⟨v,us2,rfl,hl2⟩:=lS hl1;obtain⟨w,us3,rfl,hl3⟩:=lS hl2;cases List.length_eq_zero_iff.mp hl3;exact hb kV dc pm an cd ct u v w
theorem df4 (X:K.In h) (G:h.Ns mainGlobals mg) (E:obsK p A K=valK p A P) (i:Nat) (hx:nm (stAt p i)=x:=by kernel_rfl) (hi:i∈A.fns:=by decide)
  (hb:∀ kV dc pm an cd ct u1 u2 u3 u4,bindArgs (fnOf x x (Zd3 (stAt p i)) (Zc9 (stAt p i)) (Za7 (stAt p i)) .none kV dc pm an cd ct) ⟨[u1,u2,u3,u4],[]⟩=pure [(a,u1),(b,u2),(c,u3),(d,u4)]:=by intros;rfl):Df K mg x (stAt p i) [a,b,c,d] :=
 df X G E i hx hi fun kV dc pm an cd ct us hl=>by
  obtain⟨u,us1,rfl,hl1⟩:=lS hl;obtain⟨v,us2,rfl,hl2⟩:=lS hl1;obtain⟨w,us3,rfl,hl3⟩:=lS hl2;obtain⟨y,us4,rfl,hl4⟩:=lS hl3;cases List.length_eq_zero_iff.mp hl4;exact hb kV dc pm an cd ct u v w y
end
noncomputable def Yx8 (K:Frag):Value→Option (Addr×Obj)
 | .ref c=>(K.lookup c).map fun o=>(c,o)
 | _=>none
noncomputable def Yn3 (K:Frag) (x:Str):Option (Addr×Obj):=match Zi0 K x with
 | some (_,⟨_,_,.func fd,_⟩)=>Yx8 K fd.code
 | _=>none
noncomputable def tabV:Option Value→Addr
 | some (.ref T)=>T
 | _=>0
noncomputable def Xz6:Option (Addr×Obj)→Addr
 | some (_,⟨_,_,.fields vs,_⟩)=>tabV vs[11]?
 | _=>0
noncomputable def tabAt (K:Frag) (x:Str):Addr:=Xz6 (Yn3 K x)
noncomputable def Yn0 (c:Addr) (vs:Array Value):Bool:=match (vs[11]?:Option Value),vs.getD 11 .none,vs.getD 18 .none,vs.getD 7 .none,vs.getD 9 .none,vs.getD 10 .none with
 | some (.ref T),.ref T',.str _ _,.int _ _,.bool _,.int _ _=>T == T'&&c != T&&mainGlobals != T
 | _,_,_,_,_,_=>false
noncomputable def Yg2 (K:Frag) (x:Str):Bool:=(match Yn3 K x with
 | some (c,⟨cl,_,.fields vs,_⟩)=>cl == .type "code"&&Yn0 c vs
 | _=>false)&&(K.lookup (tabAt K x)).isNone
theorem Yo2 {K:Frag} {x:Str} {f:Addr} {o:Obj} (a:nsIn K mainGlobals x=some (some (.ref f))) (l:K.lookup f=some o):Zi0 K x=some (f,o):=by
 unfold Zi0;rw[a];dsimp only;rw[l];rfl
def FunTF (K:Frag) (x:Str) (st:Stmt) (T:Addr):Prop:=∃ (f:Addr) (fd:FuncData),nsIn K mainGlobals x=some (some (.ref f))∧FunT K x x st f fd T∧Fun K x x st f fd∧mainGlobals≠T∧K.lookup T=none∧∀ h,K.In h→isCodeTable h T
theorem Yw7 {K:Frag} {st:Stmt} (e:Zp0 K (nm st)=Zr8 st) (h:Yg2 K (nm st)=true):FunTF K (nm st) st (tabAt K (nm st)):=by
 obtain⟨f,oc,od,sl,kV,dc,pm,an,cd,ct,a,l,c,k⟩:=fn_of e;have r:=Yo2 a l
 have q:Yn3 K (nm st)=Yx8 K cd:=by
  unfold Yn3;rw[r]
 unfold Yg2 at h;rw[Bool.and_eq_true] at h;obtain⟨h,hn⟩:=h;have hn:=Option.isNone_iff_eq_none.mp hn
 split at h
 ·rename_i cc cl od2 vs sl2 hc
  have ht:tabAt K (nm st)=tabV vs[11]?:=by
   unfold tabAt;rw[hc];rfl
  rw[Bool.and_eq_true] at h;obtain⟨hcl,hf⟩:=h;have hcl:=eq_of_beq hcl;subst hcl;unfold Yn0 at hf
  split at hf
  ·rename_i T T' s1 s2 i1 i2 b1 j1 j2 g1 g2 g3 g4 g5 g6
   simp only[Bool.and_eq_true] at hf;obtain⟨⟨f1,f2⟩,f3⟩:=hf;have f1:=eq_of_beq f1
   have f2:cc≠T:=fun z=>by rw[z] at f2;simp at f2
   have f3:mainGlobals≠T:=fun z=>by rw[← z] at f3;simp at f3
   subst f1
   have ht:tabAt K (nm st)=T:=by rw[ht,g1];rfl
   rw[ht] at hn ⊢
   cases cd with
   | ref c0 =>
    rw[hc] at q;obtain⟨o,e1,e2⟩:=Option.map_eq_some_iff.mp (show (K.lookup c0).map (fun o=>(c0,o))=_ from q.symm);cases e2;have hC:∀ h,K.In h→CodeHd h cc T:=fun h kx=>Yy1 e1 ⟨g1,g2,⟨_,_,g3⟩,⟨_,_,g4⟩,⟨_,g5⟩,⟨_,_,g6⟩⟩ f2 h kx;exact⟨f,_,a,Xl2 l c k hC,Ym9 l c k,f3,hn,fun h kx=>⟨cc,_,vs,kx _ _ e1,rfl,rfl,g1⟩⟩
   | _=>exact absurd (hc.symm.trans q) (by intro z;cases z)
  ·cases hf
 ·cases h
theorem funT_ofx {K:Frag} {x:Str} {st:Stmt} (hx:nm st=x) (e:Zp0 K (nm st)=Zr8 st) (h:Yg2 K (nm st)=true):FunTF K x st (tabAt K x):=hx▸Yw7 e h
noncomputable def Yb0 (o:Option Obj):Bool:=match o with
 | some ⟨.none,none,.fields vs,sl⟩=>vs.size == 0&&sl.size == 0
 | _=>false
theorem Yj4 {o:Option Obj} (h:Yb0 o=true):o=some (tabObj #[]):=by
 unfold Yb0 at h
 split at h
 ·rename_i vs sl
  rw[Bool.and_eq_true] at h;have h1:vs=#[]:=Array.size_eq_zero_iff.mp (by simpa using h.1);have h2:sl=#[]:=Array.size_eq_zero_iff.mp (by simpa using h.2);rw[h1,h2]
 ·cases h
noncomputable def Xy5 (K:Frag):Bool:=match nsIn K mainGlobals (Str.ofString "__builtins__") with
 | some (some (.ref b))=>(K.lookup b).isSome
 | _=>false
noncomputable def tabs (p:Program) (TA:List Nat) (K:Frag):List Addr:=TA.map fun i=>tabAt K (nm (stAt p i))
noncomputable def codesOk (p:Program) (TA:List Nat) (K:Frag):Bool:=(TA.all fun i=>Yg2 K (nm (stAt p i)))&&Xy5 K
noncomputable def Xn7 (p:Program) (TA:List Nat) (h:Heap) (K:Frag):Bool:=(tabs p TA K).all fun T=>Yb0 (h.get? T)
noncomputable def Xz2 (p:Program) (A:Ask) (B:ClsAsk) (M:MoreAsk) (h:Heap):List Addr :=
 Xz3 p A B M h++(match nsIn (pick h [mainGlobals]) mainGlobals (Str.ofString "__builtins__") with
  | some (some (.ref b))=>[b]
  | _=>[])
theorem t_code {p:Program} {TA:List Nat} {K:Frag} (h:codesOk p TA K=true) {i:Nat} (hi:i∈TA):Yg2 K (nm (stAt p i))=true:=by
 unfold codesOk at h;rw[Bool.and_eq_true] at h;exact List.all_eq_true.mp h.1 i hi
end Hd
namespace Ken
open PySem L2
section
variable {X:Cx} {pins:List (Addr×Obj)} {σ:St} {H:Hp} {s:Shared}
theorem isT_inj (I:Inv X pins σ H s):∀ {a b:Tm} {v:V},IsT X.K H v a→IsT X.K H v b→a=b
 | .low,b,v,h,g=>by
  obtain⟨p,rfl,hs⟩:=isT_low.mp h
  cases b with
  | low=>rfl
  | ltr w =>
   obtain⟨q,e,gs⟩:=isT_ltr.mp g;cases e;exact absurd (I.tuple_inj hs gs) (by simp)
  | nd k x y =>
   obtain⟨q,_,_,e,gs,_⟩:=isT_nd.mp g;cases e;exact absurd (I.tuple_inj hs gs) (by simp)
 | .ltr w,b,v,h,g=>by
  obtain⟨p,rfl,hs⟩:=isT_ltr.mp h
  cases b with
  | low =>
   obtain⟨q,e,gs⟩:=isT_low.mp g;cases e;exact absurd (I.tuple_inj hs gs) (by simp)
  | ltr w' =>
   obtain⟨q,e,gs⟩:=isT_ltr.mp g;cases e;have:=I.tuple_inj hs gs;simp only[List.cons.injEq,V.str.injEq,and_true,true_and] at this;rw[this]
  | nd k x y =>
   obtain⟨q,_,_,e,gs,_⟩:=isT_nd.mp g;cases e;exact absurd (I.tuple_inj hs gs) (by simp)
 | .nd k x y,b,v,h,g=>by
  obtain⟨p,vx,vy,rfl,hs,hx,hy⟩:=isT_nd.mp h
  cases b with
  | low =>
   obtain⟨q,e,gs⟩:=isT_low.mp g;cases e;exact absurd (I.tuple_inj hs gs) (by simp)
  | ltr w' =>
   obtain⟨q,e,gs⟩:=isT_ltr.mp g;cases e;exact absurd (I.tuple_inj hs gs) (by simp)
  | nd k' x' y' =>
   obtain⟨q,_,_,e,gs,gx,gy⟩:=isT_nd.mp g;cases e;have:=I.tuple_inj hs gs;simp only[List.cons.injEq,V.str.injEq,and_true] at this;obtain⟨e1,rfl,rfl⟩:=this;rw[Kd.str_inj e1,isT_inj I hx gx,isT_inj I hy gy]
end
theorem Yr4:∀ {ts:List Tm},(∀ t∈ts,t.ok)→(PyData.list (ts.map Tm.data)).canLay0=true
 | [],_=>rfl
 | t :: ts,h=>by
  have:=Yr4 (ts:=ts) fun s hs=>h s (List.mem_cons_of_mem _ hs);show (t.data.canLay0&&(PyData.list (ts.map Tm.data)).canLay0)=true;rw[t.lay (h t List.mem_cons_self),this];rfl
end Ken
namespace L2
open PySem PySem.Spec PyProof.Rows
section
variable {X:Cx}
def rInT (K:W.Frag) (neg:Bool):R2:=fun x y H Q=>∃ (t:Ken.Tm) (p:Addr) (xs:List V) (ts:List Ken.Tm),Ken.IsT K H x t∧y=.ref p∧SqL K H p xs∧Paired (Ken.IsT K H) xs ts∧t.ok∧(∀ s∈ts,s.ok)∧t.deep≤140∧Q (.bl (if neg then !decide (t∈ts) else decide (t∈ts))) H
theorem Xf8 {pins:List (Addr×Obj)} {σ:St} {H:Hp} {s:Shared} {x:V} {v:Value} {t:Ken.Tm} {xs:List V} {ts:List Ken.Tm} {its:List Value} (hu:X.A.units+150 < cLine) (I:Inv X pins σ H s) (rx:RelV x v) (hT:Ken.IsT X.K H x t) (hP:Paired (Ken.IsT X.K H) xs ts) (r:Vals xs its) (ho:t.ok) (hs:∀ s∈ts,s.ok) (hd:t.deep≤140) :
  ∃ e:Value→Bool,(∀ w∈its,SeqAt.EqAt X.A.in1 s w v (e w))∧its.any e=decide (t∈ts)∧∀ (j:Nat) (w:Value),its[j]?=some w→e w=true→ts[j]?=some t:=by
 classical
 have l1:=Paired.length hP;have l2:=r.length
 have same:∀ (i j:Nat) (w:Value) (a b:Ken.Tm),its[i]?=some w→its[j]?=some w→ts[i]?=some a→ts[j]?=some b→a=b:=by
  intro i j w a b h1 h2 h3 h4
  have hi:i < xs.length:=by have:=(List.getElem?_eq_some_iff.mp h3).1;walk_at "o"
  have hj:j < xs.length:=by have:=(List.getElem?_eq_some_iff.mp h4).1;walk_at "o"
  obtain⟨a',ea,ha⟩:=Ken.paired_get hP (List.getElem?_eq_getElem hi);obtain⟨b',eb,hb⟩:=Ken.paired_get hP (List.getElem?_eq_getElem hj);obtain⟨u1,g1,r1⟩:=r.get (List.getElem?_eq_getElem hi);obtain⟨u2,g2,r2⟩:=r.get (List.getElem?_eq_getElem hj);rw[h3] at ea;cases ea;rw[h4] at eb;cases eb;rw[h1] at g1;cases g1;rw[h2] at g2;cases g2;obtain⟨p1,_,z1,_⟩:=Ken.isT_tup ha;obtain⟨p2,_,z2,_⟩:=Ken.isT_tup hb;rw[z1] at r1 ha;rw[z2] at r2 hb;have y1:w=.ref p1:=r1;have y2:w=.ref p2:=r2;rw[y1] at y2;cases y2;exact Ken.isT_inj I ha hb
 refine⟨fun w=>decide (∃ j:Nat,its[j]?=some w∧ts[j]?=some t),fun w hw=>?_,?_,fun j w hj he=>?_⟩
 ·obtain⟨j,hj,ej⟩:=List.mem_iff_getElem.mp hw
  have hjx:j < xs.length:=by walk_at "o"
  have hjt:j < ts.length:=by walk_at "o"
  obtain⟨a,ea,ha⟩:=Ken.paired_get hP (List.getElem?_eq_getElem hjx);obtain⟨u1,g1,r1⟩:=r.get (List.getElem?_eq_getElem hjx)
  have gj:its[j]?=some w:=by rw[List.getElem?_eq_getElem hj,ej]
  rw[gj] at g1;cases g1
  have key:decide (∃ j:Nat,its[j]?=some w∧ts[j]?=some t)=decide (a=t):=by
   by_cases h:a=t
   ·rw[decide_eq_true h,decide_eq_true ⟨j,gj,by rw[ea,h]⟩]
   ·rw[decide_eq_false h,decide_eq_false]
    rintro⟨i,h1,h2⟩;exact h (same j i w a t gj h1 ea h2)
  show SeqAt.EqAt X.A.in1 s w v (decide (∃ j:Nat,its[j]?=some w∧ts[j]?=some t));rw[key];obtain⟨p1,_,z1,_⟩:=Ken.isT_tup ha;obtain⟨p2,_,z2,_⟩:=Ken.isT_tup hT;rw[z1] at r1 ha;rw[z2] at rx hT;have y1:w=.ref p1:=r1;have y2:v=.ref p2:=rx;subst y1;subst y2
  by_cases h:p1=p2
  ·subst h
   rw[decide_eq_true (Ken.isT_inj I ha hT)];exact SeqAt.EqAt.same _
  ·obtain⟨as,q1⟩:=Dn.reads I ha (show RelV (.ref p1) (.ref p1) from rfl)
   obtain⟨bs,q2⟩:=Dn.reads I hT (show RelV (.ref p2) (.ref p2) from rfl);rw[← Ken.Tm.eqv];have hu1:X.A.in1.units=X.A.units+1:=rfl
   have dm:min a.data.depth t.data.depth≤140:=by rw[Ken.Tm.depth,Ken.Tm.depth];walk_at "o"
   exact SeqAt.EqAt.of_refs h (SeqAt.rcAt_reads q1 q2 (a.lay (hs a (List.mem_of_getElem? ea))) (t.lay ho) (by walk_at "o"))
 ·rw[Bool.eq_iff_iff,List.any_eq_true,decide_eq_true_iff]
  constructor
  ·rintro⟨w,hw,h⟩
   obtain⟨j,_,h2⟩:=of_decide_eq_true h;exact List.mem_of_getElem? h2
  ·intro h
   obtain⟨j,hj,ej⟩:=List.mem_iff_getElem.mp h
   have hji:j < its.length:=by walk_at "o"
   exact⟨its[j],List.getElem_mem hji,decide_eq_true ⟨j,List.getElem?_eq_getElem hji,by rw[List.getElem?_eq_getElem hj,ej]⟩⟩
 ·obtain⟨i,h1,h2⟩:=of_decide_eq_true he
  have hji:j < its.length:=(List.getElem?_eq_some_iff.mp hj).1
  have hjt:j < ts.length:=by walk_at "o"
  rw[List.getElem?_eq_getElem hjt,same j i w ts[j] t hj h1 (List.getElem?_eq_getElem hjt) h2]
theorem Xf2 (hu:X.A.units+150 < cLine):OpR X (compareOp .In) (rInT X.K false):=by
 intro pins s σ H x y v u Q I rx ry h;obtain⟨t,p,xs,ts,hT,rfl,hq,hP,ho,hs,hd,q⟩:=h;cases ry;obtain⟨its,r,pl,hz⟩:=I.list hq;obtain⟨e,he,ea,_⟩:=Xf8 hu I rx hT hP r ho hs hd;refine SeqAt.in_listAt e pl.isList (fun w hw=>he w (by simpa using hw)) ⟨.bl _,H,I,rfl,?_⟩;rw[show its.toArray.any e=its.any e by simp,ea];exact q
end
open Ken
end L2
namespace Ken
open PySem L2
noncomputable def Xw2 (L:List Nat):List V:=L.map fun n=>V.int (n:Nat)
noncomputable def Xc6 (L:List Nat):List PyData:=L.map fun n=>.int (n:Nat)
theorem Yu6 {K:W.Frag} {H:Hp}:∀ L:List Nat,DnAll K H (Xw2 L) (Xc6 L)
 | []=>by show DnAll K H [] [];rw[DnAll]
 | n :: L=>by
  show DnAll K H (.int (n:Nat) :: Xw2 L) (.int (n:Nat) :: Xc6 L);rw[DnAll];exact⟨_,_,rfl,by rw[Dn],Yu6 L⟩
theorem Xc5 (L:List Nat):(PyData.list (Xc6 L)).canLay0=true:=Yj7 fun d hd=>by
 obtain⟨n,_,rfl⟩:=List.mem_map.mp hd;rfl
theorem Zv2:∀ {ds:List PyData},(∀ d∈ds,PyData.eqv d d=true)→PyData.eqvAll ds ds=true
 | [],_=>rfl
 | d :: ds,h=>by
  show (PyData.eqv d d&&PyData.eqvAll ds ds)=true;rw[h d List.mem_cons_self,Zv2 fun e he=>h e (List.mem_cons_of_mem _ he)];rfl
theorem Yp8 {ds:List PyData} {n:Nat} (h:∀ d∈ds,d.depth≤n):(PyData.list ds).depth≤n+1:=by
 show PyData.depthAll ds+1≤n+1
 have:PyData.depthAll ds≤n:=by
  induction ds with
  | nil=>exact Nat.zero_le _
  | cons d ds ih =>
   show max d.depth (PyData.depthAll ds)≤n;exact Nat.max_le.mpr ⟨h d List.mem_cons_self,ih fun e he=>h e (List.mem_cons_of_mem _ he)⟩
 walk_at "o"
end Ken
namespace L2
open PySem PySem.Spec PyProof.Rows
section
variable {X:Cx}
def Zn4 (K:W.Frag):V→List V→Hp→VK→Prop:=fun x vs H Q=>∃ (y:V) (t:Ken.Tm) (p:Addr) (xs:List V) (ts:List Ken.Tm),x=.ref p∧vs=[y]∧Ken.IsT K H y t∧SqL K H p xs∧Paired (Ken.IsT K H) xs ts∧t.ok∧(∀ s∈ts,s.ok)∧t.deep≤140∧t∈ts ∧
 ∀ j:Nat,ts[j]?=some t→Q (.int (j:Nat)) H
theorem Ye4 {K:W.Frag} (hK:X.K=K) (hu:X.A.units+150 < cLine):MtR X "list.index" (Zn4 K):=by
 subst hK;intro pins s σ H x vs v us Q I rx rv h;obtain⟨y,t,p,xs,ts,rfl,rfl,hT,hq,hP,ho,hs,hd,hm,q⟩:=h;cases rx;obtain⟨u,rfl,ru⟩:=rv.one;obtain⟨its,r,pl,hz⟩:=I.list hq;obtain⟨e,he,ea,eb⟩:=Xf8 hu I ru hT hP r ho hs hd;obtain⟨⟨cls,dd,data,sl⟩,ho',hc,n,hd'⟩:=id pl.isList;simp only at hc hd';subst hc hd';rw[decide_eq_true hm,List.any_eq_true] at ea;have l1:=Paired.length hP;have l2:=r.length
 have hf:∃ j,∃ h:j < its.length,e its[j]=true∧∀ m (hm:m < its.length),m < j→e its[m]=false:=by
  clear he hz r pl l2 ho' eb;obtain⟨w,hw,ew⟩:=ea
  induction its with
  | nil=>cases hw
  | cons b its ih =>
   by_cases hb:e b=true
   ·exact⟨0,by simp,hb,fun m _ h=>absurd h (Nat.not_lt_zero _)⟩
   ·rcases List.mem_cons.mp hw with z | z
    ·subst z;exact absurd ew hb
    ·obtain⟨j,h1,h2,h3⟩:=ih z
     refine⟨j+1,by rw[List.length_cons];walk_at "o",by simpa using h2,fun m hm hlt=>?_⟩
     cases m with
     | zero=>simpa using hb
     | succ m=>simpa using h3 m (by rw[List.length_cons] at hm;walk_at "o") (by walk_at "o")
 obtain⟨j,hj,h2,h3⟩:=hf
 have tj:ts[j]?=some t:=by
  exact eb j its[j] (List.getElem?_eq_getElem hj) h2
 refine call_meets PySem.F.slot_list_index ⟨_,ho',rfl⟩ PySem.F.entry_list_index (PySem.F.args_list_index_2 _ _)
  (SeqAt.list_indexAt p its.toArray n dd sl u e j (by simpa using hj) (by rw[← l2] at hj;exact Int.lt_of_lt_of_le (show (j:Int) < (sizeLine:Int) by walk_at "o") (by decide)) (by simpa using h2) (fun m hm hlt=>by simpa using h3 m (by simpa using hm) hlt)) ⟨ho',fun z hz=>he z (by simpa using hz),?_⟩
 exact⟨.int (j:Nat),H,I.kept (h':=s.heap) (t':=s.toks+1) fun b o e=>e,⟨_,rfl⟩,q j tj⟩
end
end L2
namespace Ken
open PySem L2
end Ken
namespace L2
open PySem PySem.Spec PyProof.Rows
end L2
namespace Ken
open PySem L2
end Ken
namespace PySem.SeqAt
open PySem PySem.MeetsSeq L2 PyProof.Rows
end PySem.SeqAt
namespace L2
open PySem PySem.Spec PyProof.Rows
end L2
namespace Ken
open PySem L2
end Ken
namespace PySem.SeqAt
open PySem PySem.MeetsSeq L2 PyProof.Rows
end PySem.SeqAt
namespace Ken
open PySem L2 PySem.SeqAt
end Ken
namespace L2
open PySem PySem.Spec PyProof.Rows
end L2
namespace Ken
open PySem L2
theorem Yn2 {xs:List V} {i:Nat} (h:i≤xs.length):cutV xs none (some (i:Int))=xs.take i:=by
 show List.take ((if (i:Int) < 0 then ((i:Int)+(xs.length:Int)).toNat else min (i:Int).toNat xs.length) - 0) (List.drop 0 xs)=_;rw[if_neg (by walk_at "o"),List.drop_zero]
 congr 1
 walk_at "o"
theorem Zt8 {α β:Type} {F:α→β→Prop}:∀ {l:List α} {m:List β},Paired F l m→∀ n,Paired F (l.take n) (m.take n)
 | _,_,.nil,n=>by rw[List.take_nil,List.take_nil];exact .nil
 | _,_,.cons h t,0=>by rw[List.take_zero,List.take_zero];exact .nil
 | _,_,.cons h t,n+1=>by rw[List.take_succ_cons,List.take_succ_cons];exact .cons h (Zt8 t n)
theorem Xa3 (ts:List Tm):PyData.eqv (.list (ts.map Tm.data)) (.list (ts.map Tm.data))=true:=Zv2 fun d hd=>by
 obtain⟨x,_,rfl⟩:=List.mem_map.mp hd;rw[Tm.eqv];exact decide_eq_true rfl
theorem Yr5 {ts:List Tm} {n:Nat} (h:∀ t∈ts,t.deep≤n):(PyData.list (ts.map Tm.data)).depth≤n+1:=Yp8 fun d hd=>by
 obtain⟨x,hx,rfl⟩:=List.mem_map.mp hd;rw[Tm.depth];exact h x hx
end Ken
namespace L2
open PySem PySem.Spec PyProof.Rows
end L2
namespace Ken
open PySem L2
open PyProof.Rows
inductive U5 where
 | left | right | first | second | off
 deriving DecidableEq
noncomputable def U5.str:U5→Str
 | .left=>"left"
 | .right=>"right"
 | .first=>"first"
 | .second=>"second"
 | .off=>"off"
inductive U2 where
 | pair | use
 deriving DecidableEq
noncomputable def U2.str:U2→Str
 | .pair=>"pair"
 | .use=>"use"
inductive Te where
 | at (k:Nat)
 | one (u:U5) (a:Te) (ss:List Tm)
 | two (u:U2) (a b:Te)
 | fn (s:Tm) (a:Te)
 | cs (a b c:Te)
 deriving DecidableEq
noncomputable def Te.tag:Te→Str
 | .at _=>"at"
 | .one u _ _=>u.str
 | .two u _ _=>u.str
 | .fn _ _=>"fun"
 | .cs _ _ _=>"cases"
noncomputable def Te.kids:Te→List (Te×Nat)
 | .at _=>[]
 | .one _ a _=>[(a,0)]
 | .two _ a b=>[(a,0),(b,0)]
 | .fn _ a=>[(a,1)]
 | .cs a b c=>[(a,0),(b,1),(c,1)]
noncomputable def Te.plc:Te→List Nat
 | .at _=>[]
 | .one _ _ _=>[1]
 | .two _ _ _=>[1,2]
 | .fn _ _=>[2]
 | .cs _ _ _=>[1,2,3]
noncomputable def Te.inn (t:Te):List (Nat×Nat):=List.zip t.plc (t.kids.map (·.2))
noncomputable def Te.size:Te→Nat
 | .at _=>1
 | .one _ a _=>1+a.size
 | .two _ a b=>1+a.size+b.size
 | .fn _ a=>1+a.size
 | .cs a b c=>1+a.size+b.size+c.size
noncomputable def Te.deep:Te→Nat
 | .at _=>1
 | .one _ a _=>1+a.deep
 | .two _ a b=>1+max a.deep b.deep
 | .fn _ a=>1+a.deep
 | .cs a b c=>1+max a.deep (max b.deep c.deep)
section
variable {K:W.Frag} {H H':Hp} {v:V}
theorem dn_tup {ds:List PyData}:Dn K H v (.tuple ds)↔∃ a xs,v=.ref a∧SqT K H a xs∧DnAll K H xs ds:=by rw[Dn]
theorem Yg0:∀ {ds:List PyData} {xs:List V} {i:Nat} {d:PyData},DnAll K H xs ds→ds[i]?=some d→∃ u,xs[i]?=some u∧Dn K H u d
 | [],xs,i,d,h,e=>by cases i<;>cases e
 | d0 :: ds,xs,i,d,h,e=>by
  rw[DnAll] at h;obtain⟨x,r,rfl,h1,h2⟩:=h
  cases i with
  | zero=>cases e;exact⟨x,rfl,h1⟩
  | succ i=>exact Yg0 (i:=i) h2 e
where
 h_nil {K:W.Frag} {H:Hp}:DnAll K H [] []:=by rw[DnAll]
theorem dnAll_nil:DnAll K H [] []:=by rw[DnAll]
theorem dnAll_cons {x:V} {xs:List V} {d:PyData} {ds:List PyData} (h:Dn K H x d) (t:DnAll K H xs ds):DnAll K H (x :: xs) (d :: ds):=by rw[DnAll];exact⟨_,_,rfl,h,t⟩
theorem Yf9 {xs:List V} {d:PyData} {ds:List PyData} (h:DnAll K H xs (d :: ds)):∃ x r,xs=x :: r∧Dn K H x d∧DnAll K H r ds:=by rw[DnAll] at h;exact h
theorem dn_int {i:Int}:Dn K H v (.int i)↔v=.int i:=by rw[Dn]
end
noncomputable def Te.mp (F:Nat→Nat→Te):Te→Nat→Te
 | .at k,f=>F k f
 | .one u a ss,f=>.one u (a.mp F f) ss
 | .two u a b,f=>.two u (a.mp F f) (b.mp F f)
 | .fn s a,f=>.fn s (a.mp F (f+1))
 | .cs a b c,f=>.cs (a.mp F f) (b.mp F (f+1)) (c.mp F (f+1))
noncomputable def Zj0 (n k f:Nat):Te:=.at (if f≤k then k+n else k)
end Ken
namespace L2
open PySem PySem.Spec PyProof.Rows
namespace RevT
end RevT
open Ken
open AutoSeq1 (wpAny_loadPart')
namespace RevT
end RevT
end L2
namespace Ken
open PySem L2
noncomputable def innV (aT:Nat→Addr):List (Str×V):=[("at",.ref (aT 0)),("pair",.ref (aT 1)),("left",.ref (aT 2)),("right",.ref (aT 3)),("first",.ref (aT 4)),("second",.ref (aT 5)),("cases",.ref (aT 6)),("fun",.ref (aT 7)),("use",.ref (aT 8)),("off",.ref (aT 9))]
def innRow (K:W.Frag) (a:Addr) (r:List (Nat×Nat)):Prop:=∀ H,Dn K H (.ref a) (.tuple (r.map fun p=>.tuple [.int (p.1:Nat),.int (p.2:Nat)]))
noncomputable def Xk6:List (List (Nat×Nat)):=[[],[(1,0),(2,0)],[(1,0)],[(1,0)],[(1,0)],[(1,0)],[(1,0),(2,1),(3,1)],[(2,1)],[(1,0),(2,0)],[(1,0)]]
structure Inn (K:W.Frag) (aT:Nat→Addr):Prop where
 row:∀ i r,Xk6[i]?=some r→innRow K (aT i) r
theorem Yf7 {K:W.Frag} {aT:Nat→Addr} (h:Inn K aT) (t:Te):∃ a,(innV aT).lookup t.tag=some (.ref a)∧innRow K a t.inn:=by
 cases t with
 | «at» k=>exact⟨_,rfl,h.row 0 _ rfl⟩
 | one u a ss =>
  cases u
  ·exact⟨_,rfl,h.row 2 _ rfl⟩
  ·exact⟨_,rfl,h.row 3 _ rfl⟩
  ·exact⟨_,rfl,h.row 4 _ rfl⟩
  ·exact⟨_,rfl,h.row 5 _ rfl⟩
  ·exact⟨_,rfl,h.row 9 _ rfl⟩
 | two u a b =>
  cases u
  ·exact⟨_,rfl,h.row 1 _ rfl⟩
  ·exact⟨_,rfl,h.row 8 _ rfl⟩
 | fn s a=>exact⟨_,rfl,h.row 7 _ rfl⟩
 | cs a b c=>exact⟨_,rfl,h.row 6 _ rfl⟩
theorem innRow.sq {K:W.Frag} {a:Addr} {r:List (Nat×Nat)} (h:innRow K a r) (H:Hp):∃ xs,SqT K H a xs∧xs.length=r.length∧∀ (i p m:Nat),r[i]?=some (p,m)→∃ b,xs[i]?=some (V.ref b)∧SqT K H b [.int (p:Nat),.int (m:Nat)]:=by
 obtain⟨a',xs,e,hs,hd⟩:=dn_tup.mp (h H);cases e;refine⟨xs,hs,by rw[DnAll.length hd,List.length_map],fun i p m e=>?_⟩;obtain⟨u,e1,e2⟩:=Yg0 hd (by rw[List.getElem?_map,e];rfl);obtain⟨b,ys,rfl,hb,hy⟩:=dn_tup.mp e2;obtain⟨x,r,rfl,h1,h2⟩:=Yf9 hy;obtain⟨y,r,rfl,h3,h4⟩:=Yf9 h2;rw[dn_int] at h1 h3;rw[DnAll] at h4;subst h1;subst h3;subst h4;exact⟨b,e1,hb⟩
theorem opq {P:(St→Hp→Prop)→Prop} {I:St→Hp→Prop} (h:∀ N:St→Hp→Prop,(∀ σ' H',I σ' H'→N σ' H')→P N):∃ N:St→Hp→Prop,(∀ σ' H',N σ' H'→I σ' H')∧P N:=⟨I,fun _ _ z=>z,h I fun _ _ z=>z⟩
end Ken
namespace Hd
open PySem PySem.W PySem.Calls PySem.Spec PyProof.Rows L2
noncomputable def Xk5:Value→Option Int
 | .int i _=>some i
 | _=>none
noncomputable def Xq1:Value→Option Addr
 | .ref a=>some a
 | _=>none
noncomputable def Zs5 (K:Frag) (v:Value):Option (Value×Nat×List (Option Int)):=match v with
 | .ref a=>(match K.lookup a with
  | some ⟨c,_,.seq vs _,_⟩=>some (c,vs.toList.length,vs.toList.map Xk5)
  | _=>none)
 | _=>none
noncomputable def Zy8 (K:Frag) (v:Value):Option (Value×Nat×List (Option (Value×Nat×List (Option Int)))):=match v with
 | .ref a=>(match K.lookup a with
  | some ⟨c,_,.seq vs _,_⟩=>some (c,vs.toList.length,vs.toList.map (Zs5 K))
  | _=>none)
 | _=>none
noncomputable abbrev InD:=Value×Option Addr×Array (Option Value)×Bool×List (Int×Option Str×Option (Value×Nat×List (Option (Value×Nat×List (Option Int)))))
noncomputable def inSeen (K:Frag) (x:Str):Option InD:=match Zi0 K x with
 | some (a,⟨c,od,.dict es _,sl⟩)=>some (c,od,sl,a == sysModules,es.toList.map fun e=>(e.hash,Zt6 e.key,Zy8 K e.val))
 | _=>none
noncomputable def Zz7 (p:Nat×Nat):Option (Value×Nat×List (Option Int)):=some (.type "tuple",2,[some (p.1:Int),some (p.2:Int)])
noncomputable def Yh9 (r:List (Nat×Nat)):Option (Value×Nat×List (Option (Value×Nat×List (Option Int)))):=some (.type "tuple",r.length,r.map Zz7)
noncomputable def inWant (P:Params) (kvs:List (Str×List (Nat×Nat))):Option InD:=some (.type "dict",none,#[],false,kvs.map fun kv=>(PyData.keyHash P kv.1,some kv.1,Yh9 kv.2))
noncomputable def innK:List (Str×List (Nat×Nat)):=[("at",[]),("pair",[(1,0),(2,0)]),("left",[(1,0)]),("right",[(1,0)]),("first",[(1,0)]),("second",[(1,0)]),("cases",[(1,0),(2,1),(3,1)]),("fun",[(2,1)]),("use",[(1,0),(2,0)]),("off",[(1,0)])]
theorem Xi8 {K:Frag} {v:Value} {p:Nat×Nat} (e:Zs5 K v=Zz7 p):∃ b,v=.ref b∧∀ H,SqT K H b [.int (p.1:Nat),.int (p.2:Nat)]:=by
 unfold Zs5 at e
 split at e
 ·rename_i a
  split at e
  ·rename_i c od vs n sl h
   have e:=Option.some.inj e;simp only[Prod.mk.injEq] at e;obtain⟨rfl,e2,e3⟩:=e;refine⟨a,rfl,fun H=>.inr ⟨_,vs,n,h,rfl,rfl,?_,?_⟩⟩
   ·rw[Array.length_toList] at e2
    rw[e2];decide
   ·match hv:vs.toList,e2,e3 with
    | [x,y],_,e3 =>
     have f1:=(List.cons.inj e3).1;have f2:=(List.cons.inj (List.cons.inj e3).2).1;refine .cons ?_ (.cons ?_ .nil)
     ·unfold Xk5 at f1;split at f1
      ·cases f1;exact⟨_,rfl⟩
      ·cases f1
     ·unfold Xk5 at f2;split at f2
      ·cases f2;exact⟨_,rfl⟩
      ·cases f2
  ·cases e
 ·cases e
theorem Yl7 {K:Frag}:∀ {r:List (Nat×Nat)} {vs:List Value},vs.map (Zs5 K)=r.map Zz7→∃ xs:List V,Vals xs vs∧∀ H,DnAll K H xs (r.map fun p=>.tuple [.int (p.1:Nat),.int (p.2:Nat)])
 | [],[],_=>⟨[],.nil,fun H=>Ken.dnAll_nil⟩
 | [],_ :: _,e=>by cases e
 | _ :: _,[],e=>by cases e
 | p :: r,v :: vs,e=>by
  obtain⟨b,rfl,hb⟩:=Xi8 (List.cons.inj e).1;obtain⟨xs,h1,h2⟩:=Yl7 (List.cons.inj e).2;exact⟨.ref b :: xs,.cons rfl h1,fun H=>Ken.dnAll_cons (Ken.dn_tup.mpr ⟨b,_,rfl,hb H,Ken.dnAll_cons (Ken.dn_int.mpr rfl) (Ken.dnAll_cons (Ken.dn_int.mpr rfl) Ken.dnAll_nil)⟩) (h2 H)⟩
theorem Xp9 {K:Frag} {v:Value} {r:List (Nat×Nat)} (hr:r.length≤sizeLine) (e:Zy8 K v=Yh9 r):∃ b,v=.ref b∧Ken.innRow K b r:=by
 unfold Zy8 at e
 split at e
 ·rename_i a
  split at e
  ·rename_i c od vs n sl h
   have e:=Option.some.inj e;simp only[Prod.mk.injEq] at e;obtain⟨rfl,e2,e3⟩:=e;obtain⟨xs,h1,h2⟩:=Yl7 e3;refine⟨a,rfl,fun H=>Ken.dn_tup.mpr ⟨a,xs,rfl,.inr ⟨_,vs,n,h,rfl,rfl,?_,h1⟩,h2 H⟩⟩;rw[Array.length_toList] at e2;rw[e2];exact hr
  ·cases e
 ·cases e
theorem Yw0 {K:Frag} {w:World}:∀ {kvs:List (Str×List (Nat×Nat))} {es:List DictEntry},(∀ kv∈kvs,kv.2.length≤sizeLine)→es.map (fun e=>(e.hash,Zt6 e.key,Zy8 K e.val))=kvs.map (fun kv=>(PyData.keyHash w.params kv.1,some kv.1,Yh9 kv.2)) →
  ∃ bs:List Addr,bs.length=kvs.length∧Paired (fun (p:Str×V) (e:DictEntry)=>(∃ tk,e.key=.str p.1 tk)∧e.hash=PyData.keyHash w.params p.1∧RelV p.2 e.val) (List.zipWith (fun kv b=>(kv.1,V.ref b)) kvs bs) es∧∀ (i:Nat) (kv:Str×List (Nat×Nat)) (b:Addr),kvs[i]?=some kv→bs[i]?=some b→Ken.innRow K b kv.2
 | [],[],_,_=>⟨[],rfl,.nil,fun i kv b h=>by cases i<;>cases h⟩
 | [],_ :: _,_,h=>by cases h
 | _ :: _,[],_,h=>by cases h
 | kv :: kvs,e :: es,hs,h=>by
  have q1:=(List.cons.inj h).1;simp only[Prod.mk.injEq] at q1;obtain⟨q3,q4,q5⟩:=q1;obtain⟨b,e1,hb⟩:=Xp9 (hs _ (.head _)) q5;obtain⟨bs,h1,h2,h3⟩:=Yw0 (fun kv m=>hs kv (.tail _ m)) (List.cons.inj h).2;refine⟨b :: bs,congrArg Nat.succ h1,.cons ⟨Zx9 q4,q3,e1⟩ h2,fun i kv' b' z1 z2=>?_⟩
  cases i with
  | zero=>cases z1;cases z2;exact hb
  | succ i=>exact h3 i kv' b' z1 z2
theorem in_of {K:Frag} {w:World} {x:Str} (e:inSeen K x=inWant w.params innK):∃ (a:Addr) (aT:Nat→Addr),nsIn K mainGlobals x=some (some (.ref a))∧KDict K w a (Ken.innV aT)∧Ken.Inn K aT:=by
 unfold inSeen at e
 split at e
 ·rename_i a c od es n sl h
  obtain⟨h1,h2⟩:=Yl2 h;have e:=Option.some.inj e;simp only[Prod.mk.injEq] at e;obtain⟨rfl,rfl,rfl,e4,e6⟩:=e;obtain⟨bs,l1,l2,l3⟩:=Yw0 (by decide) e6;refine⟨a,fun i=>bs.getD i 0,h1,⟨⟨_,es,n,h2,⟨rfl,rfl,rfl⟩,rfl,?_⟩,?_,e4⟩,⟨fun i r hr=>?_⟩⟩
  ·match bs,l1,l2 with
   | [b0,b1,b2,b3,b4,b5,b6,b7,b8,b9],_,l2=>exact l2
  ·show (["at","pair","left","right","first","second","cases","fun","use","off"]:List Str).Nodup
   decide
  ·have hi:i < 10:=(List.getElem?_eq_some_iff.mp hr).1
   have hb:i < bs.length:=by rw[l1];exact hi
   have ek:∃ kv,innK[i]?=some kv∧kv.2=r:=by
    have:(innK.map (·.2))[i]?=some r:=hr;rw[List.getElem?_map] at this;obtain⟨kv,z1,z2⟩:=Option.map_eq_some_iff.mp this;exact⟨kv,z1,z2⟩
   obtain⟨kv,z1,rfl⟩:=ek;show Ken.innRow K (bs.getD i 0) kv.2;refine l3 i kv _ z1 ?_;simp[List.getD,hb]
 ·cases e
noncomputable def Xz1 (h:Heap):List Addr:=match nsIn (pick h [mainGlobals]) mainGlobals "INNER" with
 | some (some (.ref a))=>a :: (match h.get? a with
  | some ⟨_,_,.dict es _,_⟩=>es.toList.flatMap fun e=>(match e.val with
   | .ref b=>b :: (match h.get? b with
    | some ⟨_,_,.seq vs _,_⟩=>vs.toList.filterMap Xq1
    | _=>[])
   | _=>[])
  | _=>[])
 | _=>[]
end Hd
namespace L2
open PySem PySem.Spec PyProof.Rows
structure SameV (ts:List Addr) (H H':Hp):Prop where
 toT:SameT H H'
 off:∀ b o,b ∉ ts→H b=some o→H' b=some o
 has:∀ b o,H b=some o→∃ o',H' b=some o'
theorem SameV.trans {ts:List Addr} {H H1 H2:Hp} (a:SameV ts H H1) (b:SameV ts H1 H2):SameV ts H H2 :=
 ⟨a.toT.trans b.toT,fun c o n h=>b.off c o n (a.off c o n h),fun c o h=>let ⟨o',h'⟩:=a.has c o h;b.has c o' h'⟩
theorem Same.toV {ts:List Addr} {H H':Hp} (a:Same H H'):SameV ts H H':=⟨a.toT,fun c o _ h=>a c o h,fun c o h=>⟨o,a c o h⟩⟩
theorem TabOk.put {H:Hp} {T l:Addr} {ds:List (Pos×Str)} {o o':HO} (e:H l=some o) (n1:∀ ps,o≠.tbl ps) (n2:∀ b,o≠FZ b) (h:TabOk H T ds):TabOk (upd H l o') T ds:=by
 obtain⟨ps,h1,h2,h3⟩:=h;refine⟨ps,by rw[Zb0 (fun z=>n1 ps (by rw[z,e] at h1;exact Option.some.inj h1))];exact h1,h2,fun d hd cv e'=>?_⟩;obtain⟨c,b,vs,t,e1,e2,e3,e4⟩:=h3 d hd cv e';exact⟨c,b,vs,t,e1,by rw[Zb0 (fun z=>n2 b (by rw[z,e] at e2;exact Option.some.inj e2))];exact e2,e3,e4⟩
end L2
namespace Ken
open PySem L2
theorem Yi9:∀ {ss:List Tm},(∀ s∈ss,s.ok)→PyData.canLayAll0 (ss.map Tm.data)=true
 | [],_=>rfl
 | s :: ss,h=>by
  show (s.data.canLay0&&PyData.canLayAll0 (ss.map Tm.data))=true;rw[s.lay (h s List.mem_cons_self),Yi9 fun x hx=>h x (List.mem_cons_of_mem _ hx)];rfl
noncomputable def U5.ar:U5→Nat
 | .left=>0
 | .right=>0
 | _=>1
def okW (ws:List Str) (s:Tm):Prop:=s.inW ws∧s.parts≤60
def Te.fine (ws:List Str):Te→Prop
 | .at _=>True
 | .one u a ss=>a.fine ws∧ss.length=u.ar∧∀ s∈ss,okW ws s
 | .two _ a b=>a.fine ws∧b.fine ws
 | .fn s a=>okW ws s∧a.fine ws
 | .cs a b c=>a.fine ws∧b.fine ws∧c.fine ws
theorem Zh5 {n:Nat}:∀ {t:Te} {f:Nat},(t.mp (Zj0 n) f).deep=t.deep
 | .at k,f=>rfl
 | .one u a ss,f=>by show 1+(a.mp (Zj0 n) f).deep=1+a.deep;rw[Zh5]
 | .two u a b,f=>by show 1+max (a.mp (Zj0 n) f).deep (b.mp (Zj0 n) f).deep=_;rw[Zh5,Zh5];rfl
 | .fn s a,f=>by show 1+(a.mp (Zj0 n) (f+1)).deep=1+a.deep;rw[Zh5]
 | .cs a b c,f=>by show 1+max (a.mp (Zj0 n) f).deep (max (b.mp (Zj0 n) (f+1)).deep (c.mp (Zj0 n) (f+1)).deep)=_;rw[Zh5,Zh5,Zh5];rfl
theorem Zh3 {n:Nat}:∀ {t:Te} {f:Nat},(t.mp (Zj0 n) f).size=t.size
 | .at k,f=>rfl
 | .one u a ss,f=>by show 1+(a.mp (Zj0 n) f).size=1+a.size;rw[Zh3]
 | .two u a b,f=>by show 1+(a.mp (Zj0 n) f).size+(b.mp (Zj0 n) f).size=_;rw[Zh3,Zh3];rfl
 | .fn s a,f=>by show 1+(a.mp (Zj0 n) (f+1)).size=1+a.size;rw[Zh3]
 | .cs a b c,f=>by show 1+(a.mp (Zj0 n) f).size+(b.mp (Zj0 n) (f+1)).size+(c.mp (Zj0 n) (f+1)).size=_;rw[Zh3,Zh3,Zh3];rfl
theorem Zh4 {ws:List Str} {n:Nat}:∀ {t:Te} {f:Nat},t.fine ws→(t.mp (Zj0 n) f).fine ws
 | .at k,f,_=>trivial
 | .one u a ss,f,h=>⟨Zh4 h.1,h.2⟩
 | .two u a b,f,h=>⟨Zh4 h.1,Zh4 h.2⟩
 | .fn s a,f,h=>⟨h.1,Zh4 h.2⟩
 | .cs a b c,f,h=>⟨Zh4 h.1,Zh4 h.2.1,Zh4 h.2.2⟩
section
variable {K:W.Frag} {H:Hp} {v:V}
theorem Xn9 {p:Addr} {xs:List V}:SqT K (upd H p (.tup xs)) p xs:=.inl (.inl Za4)
theorem nw1 {p:Addr} {xs:List V} {J:Hp} (h:H p=none) (e:upd H p (.tup xs)=J):Same H J:=e▸Za5 h _
theorem nw2 {p:Addr} {xs:List V} {J:Hp} (e:upd H p (.tup xs)=J):SqT K J p xs:=e▸Xn9
end
theorem cut2 (a b:V) (rs:List V):cutV (a :: b :: rs) (some 2) none=rs:=by
 unfold cutV;rw[show (2:Int)=((2:Nat):Int) from rfl,HT.sIx_nat,HT.sIx_none,show min 2 (a :: b :: rs).length=2 by simp];show List.take _ rs=rs;exact List.take_of_length_le (by simp)
theorem Xe2 (a b:V) (rs:List V):¬ (HT.sIx (a :: b :: rs).length 0 (some 2)=0∧HT.sIx (a :: b :: rs).length (a :: b :: rs).length none=(a :: b :: rs).length):=fun h=>by
 have h1:=h.1;rw[show (2:Int)=((2:Nat):Int) from rfl,HT.sIx_nat,show min 2 (a :: b :: rs).length=2 by simp] at h1;cases h1
theorem Zm5:∀ t:Tm,t.deep≤t.parts
 | .low=>Nat.le_refl _
 | .ltr _=>Nat.le_refl _
 | .nd _ a b=>by
  show 1+max a.deep b.deep≤1+a.parts+b.parts;have:=Zm5 a;have:=Zm5 b;walk_at "o"
def Zy1 (K:W.Frag):Sp:=fun vs H Q _=>∃ (v:V) (t:Tm),vs=[v]∧IsT K H v t∧t.ok∧t.parts≤400∧∀ H',Same H H'→Q (.int (t.parts:Nat)) H'
noncomputable def dB (m:Nat):Nat:=2+3*(m - 1)
noncomputable def sB (m:Nat):Nat:=[2,2,14,18,30,34,54,58,66,74,78,82,122,126,130,134,142,146,190,194,198,202,206,210,262].getD m 262
theorem Zs6:∀ m:Nat,m≤24→2≤m→2+dB (m - 1)≤dB m∧2+dB (m / 2)≤dB m∧3+dB (m / 3)≤dB m∧4≤dB m∧2≤dB (m - 1)∧2≤dB (m / 3)∧2≤dB (m / 2):=by decide
theorem Zs2:∀ m:Nat,m≤24→2≤m→4+sB (m - 1)≤sB m∧2+2*sB (m / 2)≤sB m∧8+sB (m / 2)+2*sB (m / 3)≤sB m∧8≤sB m:=by decide
theorem Xd8:∀ m:Nat,m≤24→dB (m / 3)≤29:=by decide
theorem Xy2:∀ m:Nat,m≤24→2≤dB m∧2≤sB m:=by decide
noncomputable def Tm.tagS:Tm→Str
 | .low=>"low"
 | .ltr _=>"letter"
 | .nd k _ _=>k.str
theorem Ya7 {K:W.Frag} {H:Hp} {v:V} {g:Tm} (h:IsT K H v g):∃ p xs,v=.ref p∧SqT K H p xs∧atI xs 0=some (.str g.tagS):=by
 cases g with
 | low=>obtain⟨p,rfl,hs⟩:=isT_low.mp h;exact⟨p,_,rfl,hs,rfl⟩
 | ltr x=>obtain⟨p,rfl,hs⟩:=isT_ltr.mp h;exact⟨p,_,rfl,hs,rfl⟩
 | nd k a b=>obtain⟨p,x,y,rfl,hs,_⟩:=isT_nd.mp h;exact⟨p,_,rfl,hs,rfl⟩
theorem Zh9 {g:Tm} {k:Kd} (h:g.tagS=k.str):∃ a b,g=.nd k a b:=by
 cases g with
 | low=>exact absurd (show ("low":Str)=k.str from h) (by cases k<;>decide)
 | ltr x=>exact absurd (show ("letter":Str)=k.str from h) (by cases k<;>decide)
 | nd k' a b=>exact⟨a,b,by rw[Kd.str_inj (show k'.str=k.str from h)]⟩
end Ken
namespace L2
open PySem PySem.Spec PyProof.Rows
end L2
namespace Ken
open PySem L2 PyProof.Rows
end Ken
namespace L2
open PySem PySem.Spec PyProof.Rows
end L2
namespace Ken
open PySem L2
end Ken
namespace L2
open PySem PySem.Spec PyProof.Rows
end L2
namespace Ken
open PySem L2 PyProof.Rows
end Ken
namespace L2
open PySem
end L2
namespace Ken
open PySem L2
end Ken
namespace Ken
end Ken
namespace L2
open PySem PySem.Spec PyProof.Rows
end L2
namespace Ken
open PySem
end Ken
namespace L2
open PySem PySem.Spec PyProof.Rows Ken
end L2
namespace Ken
open PySem L2
theorem Zj9 {α β:Type} {F:α→β→Prop}:∀ {l l2:List α} {m m2:List β},Paired F l m→Paired F l2 m2→Paired F (l++l2) (m++m2)
 | _,_,_,_,.nil,h=>h
 | _,_,_,_,.cons a t,h=>.cons a (Zj9 t h)
end Ken
namespace L2
open PySem PySem.Spec PyProof.Rows
end L2
namespace Ken
open PySem L2
end Ken
namespace Hd
open PySem PySem.W PySem.Calls PySem.Spec PyProof.Rows L2
noncomputable def Xn4 (K:Frag) (v:Value):Option (Value×Nat×List (Option Str)):=match v with
 | .ref a=>(match K.lookup a with
  | some ⟨c,_,.seq vs _,_⟩=>some (c,vs.toList.length,vs.toList.map Zt6)
  | _=>none)
 | _=>none
noncomputable abbrev TrD:=Value×Option Addr×Array (Option Value)×Bool×List (Int×Option Str×Option (Value×Nat×List (Option Str)))
noncomputable def trSeen (K:Frag) (x:Str):Option TrD:=match Zi0 K x with
 | some (a,⟨c,od,.dict es _,sl⟩)=>some (c,od,sl,a == sysModules,es.toList.map fun e=>(e.hash,Zt6 e.key,Xn4 K e.val))
 | _=>none
noncomputable def Xn3 (r:List Str):Option (Value×Nat×List (Option Str)):=some (.type "tuple",r.length,r.map some)
noncomputable def trWant (P:Params) (kvs:List (Str×List Str)):Option TrD:=some (.type "dict",none,#[],false,kvs.map fun kv=>(PyData.keyHash P kv.1,some kv.1,Xn3 kv.2))
noncomputable def trK:List (Str×List Str):=[("left",["pair"]),("right",["pair"]),("use",["fun"]),("cases",["first","second"])]
noncomputable def Xy9 (h:Heap):List Addr:=match nsIn (pick h [mainGlobals]) mainGlobals "TURNING" with
 | some (some (.ref a))=>a :: (match h.get? a with
  | some ⟨_,_,.dict es _,_⟩=>es.toList.filterMap fun e=>Xq1 e.val
  | _=>[])
 | _=>[]
structure PlRow where
 cls:Nat
 met:Nat
 qual:Str
 flds:List Str
noncomputable def Yl5 (K:Frag) (C:Addr):Option (Value×FnD):=match findIn K (.ref C) "__init__" with
 | some (some (.ref f))=>(match K.lookup f with
  | some ⟨c,_,.func fd,_⟩=>some (c,fnD K fd)
  | _=>none)
 | _=>none
noncomputable def plOk (K:Frag) (C:Addr) (flds:List Str):Bool:=plainGet K C Str.empty&&(hasDictIn K C&&(plainOver K C&&(findIn K (.ref C) "__setattr__" == some (some (.builtin "object.__setattr__"))&&(makesIn K C&&(keepIn K (.ref C)&&flds.all fun x=>findIn K (.ref C) x == some none)))))
structure PlF (K:Frag) (C:Addr) (q:Str) (flds:List Str) (st:Stmt) (f:Addr) (fd:FuncData):Prop where
 fn:Fun K "__init__" q st f fd
 mkc:L2.Mk K C f
 c:Cls K C
 na:∀ x∈flds,NoAttr K C x
theorem Xq6 {K:Frag} {C:Addr} {q:Str} {flds:List Str} {st:Stmt} (h:plOk K C flds=true) (e:Yl5 K C=Ya8 q st):∃ f fd,PlF K C q flds st f fd:=by
 unfold plOk at h;simp only[Bool.and_eq_true] at h;obtain⟨h1,h2,h3,h4,h5,h6,h7⟩:=h;unfold Yl5 at e
 split at e
 ·rename_i f hf
  split at e
  ·rename_i c od fd sl lf
   obtain⟨a1,a2,a3,a4,a5,a6,a7,a8,a9,a10,a11,a12,a13,a14,a15⟩:=fd;have e:=Option.some.inj e;simp only[fnD,Prod.mk.injEq] at e;obtain⟨rfl,rfl,rfl,rfl,rfl,rfl,rfl,rfl,rfl,rfl,hc⟩:=e
   have kp:keepIn K (.ref f)=true:=by
    show (match K.lookup f with | some ⟨_,_,.func _,_⟩=>true | some ⟨_,_,.cls _,_⟩=>specialIn K (.ref f) "__call__" == some (some (.builtin "type.__call__")) | _=>false)=true;rw[lf]
   have fnk:isFn K (.ref f)=true:=by
    unfold isFn
    rw[show typeIn K (.ref f)=some (.type "function") by
     show (K.lookup f).map (·.cls)=_
     rw[lf];rfl]
    rfl
   exact⟨f,_,Ym9 lf hc kp,⟨h5,hf,fnk,h6⟩,⟨h1,h2,h3,eq_of_beq h4⟩,fun x hx=>eq_of_beq (List.all_eq_true.mp h7 x hx)⟩
  ·cases e
 ·cases e
noncomputable def plK (p:Program) (Pl:List PlRow) (K:Frag):List (Bool×Option (Value×FnD)):=Pl.map fun r=>(plOk K (at_ p K r.cls) r.flds,Yl5 K (at_ p K r.cls))
noncomputable def plV (p:Program) (Pl:List PlRow):List (Bool×Option (Value×FnD)):=Pl.map fun r=>(true,Ya8 r.qual (Zq7 (stAt p r.cls) r.met))
theorem pl_of {p:Program} {Pl:List PlRow} {K:Frag} (e:plK p Pl K=plV p Pl) {r:PlRow} (hr:r∈Pl):∃ f fd,PlF K (at_ p K r.cls) r.qual r.flds (Zq7 (stAt p r.cls) r.met) f fd:=by
 have:=Ye6 (f:=fun r:PlRow=>(plOk K (at_ p K r.cls) r.flds,Yl5 K (at_ p K r.cls))) (g:=fun r:PlRow=>(true,Ya8 r.qual (Zq7 (stAt p r.cls) r.met))) e hr;exact Xq6 (Prod.mk.inj this).1 (Prod.mk.inj this).2
noncomputable def Xz0 (p:Program) (Pl:List PlRow) (h:Heap):List Addr:=Pl.flatMap fun r=>match nsIn (pick h [mainGlobals]) mainGlobals (nm (stAt p r.cls)) with
  | some (some (.ref a))=>a :: (match h.get? a with
   | some ⟨_,_,.cls cd,_⟩=>cd.ns :: (match nsIn (pick h [cd.ns]) cd.ns "__init__" with
    | some (some (.ref f))=>f :: (match h.get? f with
     | some ⟨_,_,.func fd,_⟩=>(match fd.code with | .ref c=>[c] | _=>[])
     | _=>[])
    | _=>[])
   | _=>[])
  | _=>[]
noncomputable def Xm8 (p:Program) (A:Ask) (B:ClsAsk) (M:MoreAsk) (Pl:List PlRow) (ut:Bool) (h:Heap):List Addr:=Xz2 p A B M h++(Xz1 h++((match ut with | true=>Xy9 h | false=>[])++Xz0 p Pl h))
noncomputable abbrev Xe7:=Obs3×Bool×Bool×Option InD×Option TrD×Bool×List (Bool×Option (Value×FnD))
noncomputable def Xv7 (p:Program) (A:Ask) (B:ClsAsk) (M:MoreAsk) (TA:List Nat) (Pl:List PlRow) (ut:Bool) (h:Heap) (K:Frag):Xe7 :=
 (Wa2 p A B M K,codesOk p TA K,Xn7 p TA h K,inSeen K "INNER",(match ut with | true=>trSeen K "TURNING" | false=>none),decide (tabs p TA K).Nodup,plK p Pl K)
noncomputable def obs10 (p:Program) (A:Ask) (B:ClsAsk) (M:MoreAsk) (TA:List Nat) (Pl:List PlRow) (ut:Bool) (s:Shared):Xe7:=Xv7 p A B M TA Pl ut s.heap (pick s.heap (Xm8 p A B M Pl ut s.heap))
noncomputable def val10 (p:Program) (A:Ask) (M:MoreAsk) (Pl:List PlRow) (ut:Bool) (w:World):Xe7:=(val3 p A M w,true,true,inWant w.params innK,(match ut with | true=>trWant w.params trK | false=>none),true,plV p Pl)
noncomputable def hook10 (p:Program) (A:Ask) (B:ClsAsk) (M:MoreAsk) (TA:List Nat) (Pl:List PlRow) (ut:Bool):Hook :=
 ⟨Xe7,obs10 p A B M TA Pl ut,val10 p A M Pl ut,fun w h=>∃ K:Frag,K.In h∧(obsK p A K=valK p A w.params∧chk p B K=true∧iniK p M K=iniV p M∧chkM p M K=true)∧codesOk p TA K=true∧inSeen K "INNER"=inWant w.params innK∧(ut=true→trSeen K "TURNING"=trWant w.params trK)∧(tabs p TA K).Nodup∧plK p Pl K=plV p Pl∧∀ T∈tabs p TA K,h.get? T=some (tabObj #[]),
  fun w s e=>by
   obtain⟨e1,e2⟩:=Prod.mk.inj e;obtain⟨e2,e3⟩:=Prod.mk.inj e2;obtain⟨e3,e4⟩:=Prod.mk.inj e3;obtain⟨e4,e5⟩:=Prod.mk.inj e4;obtain⟨e5,e6⟩:=Prod.mk.inj e5;obtain⟨e6,e7⟩:=Prod.mk.inj e6;refine⟨_,Yt5 _ _,⟨(Prod.mk.inj e1).1,(Prod.mk.inj (Prod.mk.inj e1).2).1,(Prod.mk.inj (Prod.mk.inj (Prod.mk.inj e1).2).2).1,(Prod.mk.inj (Prod.mk.inj (Prod.mk.inj e1).2).2).2⟩,e2,e4,fun z=>by cases z;exact e5,of_decide_eq_true e6,e7,fun T hT=>?_⟩
   exact Yj4 (List.all_eq_true.mp e3 T hT),
  fun w h h' x k=>by
   obtain⟨K,i,e,c,a1,a2,a3,a4,t⟩:=x
   exact⟨K,fun a o z=>k _ _ (i a o z),e,c,a1,a2,a3,a4,fun T hT=>k _ _ (t T hT)⟩⟩
theorem walkH10 {l:OpenLaw} {n k:Nat} {q p:Program} {A:Ask} {B:ClsAsk} {M:MoreAsk} {TA:List Nat} {Pl:List PlRow} {ut:Bool} {loose:List Str} {XP:(Str→Option Value)→Heap→Prop} {d:DefRec} {CX:CXT} {sp:Frag→List Addr→Sp} {x:Str}
  (hn:l.most=some n) (hn2:n≤sizeLine) (hdf:d.params.defaults=[]) (hr:Room k callerA) (hTA:∀ i∈TA,i∈A.fns)
  (F:∀ (w:World) (mg:Str→Option Value) (fa:Addr) (h:Heap) (K:Frag) (bm:Addr),K.In h→h.Ns mainGlobals mg→mg d.name=some (.ref fa)→obsK p A K=valK p A w.params→chk p B K=true→iniK p M K=iniV p M→chkM p M K=true→codesOk p TA K=true→inSeen K "INNER"=inWant w.params innK→(ut=true→trSeen K "TURNING"=trWant w.params trK)→(tabs p TA K).Nodup→plK p Pl K=plV p Pl→BltK K mg bm→(∀ T∈tabs p TA K,bm≠T) →
   ∃ fd:FuncData,(∀ (s:Shared) (u:Value),BindsTo s fd ⟨[u],[]⟩ [(x,u)])∧∀ base:Heap,K.In base→base.Ns mainGlobals mg→FnOk l.prog w K mg base CX k fa fd [x] (sp K (tabs p TA K)))
  (hsp:∀ (K:Frag) (ts:List Addr) (H:Hp) (a:Addr) (ns:List Int),ns.length≤n→ts.length=TA.length→(∀ T∈ts,H T=some (.tbl #[]))→SqL K H a (ns.map V.int)→sp K ts [.ref a] H (fun v _=>v=.bl true) fun _ _ _=>False)
  (hCX:∀ (H:Hp) (s:Shared) (e:Value) (s':Shared),CX [] H s (fun _ _ _=>False) e s'→False) :
  WalkO q loose XP (hook10 p A B M TA Pl ut).says l.row.toRowW d [] (fun f vs=>PySem.call f vs) :=
 Att.attach_call hn hdf fun w s₀ s₁ mg mb fa o pm cd doc a vs ns G Y ho hd hcd hmg hobj hints hlen hg=>by
  obtain⟨K,KX,⟨E,D,E2,D2⟩,hc,hI,hU,hN,hP,TX⟩:=Y;obtain⟨bm,ob,b1,b2,b3,b4,b5,b6⟩:=G.T.bmain
  have hblt:K.lookup bm=some ob:=by
   have hb:=hc;unfold codesOk at hb;rw[Bool.and_eq_true] at hb;have hb:=hb.2;unfold Xy5 at hb
   split at hb
   ·rename_i b e
    have e1:=(mg_of KX G.T.g e).symm.trans b1;cases e1;obtain⟨o',e2⟩:=Option.isSome_iff_exists.mp hb;have e3:=KX _ _ e2;rw[b3] at e3;cases e3;exact e2
   ·cases hb
  have nT:∀ T∈tabs p TA K,bm≠T:=fun T hT z=>by
   have:=TX T hT;rw[← z,b3] at this;cases this;cases b4
  have nM:bm≠mainGlobals:=fun z=>by
   obtain⟨o',es,ep,e,d',_⟩:=G.T.g;rw[← z,b3] at e;cases e;rw[b6] at d';cases d'
  have fact:∀ T∈tabs p TA K,K.lookup T=none∧isCodeTable s₁.heap T:=fun T hT=>by
   obtain⟨i,hi,rfl⟩:=List.mem_map.mp hT;obtain⟨_,_,_,_,_,_,h1,h2⟩:=Yw7 (e_fn E (hTA i hi)) (t_code hc hi);exact⟨h1,h2 _ KX⟩
  obtain⟨fd,hb,hF⟩:=F w mg fa _ K bm KX G.T.g hmg E D E2 D2 hc hI hU hN hP ⟨b1,⟨ob,hblt,b4,b5,b6⟩,b2,nM⟩ nT;exact Yv2 KX G.T.g G.T.b G.T.builtins G.T.nolimit hg hobj hints (Nat.le_trans hlen hn2) hr TX (fun T hT=>(fact T hT).1) (fun T hT=>(fact T hT).2) hF hb
   (fun H hO hS=>hsp K _ H a ns hlen (by simp[tabs]) hO hS) fun H e s'=>hCX H s₁ e s'
theorem obs10_self:@obs10=@obs10:=rfl
theorem val10_self:@val10=@val10:=rfl
end Hd
name_quick hdObs10 for Hd.obs10 by Hd.obs10_self
name_quick hdVal10 for Hd.val10 by Hd.val10_self
namespace Ken
open PySem L2
def HasK:List Tm→Te→Tm→Prop
 | Γ,.at k,g=>Γ[k]?=some g
 | Γ,.one .left a _,g=>∃ h,HasK Γ a (.nd .both g h)
 | Γ,.one .right a _,g=>∃ h,HasK Γ a (.nd .both h g)
 | Γ,.one .first a ss,g=>∃ h s,ss=[s]∧HasK Γ a h∧g=.nd .one h s
 | Γ,.one .second a ss,g=>∃ h s,ss=[s]∧HasK Γ a h∧g=.nd .one s h
 | Γ,.one .off a ss,g=>ss=[g]∧HasK Γ a .low
 | Γ,.two .pair a b,g=>∃ h k,HasK Γ a h∧HasK Γ b k∧g=.nd .both h k
 | Γ,.two .use a b,g=>∃ h,HasK Γ a (.nd .thn h g)∧HasK Γ b h
 | Γ,.fn s a,g=>∃ h,HasK (s :: Γ) a h∧g=.nd .thn s h
 | Γ,.cs a b c,g=>∃ h k,HasK Γ a (.nd .one h k)∧HasK (h :: Γ) b g∧HasK (k :: Γ) c g
theorem Ze2 {Γ2 Δ:List Tm}:∀ {t:Te} {Γ1:List Tm} {g:Tm},HasK (Γ1++Γ2) t g→HasK (Γ1++(Δ++Γ2)) (t.mp (Zj0 Δ.length) Γ1.length) g
 | .at k,Γ1,g,h=>by
  have h:(Γ1++Γ2)[k]?=some g:=h;show (Γ1++(Δ++Γ2))[if Γ1.length≤k then k+Δ.length else k]?=some g
  by_cases c:Γ1.length≤k
  ·rw[if_pos c,List.getElem?_append_right (by walk_at "o"),List.getElem?_append_right (by walk_at "o")]
   rw[List.getElem?_append_right c] at h;rw[show k+Δ.length - Γ1.length - Δ.length=k - Γ1.length by walk_at "o"];exact h
  ·rw[if_neg c,List.getElem?_append_left (by walk_at "o")]
   rw[List.getElem?_append_left (by walk_at "o")] at h;exact h
 | .one .left a ss,Γ1,g,⟨h,a1⟩=>⟨h,Ze2 a1⟩
 | .one .right a ss,Γ1,g,⟨h,a1⟩=>⟨h,Ze2 a1⟩
 | .one .first a ss,Γ1,g,⟨h,s,e1,a1,e2⟩=>⟨h,s,e1,Ze2 a1,e2⟩
 | .one .second a ss,Γ1,g,⟨h,s,e1,a1,e2⟩=>⟨h,s,e1,Ze2 a1,e2⟩
 | .one .off a ss,Γ1,g,⟨e1,a1⟩=>⟨e1,Ze2 a1⟩
 | .two .pair a b,Γ1,g,⟨h,k,a1,a2,e⟩=>⟨h,k,Ze2 a1,Ze2 a2,e⟩
 | .two .use a b,Γ1,g,⟨h,a1,a2⟩=>⟨h,Ze2 a1,Ze2 a2⟩
 | .fn s a,Γ1,g,⟨h,a1,e⟩=>⟨h,Ze2 (Γ1:=s :: Γ1) a1,e⟩
 | .cs a b c,Γ1,g,⟨h,k,a1,a2,a3⟩=>⟨h,k,Ze2 a1,Ze2 (Γ1:=h :: Γ1) a2,Ze2 (Γ1:=k :: Γ1) a3⟩
theorem Yp1 {Γ Δ:List Tm} {t:Te} {g:Tm} (h:HasK Γ t g):HasK (Δ++Γ) (t.mp (Zj0 Δ.length) 0) g:=Ze2 (Γ1:=[]) h
theorem Yp0 {Γ:List Tm} {s:Tm} {t:Te} {g:Tm} (h:HasK Γ t g):HasK (s :: Γ) (t.mp (Zj0 1) 0) g:=Yp1 (Δ:=[s]) h
inductive Rw where
 | sim (t:Tm)
 | par (k:Kd) (i j:Nat)
 deriving DecidableEq
noncomputable def denR (S:List Tm):Rw→Option Tm
 | .sim t=>some t
 | .par k i j=>match S[i]?,S[j]? with
  | some a,some b=>some (.nd k a b)
  | _,_=>none
structure Bk (R:List Rw) (S:List Tm):Prop where
 len:R.length=S.length
 den:∀ (i:Nat) (r:Rw) (t:Tm),R[i]?=some r→S[i]?=some t→(∃ u,r=.sim u∧t=u∧∀ k a b,u≠.nd k a b)∨∃ k a b x y,r=.par k a b∧a < i∧b < i∧S[a]?=some x∧S[b]?=some y∧t=.nd k x y
 nd:R.Nodup
theorem Ya1 {α:Type}:∀ {l:List α} {i j:Nat} {x:α},l.Nodup→l[i]?=some x→l[j]?=some x→i=j
 | [],i,j,x,_,h,_=>by cases i<;>cases h
 | a :: l,0,0,x,_,_,_=>rfl
 | a :: l,0,j+1,x,n,h1,h2=>by cases h1;exact absurd (List.mem_of_getElem? (show l[j]?=some a from h2)) (List.nodup_cons.mp n).1
 | a :: l,i+1,0,x,n,h1,h2=>by cases h2;exact absurd (List.mem_of_getElem? (show l[i]?=some a from h1)) (List.nodup_cons.mp n).1
 | a :: l,i+1,j+1,x,n,h1,h2=>congrArg (·+1) (Ya1 (List.nodup_cons.mp n).2 h1 h2)
theorem Bk.inj {R:List Rw} {S:List Tm} (B:Bk R S):∀ (t:Tm) (i j:Nat),S[i]?=some t→S[j]?=some t→i=j:=by
 have row:∀ {i:Nat} {t:Tm},S[i]?=some t→∃ r,R[i]?=some r:=fun {i t} h=>⟨_,List.getElem?_eq_getElem (by rw[B.len];exact (List.getElem?_eq_some_iff.mp h).1)⟩;intro t
 induction t with
 | nd k a b iha ihb =>
  intro i j h1 h2;obtain⟨r1,e1⟩:=row h1;obtain⟨r2,e2⟩:=row h2;rcases B.den i r1 _ e1 h1 with ⟨u,rfl,z,n⟩ | ⟨k1,a1,b1,x1,y1,rfl,_,_,p1,p2,z1⟩
  ·exact absurd z.symm (n k a b)
  rcases B.den j r2 _ e2 h2 with ⟨u,rfl,z,n⟩ | ⟨k2,a2,b2,x2,y2,rfl,_,_,q1,q2,z2⟩
  ·exact absurd z.symm (n k a b)
  cases z1;cases z2;cases iha _ _ p1 q1;cases ihb _ _ p2 q2;exact Ya1 B.nd e1 e2
 | _ =>
  intro i j h1 h2;obtain⟨r1,e1⟩:=row h1;obtain⟨r2,e2⟩:=row h2;rcases B.den i r1 _ e1 h1 with ⟨u,rfl,z,n⟩ | ⟨k1,a1,b1,x1,y1,rfl,_,_,p1,p2,z1⟩
  ·rcases B.den j r2 _ e2 h2 with ⟨u2,rfl,z',n2⟩ | ⟨k2,a2,b2,x2,y2,rfl,_,_,q1,q2,z2⟩
   ·subst z;subst z'
    exact Ya1 B.nd e1 e2
   ·cases z2
  ·cases z1
def Lt:Tm→Hp→V→Prop
 | .low,H,v=>∃ a,v=.ref a∧H a=some (.tup [.str "low"])
 | .ltr x,H,v=>∃ a,v=.ref a∧H a=some (.tup [.str "letter",.str x])
 | .nd k s t,H,v=>∃ a x y,v=.ref a∧H a=some (.tup [.str k.str,x,y])∧Lt s H x∧Lt t H y
theorem Lt.isT {K:W.Frag} {H:Hp}:∀ {t:Tm} {v:V},Lt t H v→IsT K H v t
 | .low,_,⟨a,e,h⟩=>isT_low.mpr ⟨a,e,.inl (.inl h)⟩
 | .ltr _,_,⟨a,e,h⟩=>isT_ltr.mpr ⟨a,e,.inl (.inl h)⟩
 | .nd _ _ _,_,⟨a,x,y,e,h,h1,h2⟩=>isT_nd.mpr ⟨a,x,y,e,.inl (.inl h),h1.isT,h2.isT⟩
theorem Lt.keepT {H H':Hp} (k:∀ a xs,H a=some (.tup xs)→H' a=some (.tup xs)):∀ {t:Tm} {v:V},Lt t H v→Lt t H' v
 | .low,_,⟨a,e,h⟩=>⟨a,e,k _ _ h⟩
 | .ltr _,_,⟨a,e,h⟩=>⟨a,e,k _ _ h⟩
 | .nd _ _ _,_,⟨a,x,y,e,h,h1,h2⟩=>⟨a,x,y,e,k _ _ h,h1.keepT k,h2.keepT k⟩
theorem Lt.keep {H H':Hp} {t:Tm} {v:V} (h:Lt t H v) (e:Same H H'):Lt t H' v:=h.keepT fun a xs z=>e _ _ z
def LE (K:W.Frag):Te→Hp→V→Prop
 | .at k,H,v=>∃ p,v=.ref p∧SqT K H p [.str "at",.int (k:Nat)]
 | .one u a ss,H,v=>∃ p x rs,v=.ref p∧SqT K H p (.str u.str :: x :: rs)∧LE K a H x∧Paired (fun r s=>Lt s H r) rs ss
 | .two u a b,H,v=>∃ p x y,v=.ref p∧SqT K H p [.str u.str,x,y]∧LE K a H x∧LE K b H y
 | .fn s a,H,v=>∃ p x y,v=.ref p∧SqT K H p [.str "fun",x,y]∧Lt s H x∧LE K a H y
 | .cs a b c,H,v=>∃ p x y z,v=.ref p∧SqT K H p [.str "cases",x,y,z]∧LE K a H x∧LE K b H y∧LE K c H z
theorem LE.keepT {K:W.Frag} {H H':Hp} (k:∀ a xs,H a=some (.tup xs)→H' a=some (.tup xs)) (kt:KeepT K H H'):∀ {t:Te} {v:V},LE K t H v→LE K t H' v
 | .at _,_,⟨p,e,h⟩=>⟨p,e,kt _ _ h⟩
 | .one _ _ _,_,⟨p,x,rs,e,h,h1,h2⟩=>⟨p,x,rs,e,kt _ _ h,h1.keepT k kt,Paired.mapP h2 fun _ _ z=>z.keepT k⟩
 | .two _ _ _,_,⟨p,x,y,e,h,h1,h2⟩=>⟨p,x,y,e,kt _ _ h,h1.keepT k kt,h2.keepT k kt⟩
 | .fn _ _,_,⟨p,x,y,e,h,h1,h2⟩=>⟨p,x,y,e,kt _ _ h,h1.keepT k,h2.keepT k kt⟩
 | .cs _ _ _,_,⟨p,x,y,z,e,h,h1,h2,h3⟩=>⟨p,x,y,z,e,kt _ _ h,h1.keepT k kt,h2.keepT k kt,h3.keepT k kt⟩
def MadeK (K:W.Frag) (H:Hp) (Γ:List Tm) (ws:List Str) (d s b:Nat) (r:V):Prop:=∃ p x y t g,r=.ref p∧SqT K H p [x,y]∧LE K t H x∧Lt g H y∧HasK Γ t g∧t.fine ws∧t.deep≤d∧t.size≤s∧g.inW ws∧g.parts≤b
noncomputable def Rw.key:Rw→List Key
 | .sim .low=>[Sum.inr "low"]
 | .sim (.ltr x)=>[Sum.inr "letter",Sum.inr x]
 | .sim (.nd k _ _)=>[Sum.inr k.str]
 | .par k i j=>[Sum.inr k.str,Sum.inl (i:Nat),Sum.inl (j:Nat)]
def RowV (H:Hp) (u:V) (r:Rw):Prop:=∃ a,u=.ref a∧H a=some (.tup (r.key.map kV))
def Rw.ok (n:Nat):Rw→Prop
 | .sim t=>∀ k a b,t≠.nd k a b
 | .par _ i j=>i < n∧j < n
theorem Rw.key_inj {r q:Rw} {n m:Nat} (hr:r.ok n) (hq:q.ok m) (h:r.key=q.key):r=q:=by
 cases r with
 | sim t =>
  cases t with
  | nd k a b=>exact absurd rfl (hr k a b)
  | low =>
   cases q with
   | sim u =>
    cases u with
    | nd k a b=>exact absurd rfl (hq k a b)
    | low=>rfl
    | ltr x=>exact absurd (congrArg List.length h) (by decide:¬ (1:Nat)=2)
   | par k i j=>exact absurd (congrArg List.length h) (by decide:¬ (1:Nat)=3)
  | ltr x =>
   cases q with
   | sim u =>
    cases u with
    | nd k a b=>exact absurd rfl (hq k a b)
    | low=>exact absurd (congrArg List.length h) (by decide:¬ (2:Nat)=1)
    | ltr y =>
     have:=(List.cons.inj (List.cons.inj h).2).1;cases this;rfl
   | par k i j=>exact absurd (congrArg List.length h) (by decide:¬ (2:Nat)=3)
 | par k i j =>
  cases q with
  | sim u =>
   cases u with
   | nd k a b=>exact absurd rfl (hq k a b)
   | low=>exact absurd (congrArg List.length h) (by decide:¬ (3:Nat)=1)
   | ltr y=>exact absurd (congrArg List.length h) (by decide:¬ (3:Nat)=2)
  | par k' i' j' =>
   have h1:k.str=k'.str:=Sum.inr.inj (List.cons.inj h).1;have h2:=(List.cons.inj h).2;have h3:((i:Nat):Int)=((i':Nat):Int):=Sum.inl.inj (List.cons.inj h2).1;have h4:((j:Nat):Int)=((j':Nat):Int):=Sum.inl.inj (List.cons.inj (List.cons.inj h2).2).1;rw[Kd.str_inj h1,Int.ofNat_inj.mp h3,Int.ofNat_inj.mp h4]
structure BkA where
 C:Addr
 b:Addr
 dx:Addr
 lr:Addr
 ls:Addr
 dn:Addr
structure BkH (A:BkA) (R:List Rw) (S:List Tm) (H:Hp):Prop where
 ins:H A.b=some (.ins A.C A.dx [("rows",.ref A.lr),("statements",.ref A.ls),("numbers",.ref A.dn)])
 rows:∃ us,H A.lr=some (.lst us)∧Paired (RowV H) us R
 sts:∃ vs,H A.ls=some (.lst vs)∧Paired (fun v t=>Lt t H v) vs S
 num:∃ kvs,H A.dn=some (.dT kvs)∧kvs.length=R.length∧(∀ (i:Nat) (r:Rw),R[i]?=some r→valV kvs r.key=some (.int (i:Nat)))∧∀ r n,r.ok n→r ∉ R→valV kvs r.key=none
 bk:Bk R S
 okr:∀ r∈R,∃ n,r.ok n
 ne:A.lr≠A.ls
def SameK (A:BkA) (H H':Hp):Prop:=∀ a o,a≠A.lr→a≠A.ls→a≠A.dn→H a=some o→H' a=some o
theorem Same.toK {A:BkA} {H H':Hp} (e:Same H H'):SameK A H H':=fun a o _ _ _ h=>e a o h
theorem RowV.keep {H H':Hp} {u:V} {r:Rw} (k:∀ a xs,H a=some (.tup xs)→H' a=some (.tup xs)) (h:RowV H u r):RowV H' u r:=by
 obtain⟨a,e,h⟩:=h;exact⟨a,e,k _ _ h⟩
theorem BkH.keep {A:BkA} {R:List Rw} {S:List Tm} {H H':Hp} (B:BkH A R S H) (e:Same H H'):BkH A R S H':=by
 obtain⟨us,h1,h2⟩:=B.rows;obtain⟨vs,h3,h4⟩:=B.sts;obtain⟨kvs,h5,h6⟩:=B.num;exact⟨e _ _ B.ins,⟨us,e _ _ h1,Paired.mapP h2 fun _ _ z=>z.keep fun a xs y=>e _ _ y⟩,⟨vs,e _ _ h3,Paired.mapP h4 fun _ _ z=>z.keep e⟩,⟨kvs,e _ _ h5,h6⟩,B.bk,B.okr,B.ne⟩
theorem Bk.more {R:List Rw} {S:List Tm} {r:Rw} {t:Tm} (B:Bk R S) (ho:r.ok R.length) (hd:denR S r=some t) (hn:r ∉ R):Bk (R++[r]) (S++[t]):=by
 refine⟨by rw[List.length_append,List.length_append,B.len];rfl,fun i q u h1 h2=>?_,List.nodup_append.mpr ⟨B.nd,List.nodup_cons.mpr ⟨nofun,List.nodup_nil⟩,fun a ha b hb=>?_⟩⟩
 ·have hi:=(List.getElem?_eq_some_iff.mp h1).1
  rw[List.length_append,List.length_singleton] at hi
  by_cases c:i < R.length
  ·rw[List.getElem?_append_left c] at h1
   rw[List.getElem?_append_left (by rw[← B.len];exact c)] at h2;rcases B.den i q u h1 h2 with z | ⟨k,a,b,x,y,e1,e2,e3,e4,e5,e6⟩
   ·exact .inl z
   ·refine .inr ⟨k,a,b,x,y,e1,e2,e3,?_,?_,e6⟩
    ·rw[List.getElem?_append_left (List.getElem?_eq_some_iff.mp e4).1];exact e4
    ·rw[List.getElem?_append_left (List.getElem?_eq_some_iff.mp e5).1];exact e5
  ·have ei:i=R.length:=by lia
   subst ei;rw[List.getElem?_append_right (Nat.le_refl _),Nat.sub_self] at h1;cases h1;rw[B.len,List.getElem?_append_right (Nat.le_refl _),Nat.sub_self] at h2;cases h2
   cases r with
   | sim v=>cases hd;exact .inl ⟨_,rfl,rfl,ho⟩
   | par k a b =>
    have ha:a < S.length:=by rw[← B.len];exact ho.1
    have hb:b < S.length:=by rw[← B.len];exact ho.2
    have hd:(match S[a]?,S[b]? with
     | some x,some y=>some (Tm.nd k x y)
     | _,_=>none)=some t:=hd
    rw[List.getElem?_eq_getElem ha,List.getElem?_eq_getElem hb] at hd;cases hd;refine .inr ⟨k,a,b,_,_,rfl,ho.1,ho.2,?_,?_,rfl⟩
    ·rw[List.getElem?_append_left ha];exact List.getElem?_eq_getElem ha
    ·rw[List.getElem?_append_left hb];exact List.getElem?_eq_getElem hb
 ·rcases List.mem_singleton.mp hb with rfl
  exact fun z=>hn (z▸ha)
def Zg2 (A:BkA):Sp:=fun vs H Q _=>∃ (u:V) (r:Rw) (R:List Rw) (S:List Tm) (t:Tm),vs=[.ref A.b,u]∧BkH A R S H∧RowV H u r∧r.ok R.length∧denR S r=some t∧R.length≤100000 ∧
 ∀ (k:Nat) (H':Hp) (R':List Rw) (S':List Tm),SameK A H H'→BkH A R' S' H'→R <+: R'→S <+: S'→R'.length≤R.length+1→S'[k]?=some t→Q (.int (k:Nat)) H'
theorem BkH.grow {A:BkA} {R:List Rw} {S:List Tm} {H H':Hp} (B:BkH A R S H) {us vs:List V} {kvs:List (List Key×V)} {r:Rw} {t:Tm} {v:V} {ra:Addr} (h2:Paired (RowV H) us R) (h4:Paired (fun v t=>Lt t H v) vs S) (h6:kvs.length=R.length) (h7:∀ (i:Nat) (r:Rw),R[i]?=some r→valV kvs r.key=some (.int (i:Nat))) (h8:∀ r n,r.ok n→r ∉ R→valV kvs r.key=none)
  (kt:∀ a xs,H a=some (.tup xs)→H' a=some (.tup xs)) (gi:H' A.b=some (.ins A.C A.dx [("rows",.ref A.lr),("statements",.ref A.ls),("numbers",.ref A.dn)])) (g1:H' A.lr=some (.lst (us++[.ref ra]))) (gr:H' ra=some (.tup (r.key.map kV))) (g3:H' A.ls=some (.lst (vs++[v]))) (gv:Lt t H' v) (g5:H' A.dn=some (.dT (putK kvs r.key (.int (R.length:Nat)))))
  (ho:r.ok R.length) (hd:denR S r=some t) (hn:r ∉ R):BkH A (R++[r]) (S++[t]) H':=by
 refine⟨gi,⟨_,g1,Zj9 (Paired.mapP h2 fun _ _ z=>z.keep kt) (.cons ⟨ra,rfl,gr⟩ .nil)⟩,⟨_,g3,Zj9 (Paired.mapP h4 fun _ _ z=>z.keepT kt) (.cons gv .nil)⟩,⟨_,g5,?_,fun i q hq=>?_,fun q n hq hm=>?_⟩,B.bk.more ho hd hn,fun q hq=>?_,B.ne⟩
 ·rw[Xb6 _ (h8 r _ ho hn),List.length_append,List.length_append,h6];rfl
 ·rw[Yk2]
  have hi:=(List.getElem?_eq_some_iff.mp hq).1;rw[List.length_append,List.length_singleton] at hi
  by_cases c:i < R.length
  ·rw[List.getElem?_append_left c] at hq
   obtain⟨n,hn'⟩:=B.okr q (List.mem_of_getElem? hq);rw[if_neg (fun z=>hn (Rw.key_inj hn' ho z▸List.mem_of_getElem? hq))];exact h7 i q hq
  ·have ei:i=R.length:=by lia
   subst ei;rw[List.getElem?_append_right (Nat.le_refl _),Nat.sub_self] at hq;cases hq;rw[if_pos rfl]
 ·rw[Yk2,if_neg (fun z=>hm (Rw.key_inj hq ho z▸List.mem_append_right _ (.head _)))]
  exact h8 q n hq fun z=>hm (List.mem_append_left _ z)
 ·rcases List.mem_append.mp hq with z | z
  ·exact B.okr q z
  ·rcases List.mem_singleton.mp z with rfl
   exact⟨_,ho⟩
def TKp (H H':Hp):Prop:=∀ a xs,H a=some (.tup xs)→H' a=some (.tup xs)
theorem TKp.trans {H H1 H2:Hp} (a:TKp H H1) (b:TKp H1 H2):TKp H H2:=fun c xs h=>b c xs (a c xs h)
theorem Zl2 {H H':Hp} (e:Same H H'):TKp H H':=fun a xs h=>e _ _ h
theorem Zw1 {H:Hp} {p:Addr} {o:HO} (h:H p=none):TKp H (upd H p o):=Zl2 (Za5 h _)
theorem Zl3 {H:Hp} {l:Addr} {xs:List V} {o:HO} (h:H l=some (.lst xs)):TKp H (upd H l o):=fun a ys e=>by rw[Zb0 (fun z=>by rw[z,h] at e;cases e)];exact e
def LtV (H:Hp) (v:V) (t:Tm):Prop:=Lt t H v
theorem LtV.k {H H':Hp} {v:V} {t:Tm} (h:LtV H v t) (k:TKp H H'):LtV H' v t:=Lt.keepT k h
theorem Zf1 {H H':Hp} {us:List V} {ts:List Tm} (k:TKp H H') (h:Paired (LtV H) us ts):Paired (LtV H') us ts:=Paired.mapP h fun _ _ z=>z.k k
theorem Yv0 {K:W.Frag} {H:Hp} {v:V} (h:LtV H v .low):∃ a,v=.ref a∧SqT K H a [.str "low"]:=by
 obtain⟨a,e,h⟩:=h;exact⟨a,e,.inl (.inl h)⟩
theorem Yu9 {K:W.Frag} {H:Hp} {v:V} {x:Str} (h:LtV H v (.ltr x)):∃ a,v=.ref a∧SqT K H a [.str "letter",.str x]:=by
 obtain⟨a,e,h⟩:=h;exact⟨a,e,.inl (.inl h)⟩
theorem Xg0 {K:W.Frag} {H:Hp} {v:V} {k:Kd} {s t:Tm} (h:LtV H v (.nd k s t)):∃ a x y,v=.ref a∧SqT K H a [.str k.str,x,y]∧LtV H x s∧LtV H y t:=by
 obtain⟨a,x,y,e,h,h1,h2⟩:=h;exact⟨a,x,y,e,.inl (.inl h),h1,h2⟩
def Zw2:Sp:=fun vs H Q _=>∃ (v:V) (t:Tm),vs=[v]∧LtV H v t ∧
 ∀ (r:Addr) (H':Hp) (us:List V),Same H H'→H r=none→H' r=some (.lst us)→Paired (LtV H') us t.kids→Q (.ref r) H'
def Zw3:Sp:=fun vs H Q _=>∃ (v:V) (t:Tm),vs=[v]∧LtV H v t∧t.parts≤400 ∧
 ∀ (r:Addr) (H':Hp) (us:List V),Same H H'→H r=none→H' r=some (.lst us)→Paired (LtV H') us t.pre→Q (.ref r) H'
def FrB (bad:List Addr) (H H':Hp):Prop:=∀ a o,a ∉ bad→H a=some o→H' a=some o
theorem FrB.trans {bad:List Addr} {H H1 H2:Hp} (a:FrB bad H H1) (b:FrB bad H1 H2):FrB bad H H2:=fun c o n e=>b c o n (a c o n e)
theorem FrB.of {bad:List Addr} {H H':Hp} (e:Same H H'):FrB bad H H':=fun a o _ h=>e _ _ h
theorem FrB.write {bad:List Addr} {H0 H:Hp} {l:Addr} {o:HO} (e:FrB bad H0 H) (h:H0 l=none):FrB bad H0 (upd H l o):=fun a u n q=>by rw[Zb0 (fun z=>by rw[z,h] at q;cases q)];exact e a u n q
structure SF {σ:Type} (bad:List Addr) (St:Nat→σ→Hp→Prop) (le:σ→σ→Prop) (R:σ→Tm→V→Prop):Prop where
 refl:∀ s,le s s
 trans:∀ a b c,le a b→le b c→le a c
 keep:∀ i s H H',Same H H'→St i s H→St i s H'
 put:∀ i s H l xs o,H l=some (.lst xs)→l ∉ bad→St i s H→St i s (upd H l o)
 mono:∀ s s' t v,le s s'→R s t v→R s' t v
 tup:∀ i s H H',St i s H→FrB bad H H'→TKp H H'
 has:∀ i s H a,St i s H→a∈bad→∃ o,H a=some o
def Yh6 {σ:Type} (N:Nat) (bad:List Addr) (St:Nat→σ→Hp→Prop) (le:σ→σ→Prop) (R:σ→Tm→V→Prop):Sp:=fun vs H Q _=>∃ (v:V) (t:Tm) (s:σ) (i:Nat),vs=[v]∧i < N∧St i s H∧LtV H v t∧t.kids=[]∧∀ (r:V) (H':Hp) (s':σ),FrB bad H H'→le s s'→St (i+1) s' H'→R s' t r→Q r H'
def Yh5 {σ:Type} (N:Nat) (bad:List Addr) (St:Nat→σ→Hp→Prop) (le:σ→σ→Prop) (R:σ→Tm→V→Prop):Sp:=fun vs H Q _=>∃ (k:Kd) (a b:Tm) (x y:V) (s:σ) (i:Nat),vs=[.str k.str,x,y]∧i < N∧St i s H∧R s a x∧R s b y∧∀ (r:V) (H':Hp) (s':σ),FrB bad H H'→le s s'→St (i+1) s' H'→R s' (.nd k a b) r→Q r H'
def Zq3 {σ:Type} (N:Nat) (bad:List Addr) (St:Nat→σ→Hp→Prop) (le:σ→σ→Prop) (R:σ→Tm→V→Prop) (fs fp:Addr):Sp:=fun vs H Q _=>∃ (v:V) (t:Tm) (s:σ),vs=[v,.ref fs,.ref fp]∧St 0 s H∧LtV H v t∧t.parts≤N∧N≤400∧∀ (r:V) (H':Hp) (s':σ),FrB bad H H'→le s s'→St t.parts s' H'→R s' t r→Q r H'
def StB (A:BkA) (n:Nat) (i:Nat) (s:List Rw×List Tm) (H:Hp):Prop:=BkH A s.1 s.2 H∧s.1.length≤n+i
def leB (a b:List Rw×List Tm):Prop:=a.1 <+: b.1∧a.2 <+: b.2
def RB (s:List Rw×List Tm) (t:Tm) (v:V):Prop:=∃ k:Nat,v=.int (k:Nat)∧s.2[k]?=some t
noncomputable abbrev badK (A:BkA):List Addr:=[A.lr,A.ls,A.dn]
theorem Ye0 {α:Type} {l m:List α} {k:Nat} {x:α} (h:l <+: m) (e:l[k]?=some x):m[k]?=some x:=by
 obtain⟨z,rfl⟩:=h;rw[List.getElem?_append_left (List.getElem?_eq_some_iff.mp e).1];exact e
theorem BkH.put {A:BkA} {R:List Rw} {S:List Tm} {H:Hp} {l:Addr} {xs:List V} {o:HO} (B:BkH A R S H) (h:H l=some (.lst xs)) (n:l ∉ badK A):BkH A R S (upd H l o):=by
 simp only[List.mem_cons,List.not_mem_nil,or_false,not_or] at n;obtain⟨us,h1,h2⟩:=B.rows;obtain⟨vs,h3,h4⟩:=B.sts;obtain⟨kvs,h5,h6⟩:=B.num;have kt:∀ a xs,H a=some (.tup xs)→upd H l o a=some (.tup xs):=Zl3 h;exact⟨by rw[Zb0 (fun z=>by have:=B.ins;rw[z,h] at this;cases this)];exact B.ins,⟨us,by rw[Zb0 (fun z=>n.1 z.symm)];exact h1,Paired.mapP h2 fun _ _ z=>z.keep kt⟩,⟨vs,by rw[Zb0 (fun z=>n.2.1 z.symm)];exact h3,Paired.mapP h4 fun _ _ z=>z.keepT kt⟩,⟨kvs,by rw[Zb0 (fun z=>n.2.2 z.symm)];exact h5,h6⟩,B.bk,B.okr,B.ne⟩
theorem sfB (A:BkA) (n:Nat):SF (badK A) (StB A n) leB RB:=by
 refine⟨fun s=>⟨List.prefix_refl _,List.prefix_refl _⟩,fun a b c h1 h2=>⟨h1.1.trans h2.1,h1.2.trans h2.2⟩,fun i s H H' e h=>⟨h.1.keep e,h.2⟩,fun i s H l xs o e n h=>⟨h.1.put e n,h.2⟩,fun s s' t v h ⟨k,e1,e2⟩=>⟨k,e1,Ye0 h.2 e2⟩,fun i s H H' h f a xs e=>?_,fun i s H a h m=>?_⟩
 ·obtain⟨us,h1,_⟩:=h.1.rows
  obtain⟨vs,h3,_⟩:=h.1.sts;obtain⟨kvs,h5,_⟩:=h.1.num;refine f a _ (fun z=>?_) e;simp only[List.mem_cons,List.not_mem_nil,or_false] at z;rcases z with rfl | rfl | rfl
  ·rw[h1] at e;cases e
  ·rw[h3] at e;cases e
  ·rw[h5] at e;cases e
 ·obtain⟨us,h1,_⟩:=h.1.rows
  obtain⟨vs,h3,_⟩:=h.1.sts;obtain⟨kvs,h5,_⟩:=h.1.num;simp only[List.mem_cons,List.not_mem_nil,or_false] at m;rcases m with rfl | rfl | rfl
  ·exact⟨_,h1⟩
  ·exact⟨_,h3⟩
  ·exact⟨_,h5⟩
theorem SameK.fr {A:BkA} {H H':Hp} (h:SameK A H H'):FrB (badK A) H H':=fun a o n e=>by
 simp only[List.mem_cons,List.not_mem_nil,or_false,not_or] at n;exact h a o n.1 n.2.1 n.2.2 e
theorem BkH.via {A:BkA} {R:List Rw} {S:List Tm} {H H':Hp} (k:∀ a o,(∀ b,o≠FZ b)→(∀ ps,o≠.tbl ps)→H a=some o→H' a=some o) (B:BkH A R S H):BkH A R S H':=by
 obtain⟨us,h1,h2⟩:=B.rows;obtain⟨vs,h3,h4⟩:=B.sts;obtain⟨kvs,h5,h6⟩:=B.num;have kt:∀ a xs,H a=some (.tup xs)→H' a=some (.tup xs):=fun a xs h=>k a _ (fun _ z=>nomatch z) (fun _ z=>nomatch z) h;exact⟨k _ _ (fun _ z=>nomatch z) (fun _ z=>nomatch z) B.ins,⟨us,k _ _ (fun _ z=>nomatch z) (fun _ z=>nomatch z) h1,Paired.mapP h2 fun _ _ z=>z.keep kt⟩,⟨vs,k _ _ (fun _ z=>nomatch z) (fun _ z=>nomatch z) h3,Paired.mapP h4 fun _ _ z=>z.keepT kt⟩,⟨kvs,k _ _ (fun _ z=>nomatch z) (fun _ z=>nomatch z) h5,h6⟩,B.bk,B.okr,B.ne⟩
theorem Xi0 {xs:List (Addr×Obj)} {H:Hp} (hx:∀ p∈xs,H p.1=some (FZ p.2)) (a:Addr) (o:HO) (n:∀ b,o≠FZ b) (h:H a=some o):remX xs H a=some o:=by
 rw[Ze8 fun z=>?_]
 ·exact h
 ·obtain⟨p,hp,rfl⟩:=List.mem_map.mp z
  rw[hx p hp] at h;exact n _ (Option.some.inj h).symm
theorem Xe5 {xs:List (Addr×Obj)} {H H2:Hp} (hx:∀ p∈xs,H2 p.1=none) (a:Addr) (o:HO) (h:H2 a=some o):Yb4 xs H H2 a=some o:=by
 rw[Zg6 fun z=>?_]
 ·exact h
 ·obtain⟨p,hp,rfl⟩:=List.mem_map.mp z
  rw[hx p hp] at h;cases h
theorem FrB.back {bad:List Addr} {xs:List (Addr×Obj)} {H H2:Hp} (h:FrB bad (remX xs H) H2):FrB bad H (Yb4 xs H H2):=fun b o n e=>by
 by_cases z:b∈xs.map (·.1)
 ·rw[Zs8 z];exact e
 ·rw[Zg6 z];exact h b o n (by rw[Ze8 z];exact e)
theorem FrB.mono {bad bad':List Addr} {H H':Hp} (h:FrB bad H H') (m:∀ a∈bad,a∈bad'):FrB bad' H H':=fun a o n e=>h a o (fun z=>n (m a z)) e
theorem FrB.ofU {T:Addr} {bad:List Addr} {H H':Hp} (h:SameU T H H'):FrB (T :: bad) H H':=fun a o n e=>h.off a o (fun z=>n (by rw[z];exact .head _)) e
def Mut (bad:List Addr) (H:Hp):Prop:=∀ a∈bad,∃ o,H a=some o∧(∀ xs,o≠.tup xs)∧∀ b u,o≠.frz b u
theorem FrB.tk {bad:List Addr} {H H':Hp} (h:FrB bad H H') (m:Mut bad H):TKp H H':=fun a xs e=>h a _ (fun z=>by
 obtain⟨o,e1,e2,_⟩:=m a z;rw[e1] at e
 exact e2 xs (Option.some.inj e)) e
theorem FrB.keepT {K:W.Frag} {bad:List Addr} {H H':Hp} (h:FrB bad H H') (m:Mut bad H):KeepT K H H':=fun a xs e=>by
 rcases e with (e | ⟨o,e⟩) | e
 ·exact .inl (.inl (h.tk m a xs e))
 ·refine .inl (.inr ⟨o,h a _ (fun z=>?_) e⟩)
  obtain⟨o',e1,_,e3⟩:=m a z;rw[e1] at e;exact e3 _ _ (Option.some.inj e)
 ·exact .inr e
theorem BkH.mut {A:BkA} {R:List Rw} {S:List Tm} {H:Hp} (B:BkH A R S H):Mut (badK A) H:=fun a m=>by
 obtain⟨us,h1,_⟩:=B.rows;obtain⟨vs,h3,_⟩:=B.sts;obtain⟨kvs,h5,_⟩:=B.num;simp only[List.mem_cons,List.not_mem_nil,or_false] at m;rcases m with rfl | rfl | rfl
 ·exact⟨_,h1,(fun _ z=>nomatch z),(fun _ _ z=>nomatch z)⟩
 ·exact⟨_,h3,(fun _ z=>nomatch z),(fun _ _ z=>nomatch z)⟩
 ·exact⟨_,h5,(fun _ z=>nomatch z),(fun _ _ z=>nomatch z)⟩
theorem TabOk.mut {T:Addr} {ds:List (Pos×Str)} {bad:List Addr} {H:Hp} (h:TabOk H T ds) (m:Mut bad H):Mut (T :: bad) H:=fun a z=>by
 rcases List.mem_cons.mp z with rfl | z
 ·obtain⟨ps,h1,_⟩:=h
  exact⟨_,h1,(fun _ z=>nomatch z),(fun _ _ z=>nomatch z)⟩
 ·exact m a z
theorem TabOk.frB {A:BkA} {R:List Rw} {S:List Tm} {T:Addr} {ds:List (Pos×Str)} {H H':Hp} (B:BkH A R S H) (h:TabOk H T ds) (f:FrB (badK A) H H'):TabOk H' T ds:=by
 have m:=B.mut;obtain⟨us,g1,_⟩:=B.rows;obtain⟨vs,g3,_⟩:=B.sts;obtain⟨kvs,g5,_⟩:=B.num;obtain⟨ps,h1,h2,h3⟩:=h;refine⟨ps,f _ _ (fun z=>?_) h1,h2,fun d hd cv e=>?_⟩
 ·simp only[List.mem_cons,List.not_mem_nil,or_false] at z
  rcases z with rfl | rfl | rfl
  ·rw[g1] at h1;cases h1
  ·rw[g3] at h1;cases h1
  ·rw[g5] at h1;cases h1
 ·obtain⟨c,o,vs,t,e1,e2,e3,e4⟩:=h3 d hd cv e
  refine⟨c,o,vs,t,e1,f _ _ (fun z=>?_) e2,e3,e4⟩;obtain⟨o',k1,_,k3⟩:=m c z;rw[k1] at e2;exact k3 _ _ (Option.some.inj e2)
structure NumT where
 T:Addr
 ds:List (Pos×Str)
structure BkT (A:BkA) (N:NumT) (R:List Rw) (S:List Tm) (H:Hp):Prop where
 b:BkH A R S H
 t:TabOk H N.T N.ds
noncomputable abbrev badT (A:BkA) (N:NumT):List Addr:=N.T :: badK A
theorem BkT.keep {A:BkA} {N:NumT} {R:List Rw} {S:List Tm} {H H':Hp} (B:BkT A N R S H) (e:Same H H'):BkT A N R S H':=⟨B.b.keep e,B.t.keep e⟩
theorem BkT.mut {A:BkA} {N:NumT} {R:List Rw} {S:List Tm} {H:Hp} (B:BkT A N R S H):Mut (badT A N) H:=TabOk.mut B.t B.b.mut
theorem BkT.has {A:BkA} {N:NumT} {R:List Rw} {S:List Tm} {H:Hp} (B:BkT A N R S H) {l:Addr} (h:H l=none):l ∉ badT A N:=fun z=>by
 obtain⟨o,e,_⟩:=B.mut l z;rw[h] at e;cases e
def Zg1 (A:BkA) (N:NumT):Sp:=fun vs H Q _=>∃ (v:V) (t:Tm) (R:List Rw) (S:List Tm),vs=[.ref A.b,v]∧BkT A N R S H∧LtV H v t∧t.parts≤400∧R.length≤90000 ∧
 ∀ (k:Nat) (H':Hp) (R':List Rw) (S':List Tm),FrB (badT A N) H H'→BkT A N R' S' H'→R <+: R'→S <+: S'→R'.length≤R.length+t.parts→S'[k]?=some t→Q (.int (k:Nat)) H'
end Ken
namespace L2
open PySem PySem.Spec PyProof.Rows
end L2
namespace Ken
open PySem L2
noncomputable abbrev nI (k:Nat):V:=.int (k:Nat)
def NumS (S:List Tm) (k:Nat) (s:Tm):Prop:=S[k]?=some s
theorem Zu1 {S S':List Tm} (h:S <+: S') {ks:List Nat} {gs:List Tm} (p:Paired (NumS S) ks gs):Paired (NumS S') ks gs:=Paired.mapP p fun _ _ z=>Ye0 h z
theorem BkH.row {A:BkA} {R:List Rw} {S:List Tm} {H:Hp} (B:BkH A R S H) {k:Nat} {t:Tm} (h:S[k]?=some t):∃ us u r,H A.lr=some (.lst us)∧us[k]?=some u∧RowV H u r ∧
  ((r=.sim t∧∀ k a b,t≠.nd k a b)∨∃ kk i j x y,r=.par kk i j∧t=.nd kk x y∧S[i]?=some x∧S[j]?=some y):=by
 obtain⟨us,h1,h2⟩:=B.rows
 have hk:k < R.length:=by rw[B.bk.len];exact (List.getElem?_eq_some_iff.mp h).1
 have hu:k < us.length:=by rw[Paired.length h2];exact hk
 obtain⟨r,hr,hv⟩:=paired_get h2 (List.getElem?_eq_getElem hu);refine⟨us,us[k],r,h1,List.getElem?_eq_getElem hu,hv,?_⟩;rcases B.bk.den k r t hr h with ⟨u,e1,e2,n⟩ | ⟨kk,i,j,x,y,e1,_,_,e2,e3,e4⟩
 ·subst e2;exact .inl ⟨e1,n⟩
 ·exact .inr ⟨kk,i,j,x,y,e1,e4,e2,e3⟩
def Zy4 (C:Addr):Sp:=fun vs H Q _=>∃ x dx,vs=[.ref x]∧H x=some (.ins C dx []) ∧
 ∀ (lr ls dn:Addr) (H':Hp),FrB [x] H H'→H' x=some (.ins C dx [("rows",.ref lr),("statements",.ref ls),("numbers",.ref dn)])→H' lr=some (.lst [])→H' ls=some (.lst [])→H' dn=some (.dT [])→H lr=none→H ls=none→H dn=none→lr≠ls→Q .non H'
def Zs0 (C:Addr):Sp:=fun vs H Q _=>∃ x dx t f,vs=[.ref x,t,f]∧H x=some (.ins C dx []) ∧
 ∀ (lk:Addr) (H':Hp),FrB [x] H H'→H' x=some (.ins C dx [("term",t),("front",f),("kinds",.ref lk)])→H' lk=some (.lst [])→H lk=none→Q .non H'
def ToldK (A:BkA) (N:NumT) (R:List Rw) (S:List Tm) (H:Hp) (n:Nat) (g:Tm) (Q:VK):Prop :=
 ∀ (k:Nat) (H':Hp) (R':List Rw) (S':List Tm),FrB (badT A N) H H'→BkT A N R' S' H'→R <+: R'→S <+: S'→R'.length≤R.length+n→S'[k]?=some g→Q (nI k) H'
inductive Dd where
 | pair | left | right | first | second | cases | fn | use | off
noncomputable def Dd.str:Dd→Str
 | .pair=>"pair" | .left=>"left" | .right=>"right" | .first=>"first" | .second=>"second" | .cases=>"cases" | .fn=>"fun" | .use=>"use" | .off=>"off"
theorem Dd.str_inj:∀ {d e:Dd},d.str=e.str→d=e:=fun {d e} h=>by
 cases d<;>cases e<;>first | rfl | exact absurd h (by decide)
theorem ToldK.noted {A:BkA} {N:NumT} {R:List Rw} {S:List Tm} {H:Hp} {n:Nat} {kk:Kd} {x y:Tm} {Q:VK} {E:XK} {i j:Nat} {p:Addr} (q:ToldK A N R S H n (.nd kk x y) Q) (B:BkT A N R S H) (hn:1≤n) (hR:R.length≤90000) (hi:S[i]?=some x) (hj:S[j]?=some y) (hp:H p=none) :
  Zg2 A [.ref A.b,.ref p] (upd H p (.tup [.str kk.str,nI i,nI j])) Q E:=by
 have sp:=Za5 hp (.tup [.str kk.str,nI i,nI j]);have B1:=B.keep sp;have la:=(List.getElem?_eq_some_iff.mp hi).1;have lb:=(List.getElem?_eq_some_iff.mp hj).1;refine⟨_,.par kk i j,R,S,.nd kk x y,rfl,B1.b,⟨p,rfl,Za4⟩,⟨by rw[B.b.bk.len];exact la,by rw[B.b.bk.len];exact lb⟩,?_,by walk_at "o",fun k H' R' S' e B' p1 p2 pl hk=>q k H' R' S' (FrB.trans (.of sp) (e.fr.mono fun a z=>.tail _ z)) ⟨B',TabOk.frB B1.b B1.t e.fr⟩ p1 p2 (by walk_at "o") hk⟩
 show (match S[i]?,S[j]? with
  | some x,some y=>some (Tm.nd kk x y)
  | _,_=>none)=_
 rw[hi,hj]
theorem ToldK.after {A:BkA} {N:NumT} {R R1:List Rw} {S S1:List Tm} {H H1:Hp} {n m:Nat} {g:Tm} {Q:VK} (q:ToldK A N R S H n g Q) (f:FrB (badT A N) H H1) (p1:R <+: R1) (p2:S <+: S1) (hl:R1.length+m≤R.length+n):ToldK A N R1 S1 H1 m g Q :=
 fun k H' R' S' f' B' q1 q2 ql hk=>q k H' R' S' (f.trans f') B' (p1.trans q1) (p2.trans q2) (by walk_at "o") hk
theorem ToldK.here {A:BkA} {N:NumT} {R:List Rw} {S:List Tm} {H:Hp} {n k:Nat} {g:Tm} {Q:VK} (q:ToldK A N R S H n g Q) (B:BkT A N R S H) (h:S[k]?=some g):Q (nI k) H :=
 q k H R S (fun _ _ _ e=>e) B (List.prefix_refl _) (List.prefix_refl _) (Nat.le_add_right _ _) h
theorem BkT.number {A:BkA} {N:NumT} {R:List Rw} {S:List Tm} {H:Hp} {v:V} {t:Tm} {Q:VK} {E:XK} (B:BkT A N R S H) (hv:LtV H v t) (ht:t.parts≤60) (hR:R.length≤90000) (q:ToldK A N R S H 60 t Q):Zg1 A N [.ref A.b,v] H Q E :=
 ⟨v,t,R,S,rfl,B,hv,by walk_at "o",hR,fun k H' R' S' f B' p1 p2 pl hk=>q k H' R' S' f B' p1 p2 (by walk_at "o") hk⟩
inductive Tz where
 | «at» (i:Int)
 | one (u:U5) (a:Tz) (ss:List Tm)
 | two (u:U2) (a b:Tz)
 | fn (s:Tm) (a:Tz)
 | cs (a b c:Tz)
noncomputable def Tz.tag:Tz→Str
 | .at _=>"at"
 | .one u _ _=>u.str
 | .two u _ _=>u.str
 | .fn _ _=>"fun"
 | .cs _ _ _=>"cases"
noncomputable def Tz.kids:Tz→List (Tz×Nat)
 | .at _=>[]
 | .one _ a _=>[(a,0)]
 | .two _ a b=>[(a,0),(b,0)]
 | .fn _ a=>[(a,1)]
 | .cs a b c=>[(a,0),(b,1),(c,1)]
noncomputable def Tz.plc:Tz→List Nat
 | .at _=>[]
 | .one _ _ _=>[1]
 | .two _ _ _=>[1,2]
 | .fn _ _=>[2]
 | .cs _ _ _=>[1,2,3]
noncomputable def Tz.inn (t:Tz):List (Nat×Nat):=List.zip t.plc (t.kids.map (·.2))
theorem Tz.inn_len (t:Tz):t.inn.length=t.kids.length:=by cases t<;>rfl
noncomputable def Tz.size:Tz→Nat
 | .at _=>1
 | .one _ a _=>1+a.size
 | .two _ a b=>1+a.size+b.size
 | .fn _ a=>1+a.size
 | .cs a b c=>1+a.size+b.size+c.size
noncomputable def Tz.deep:Tz→Nat
 | .at _=>1
 | .one _ a _=>1+a.deep
 | .two _ a b=>1+max a.deep b.deep
 | .fn _ a=>1+a.deep
 | .cs a b c=>1+max a.deep (max b.deep c.deep)
def Tz.fine (ws:List Str):Tz→Prop
 | .at _=>True
 | .one u a ss=>a.fine ws∧ss.length=u.ar∧∀ s∈ss,okW ws s
 | .two _ a b=>a.fine ws∧b.fine ws
 | .fn s a=>okW ws s∧a.fine ws
 | .cs a b c=>a.fine ws∧b.fine ws∧c.fine ws
noncomputable def Te.z:Te→Tz
 | .at k=>.at (k:Nat)
 | .one u a ss=>.one u a.z ss
 | .two u a b=>.two u a.z b.z
 | .fn s a=>.fn s a.z
 | .cs a b c=>.cs a.z b.z c.z
theorem Zr1:∀ t:Te,t.z.size=t.size
 | .at _=>rfl
 | .one _ a _=>by show 1+a.z.size=1+a.size;rw[Zr1 a]
 | .two _ a b=>by show 1+a.z.size+b.z.size=1+a.size+b.size;rw[Zr1 a,Zr1 b]
 | .fn _ a=>by show 1+a.z.size=1+a.size;rw[Zr1 a]
 | .cs a b c=>by show 1+a.z.size+b.z.size+c.z.size=1+a.size+b.size+c.size;rw[Zr1 a,Zr1 b,Zr1 c]
theorem Zr2 {ws:List Str}:∀ {t:Te},t.fine ws→t.z.fine ws
 | .at _,_=>trivial
 | .one _ _ _,h=>⟨Zr2 h.1,h.2⟩
 | .two _ _ _,h=>⟨Zr2 h.1,Zr2 h.2⟩
 | .fn _ _,h=>⟨h.1,Zr2 h.2⟩
 | .cs _ _ _,h=>⟨Zr2 h.1,Zr2 h.2.1,Zr2 h.2.2⟩
def LZ (K:W.Frag):Tz→Hp→V→Prop
 | .at i,H,v=>∃ p,v=.ref p∧SqT K H p [.str "at",.int i]
 | .one u a ss,H,v=>∃ p x rs,v=.ref p∧SqT K H p (.str u.str :: x :: rs)∧LZ K a H x∧Paired (fun r s=>Lt s H r) rs ss
 | .two u a b,H,v=>∃ p x y,v=.ref p∧SqT K H p [.str u.str,x,y]∧LZ K a H x∧LZ K b H y
 | .fn s a,H,v=>∃ p x y,v=.ref p∧SqT K H p [.str "fun",x,y]∧Lt s H x∧LZ K a H y
 | .cs a b c,H,v=>∃ p x y z,v=.ref p∧SqT K H p [.str "cases",x,y,z]∧LZ K a H x∧LZ K b H y∧LZ K c H z
theorem LE.z {K:W.Frag} {H:Hp}:∀ {t:Te} {v:V},LE K t H v→LZ K t.z H v
 | .at _,_,h=>h
 | .one _ _ _,_,⟨p,x,rs,e,h,h1,h2⟩=>⟨p,x,rs,e,h,LE.z h1,h2⟩
 | .two _ _ _,_,⟨p,x,y,e,h,h1,h2⟩=>⟨p,x,y,e,h,LE.z h1,LE.z h2⟩
 | .fn _ _,_,⟨p,x,y,e,h,h1,h2⟩=>⟨p,x,y,e,h,h1,LE.z h2⟩
 | .cs _ _ _,_,⟨p,x,y,z,e,h,h1,h2,h3⟩=>⟨p,x,y,z,e,h,LE.z h1,LE.z h2,LE.z h3⟩
theorem LZ.keepT {K:W.Frag} {H H':Hp} (k:∀ a xs,H a=some (.tup xs)→H' a=some (.tup xs)) (kt:KeepT K H H'):∀ {t:Tz} {v:V},LZ K t H v→LZ K t H' v
 | .at _,_,⟨p,e,h⟩=>⟨p,e,kt _ _ h⟩
 | .one _ _ _,_,⟨p,x,rs,e,h,h1,h2⟩=>⟨p,x,rs,e,kt _ _ h,h1.keepT k kt,Paired.mapP h2 fun _ _ z=>z.keepT k⟩
 | .two _ _ _,_,⟨p,x,y,e,h,h1,h2⟩=>⟨p,x,y,e,kt _ _ h,h1.keepT k kt,h2.keepT k kt⟩
 | .fn _ _,_,⟨p,x,y,e,h,h1,h2⟩=>⟨p,x,y,e,kt _ _ h,h1.keepT k,h2.keepT k kt⟩
 | .cs _ _ _,_,⟨p,x,y,z,e,h,h1,h2,h3⟩=>⟨p,x,y,z,e,kt _ _ h,h1.keepT k kt,h2.keepT k kt,h3.keepT k kt⟩
theorem LZ.keep {K:W.Frag} {H H':Hp} {t:Tz} {v:V} (h:LZ K t H v) (e:Same H H'):LZ K t H' v:=h.keepT (fun a xs z=>e _ _ z) e.keepT
noncomputable def kdBy:Tz→List Tm→Option Tm
 | .at _,_=>none
 | .one .left _ _,[.nd .both g _]=>some g
 | .one .right _ _,[.nd .both _ g]=>some g
 | .one .first _ [s],[h]=>some (.nd .one h s)
 | .one .second _ [s],[h]=>some (.nd .one s h)
 | .one .off _ [s],[.low]=>some s
 | .two .pair _ _,[h,k]=>some (.nd .both h k)
 | .two .use _ _,[.nd .thn h g,k]=>if h=k then some g else none
 | .fn s _,[h]=>some (.nd .thn s h)
 | .cs _ _ _,[.nd .one _ _,g,g']=>if g=g' then some g else none
 | _,_=>none
noncomputable def cxBy:Tz→List Tm→Option (List Tm)
 | .fn s _,_=>some [s]
 | .cs _ _ _,[]=>some []
 | .cs _ _ _,[.nd .one h _]=>some [h]
 | .cs _ _ _,[.nd .one _ k,_]=>some [k]
 | .cs _ _ _,_=>none
 | _,_=>some []
noncomputable def kd (Γ:List Tm):Tz→Option Tm
 | .at i=>if 0≤i then Γ[i.toNat]? else none
 | .one u a ss=>(kd Γ a).bind fun g=>kdBy (.one u a ss) [g]
 | .two u a b=>(kd Γ a).bind fun g=>(kd Γ b).bind fun h=>kdBy (.two u a b) [g,h]
 | .fn s a=>(kd (s :: Γ) a).bind fun g=>kdBy (.fn s a) [g]
 | .cs a b c=>(kd Γ a).bind fun g=>match g with
  | .nd .one h k=>(kd (h :: Γ) b).bind fun x=>(kd (k :: Γ) c).bind fun y=>kdBy (.cs a b c) [g,x,y]
  | _=>none
def KidsZ (Γ:List Tm) (t:Tz) (gs:List Tm):Prop:=∀ i g,gs[i]?=some g→∃ kid m cx,t.kids[i]?=some (kid,m)∧cxBy t (gs.take i)=some cx∧kd (cx++Γ) kid=some g
theorem Yf1 (Γ:List Tm) (t:Tz):KidsZ Γ t []:=fun i g h=>nomatch h
theorem KidsZ.more {Γ:List Tm} {t:Tz} {gs:List Tm} (h:KidsZ Γ t gs) {kid:Tz} {m:Nat} {g:Tm} {cx:List Tm} (h1:t.kids[gs.length]?=some (kid,m)) (hc:cxBy t gs=some cx) (h2:kd (cx++Γ) kid=some g):KidsZ Γ t (gs++[g]):=fun i g' e=>by
 have hi:=(List.getElem?_eq_some_iff.mp e).1;rw[List.length_append,List.length_singleton] at hi
 by_cases c:i < gs.length
 ·rw[List.getElem?_append_left c] at e
  rw[List.take_append_of_le_length (Nat.le_of_lt c)];exact h i g' e
 ·have ei:i=gs.length:=by walk_at "o"
  subst ei;rw[List.getElem?_append_right (Nat.le_refl _),Nat.sub_self] at e;cases e;rw[List.take_left];exact⟨kid,m,cx,h1,hc,h2⟩
theorem Xk1 {Γ:List Tm} {t:Tz} {gs:List Tm} (hk:KidsZ Γ t gs) (hl:gs.length=t.kids.length) (hn:∀ i,t≠.at i):kd Γ t=kdBy t gs:=by
 cases t with
 | «at» i=>exact absurd rfl (hn i)
 | one u a ss =>
  match gs,hl with
  | [x],_ =>
   obtain⟨_,_,_,e,c,z⟩:=hk 0 x rfl;cases e;cases c;show (kd Γ a).bind _=_;rw[show kd Γ a=some x from z];rfl
 | two u a b =>
  match gs,hl with
  | [x,y],_ =>
   obtain⟨_,_,_,e,c,z⟩:=hk 0 x rfl;cases e;cases c;obtain⟨_,_,_,e,c,z'⟩:=hk 1 y rfl;cases e;cases c;show (kd Γ a).bind _=_;rw[show kd Γ a=some x from z];show (kd Γ b).bind _=_;rw[show kd Γ b=some y from z'];rfl
 | fn s a =>
  match gs,hl with
  | [x],_ =>
   obtain⟨_,_,_,e,c,z⟩:=hk 0 x rfl;cases e;cases c;show (kd (s :: Γ) a).bind _=_;rw[show kd (s :: Γ) a=some x from z];rfl
 | cs a b c =>
  match gs,hl with
  | [x,y,w],_ =>
   obtain⟨_,_,_,e,cc,z⟩:=hk 0 x rfl;cases e;cases cc;obtain⟨_,_,_,e,c1,z1⟩:=hk 1 y rfl;cases e;obtain⟨_,_,_,e,c2,z2⟩:=hk 2 w rfl;cases e;show (kd Γ a).bind _=_;rw[show kd Γ a=some x from z]
   match x,c1,c2 with
   | .nd .one h k,c1,c2 =>
    cases c1;cases c2;show (kd (h :: Γ) b).bind _=_;rw[show kd (h :: Γ) b=some y from z1];show (kd (k :: Γ) c).bind _=_;rw[show kd (k :: Γ) c=some w from z2];rfl
theorem Wa5 {Γ:List Tm} {t:Tz} {gs:List Tm} (hk:KidsZ Γ t gs) (hl:gs.length < t.kids.length) (hc:cxBy t gs=none):kd Γ t=none:=by
 cases t with
 | «at» i=>cases hl
 | one u a ss=>cases hc
 | two u a b=>cases hc
 | fn s a=>cases hc
 | cs a b c =>
  have first:∀ x r,gs=x :: r→(∀ h k,x≠.nd .one h k)→kd Γ (.cs a b c)=none:=fun x r e hx=>by
   obtain⟨_,_,_,e1,cc,z⟩:=hk 0 x (by rw[e];rfl);cases e1;rw[e] at cc;cases cc;show (kd Γ a).bind _=none;rw[show kd Γ a=some x from z]
   match x,hx with
   | .low,_=>rfl
   | .ltr _,_=>rfl
   | .nd .both _ _,_=>rfl
   | .nd .thn _ _,_=>rfl
   | .nd .one h k,hx=>exact absurd rfl (hx h k)
  match gs,hl,hc with
  | [],_,hc=>cases hc
  | [x],_,hc=>exact first x [] rfl fun h k e=>by rw[e] at hc;cases hc
  | [x,y],_,hc=>exact first x [y] rfl fun h k e=>by rw[e] at hc;cases hc
theorem Xx0 {Γ:List Tm} {t:Tz} {gs:List Tm} (hk:KidsZ Γ t gs) {kid:Tz} {m:Nat} {cx:List Tm} (e:t.kids[gs.length]?=some (kid,m)) (hc:cxBy t gs=some cx) (hn:kd (cx++Γ) kid=none):kd Γ t=none:=by
 cases t with
 | «at» i=>cases e
 | one u a ss =>
  match gs,e,hc with
  | [],e,hc =>
   cases e;cases hc;show Option.bind (kd Γ kid) _=none;rw[show kd Γ kid=none from hn];rfl
 | two u a b =>
  match gs,e,hc,hk with
  | [],e,hc,_ =>
   cases e;cases hc;show Option.bind (kd Γ kid) _=none;rw[show kd Γ kid=none from hn];rfl
  | [x],e,hc,hk =>
   cases e;cases hc;obtain⟨_,_,_,e1,c1,z⟩:=hk 0 x rfl;cases e1;cases c1;show (kd Γ a).bind _=none;rw[show kd Γ a=some x from z];show Option.bind (kd Γ kid) _=none;rw[show kd Γ kid=none from hn];rfl
 | fn s a =>
  match gs,e,hc with
  | [],e,hc =>
   cases e;cases hc;show Option.bind (kd (s :: Γ) kid) _=none;rw[show kd (s :: Γ) kid=none from hn];rfl
 | cs a b c =>
  match gs,e,hc,hk with
  | [],e,hc,_ =>
   cases e;cases hc;show Option.bind (kd Γ kid) _=none;rw[show kd Γ kid=none from hn];rfl
  | [x],e,hc,hk =>
   cases e;obtain⟨_,_,_,e1,c1,z⟩:=hk 0 x rfl;cases e1;cases c1
   match x,hc with
   | .nd .one h k,hc =>
    cases hc;show (kd Γ a).bind _=none;rw[show kd Γ a=some (.nd .one h k) from z];show Option.bind (kd (h :: Γ) kid) _=none;rw[show kd (h :: Γ) kid=none from hn];rfl
  | [x,y],e,hc,hk =>
   cases e;obtain⟨_,_,_,e1,c1,z⟩:=hk 0 x rfl;cases e1;cases c1;obtain⟨_,_,_,e2,c2,z2⟩:=hk 1 y rfl;cases e2
   match x,hc,c2 with
   | .nd .one h k,hc,c2 =>
    cases hc;cases c2;show (kd Γ a).bind _=none;rw[show kd Γ a=some (.nd .one h k) from z];show (kd (h :: Γ) b).bind _=none;rw[show kd (h :: Γ) b=some y from z2];show Option.bind (kd (k :: Γ) kid) _=none;rw[show kd (k :: Γ) kid=none from hn];rfl
end Ken
namespace L2
open PySem PySem.Spec PyProof.Rows
section
variable {X:Cx} {te:TE} {t:TA} {es:List Expr}
theorem Zc1 {es':List Expr} {k:Nat} {p:Pos} (ha:PE X (.Tuple es' k p) te) (hr:PA X es t):PA X (.Tuple es' k p :: es) (Zt2 te t):=Za0 ha hr rfl
theorem Zb5 {c:Const} {k:Nat} {p:Pos} (ha:PE X (.Constant c k p) te) (hr:PA X es t):PA X (.Constant c k p :: es) (Zt2 te t):=Za0 ha hr rfl
theorem Za8 {x:Str} {p:Pos} (ha:PE X (.Name x p) te) (hr:PA X es t):PA X (.Name x p :: es) (Zt2 te t):=Za0 ha hr rfl
theorem Zm2 {a b:Expr} {p:Pos} (ha:PE X (.Subscript a b p) te) (hr:PA X es t):PA X (.Subscript a b p :: es) (Zt2 te t):=Za0 ha hr rfl
end
end L2
namespace Ken
open PySem L2
def LtK (_:W.Frag) (H:Hp) (v:V) (t:Tm):Prop:=Lt t H v
def LEK (K:W.Frag) (H:Hp) (v:V) (t:Te):Prop:=LE K t H v
structure KeepL (K:W.Frag) (H H':Hp):Prop where
 t:TKp H H'
 k:KeepT K H H'
section
variable {K:W.Frag} {H H':Hp} {v:V}
theorem KeepL.refl (H:Hp):KeepL K H H:=⟨fun _ _ h=>h,KeepT.refl _⟩
theorem KeepL.trans {H1:Hp} (a:KeepL K H H1) (b:KeepL K H1 H'):KeepL K H H':=⟨a.t.trans b.t,a.k.trans b.k⟩
theorem _root_.L2.Same.keepL {K:W.Frag} {H H':Hp} (e:Same H H'):KeepL K H H':=⟨Zl2 e,e.keepT⟩
theorem Zf4 {p:Addr} {o:HO} (h:H p=none):KeepL K H (upd H p o):=(Za5 h o).keepL
theorem Yf4 {l:Addr} {xs:List V} {o:HO} (h:H l=some (.lst xs)):KeepL K H (upd H l o):=⟨Zl3 h,Zj4 h⟩
theorem LtK.isT {t:Tm} (h:LtK K H v t):IsT K H v t:=Lt.isT h
theorem LtK.keep {t:Tm} (h:LtK K H v t) (k:KeepL K H H'):LtK K H' v t:=Lt.keepT k.t h
theorem LEK.keep {t:Te} (h:LEK K H v t) (k:KeepL K H H'):LEK K H' v t:=LE.keepT k.t k.k h
theorem ltK_low:LtK K H v .low↔∃ p,v=.ref p∧H p=some (.tup [.str "low"]):=Iff.rfl
theorem ltK_ltr {x:Str}:LtK K H v (.ltr x)↔∃ p,v=.ref p∧H p=some (.tup [.str "letter",.str x]):=Iff.rfl
theorem ltK_nd {k:Kd} {a b:Tm}:LtK K H v (.nd k a b)↔∃ p x y,v=.ref p∧H p=some (.tup [.str k.str,x,y])∧LtK K H x a∧LtK K H y b:=Iff.rfl
theorem leK_atV {k:Nat}:LEK K H v (.at k)↔∃ p,v=.ref p∧SqT K H p [.str "at",.int (k:Nat)]:=Iff.rfl
theorem leK_oneV {u:U5} {a:Te} {ss:List Tm}:LEK K H v (.one u a ss)↔∃ p x rs,v=.ref p∧SqT K H p (.str u.str :: x :: rs)∧LEK K H x a∧Paired (LtK K H) rs ss:=Iff.rfl
theorem leK_twoV {u:U2} {a b:Te}:LEK K H v (.two u a b)↔∃ p x y,v=.ref p∧SqT K H p [.str u.str,x,y]∧LEK K H x a∧LEK K H y b:=Iff.rfl
theorem leK_fnV {s:Tm} {a:Te}:LEK K H v (.fn s a)↔∃ p x y,v=.ref p∧SqT K H p [.str "fun",x,y]∧LtK K H x s∧LEK K H y a:=Iff.rfl
theorem leK_csV {a b c:Te}:LEK K H v (.cs a b c)↔∃ p x y z,v=.ref p∧SqT K H p [.str "cases",x,y,z]∧LEK K H x a∧LEK K H y b∧LEK K H z c:=Iff.rfl
theorem Zm4 {p:Addr} {x:V} {u:U5} {a:Te} (h:SqT K H p [.str u.str,x]) (h1:LEK K H x a):LEK K H (.ref p) (.one u a []):=leK_oneV.mpr ⟨p,x,[],rfl,h,h1,.nil⟩
theorem Zo9 {p:Addr} {x y:V} {u:U5} {a:Te} {s:Tm} (h:SqT K H p [.str u.str,x,y]) (h1:LEK K H x a) (h2:LtK K H y s):LEK K H (.ref p) (.one u a [s]):=leK_oneV.mpr ⟨p,x,[y],rfl,h,h1,.cons h2 .nil⟩
theorem Zi6 {p:Addr} {x y:V} {u:U2} {a b:Te} (h:SqT K H p [.str u.str,x,y]) (h1:LEK K H x a) (h2:LEK K H y b):LEK K H (.ref p) (.two u a b):=leK_twoV.mpr ⟨p,x,y,rfl,h,h1,h2⟩
theorem Yi8 {p:Addr} {x y:V} {s:Tm} {a:Te} (h:SqT K H p [.str "fun",x,y]) (h1:LtK K H x s) (h2:LEK K H y a):LEK K H (.ref p) (.fn s a):=leK_fnV.mpr ⟨p,x,y,rfl,h,h1,h2⟩
theorem Zq6 {p:Addr} {k:Nat} (h:SqT K H p [.str "at",.int (k:Nat)]):LEK K H (.ref p) (.at k):=leK_atV.mpr ⟨p,rfl,h⟩
theorem Xb1 {ss:List Tm} {rs:List V} (k:KeepL K H H') (h:Paired (LtK K H) rs ss):Paired (LtK K H') rs ss:=Paired.mapP h fun _ _ z=>z.keep k
theorem nw3 {p:Addr} {xs:List V} {J:Hp} (e:upd H p (.tup xs)=J):J p=some (.tup xs):=e▸Za4
end
def MadeL (K:W.Frag) (H:Hp) (ws:List Str) (p d:Nat) (r:V) (t:Tm):Prop:=LtK K H r t∧t.inW ws∧t.parts≤p∧t.deep≤d
theorem MadeL.mono {K:W.Frag} {H H':Hp} {ws:List Str} {p d p' d':Nat} {r:V} {t:Tm} (h:MadeL K H ws p d r t) (k:KeepL K H H') (hp:p≤p') (hd:d≤d'):MadeL K H' ws p' d' r t :=
 ⟨h.1.keep k,h.2.1,Nat.le_trans h.2.2.1 hp,Nat.le_trans h.2.2.2 hd⟩
section
variable {K:W.Frag} {H:Hp} {p:Addr}
theorem Ye7 (ws:List Str) (hp:H p=none):MadeL K (upd H p (.tup [.str "low"])) ws 1 1 (.ref p) .low :=
 ⟨ltK_low.mpr ⟨p,rfl,Za4⟩,trivial,Nat.le_refl _,Nat.le_refl _⟩
theorem Yu8 {ws:List Str} {w:Str} (hw:w∈ws) (hp:H p=none):MadeL K (upd H p (.tup [.str "letter",.str w])) ws 1 1 (.ref p) (.ltr w) :=
 ⟨ltK_ltr.mpr ⟨p,rfl,Za4⟩,hw,Nat.le_refl _,Nat.le_refl _⟩
theorem Ym2 {ws:List Str} {k:Kd} {x y:V} {a b:Tm} {pa da pb db:Nat} (ha:MadeL K H ws pa da x a) (hb:MadeL K H ws pb db y b) (hp:H p=none) :
  MadeL K (upd H p (.tup [.str k.str,x,y])) ws (1+pa+pb) (1+max da db) (.ref p) (.nd k a b):=by
 refine⟨ltK_nd.mpr ⟨p,x,y,rfl,Za4,ha.1.keep (Zf4 hp),hb.1.keep (Zf4 hp)⟩,⟨ha.2.1,hb.2.1⟩,?_,?_⟩
 ·show 1+a.parts+b.parts≤_
  have:=ha.2.2.1;have:=hb.2.2.1;walk_at "o"
 ·show 1+max a.deep b.deep≤_
  have:=ha.2.2.2;have:=hb.2.2.2;walk_at "o"
end
def Zo7 (K:W.Frag):Sp:=fun vs H Q _=>∃ (c:Int) (wa:Addr) (ws:List Str),vs=[.int c,.ref wa]∧SqL K H wa (ws.map V.str)∧Yb5 ws ∧
 ∀ (r:V) (H':Hp) (t:Tm),Same H H'→MadeL K H' ws 1 1 r t→Q r H'
def Zg0 (K:W.Frag) (n:Nat):Sp:=fun vs H Q _=>∃ (c size:Int) (wa:Addr) (ws:List Str),vs=[.int c,.int size,.ref wa]∧0≤c∧0≤size∧size≤39∧rk size < n∧SqL K H wa (ws.map V.str)∧Yb5 ws ∧
 ∀ (r:V) (H':Hp) (t:Tm),Same H H'→MadeL K H' ws (max 1 size.toNat) (rk size+1) r t→Q r H'
theorem Zh7 {K:W.Frag} {c n:Int} {wa:Addr} {ws:List Str} {H:Hp} {Q:VK} {E:XK} (hc:0≤c) (h0:0≤n) (h1:n≤11) (hS:SqL K H wa (ws.map V.str)) (hw:Yb5 ws)
  (q:∀ (r:V) (H':Hp) (t:Tm),Same H H'→LtK K H' r t→t.inW ws→t.parts≤max 1 n.toNat→Q r H'):Zg0 K 12 [.int c,.int n,.ref wa] H Q E:=by
 refine⟨c,n,wa,ws,rfl,hc,h0,by walk_at "o",?_,hS,hw,fun r H' t e m=>q r H' t e m.1 m.2.1 m.2.2.1⟩;unfold rk;rw[if_pos (by walk_at "o")];walk_at "o"
def Zj2 (K:W.Frag) (n:Nat):Sp:=fun vs H Q _=>∃ (v:V) (t:Te) (f:Nat) (ws:List Str),vs=[v,.int (f:Nat)]∧LEK K H v t∧t.fine ws∧t.deep≤n∧∀ (r:V) (H':Hp),Same H H'→LEK K H' r (t.mp (Zj0 1) f)→Q r H'
theorem MadeK.mono {K:W.Frag} {H H':Hp} {Γ:List Tm} {ws:List Str} {d s b d' s' b':Nat} {r:V} (h:MadeK K H Γ ws d s b r) (k:KeepL K H H') (h1:d≤d') (h2:s≤s') (h3:b≤b'):MadeK K H' Γ ws d' s' b' r:=by
 obtain⟨p,x,y,t,g,e,a1,a2,a3,ak,a4,a5,a6,a7,a8⟩:=h;exact⟨p,x,y,t,g,e,k.k _ _ a1,LEK.keep a2 k,LtK.keep a3 k,ak,a4,Nat.le_trans a5 h1,Nat.le_trans a6 h2,a7,Nat.le_trans a8 h3⟩
structure GvL (K:W.Frag) (H:Hp) (ws:List Str) (wa ga:Addr) (gs:List V) (ts:List Tm):Prop where
 w:SqL K H wa (ws.map V.str)
 wo:Yb5 ws
 g:H ga=some (.lst gs)
 p:Paired (LtK K H) gs ts
 o:∀ s∈ts,okW ws s
theorem GvL.keep {K:W.Frag} {H H':Hp} {ws:List Str} {wa ga:Addr} {gs:List V} {ts:List Tm} (h:GvL K H ws wa ga gs ts) (e:Same H H'):GvL K H' ws wa ga gs ts :=
 ⟨e.seq h.w,h.wo,e _ _ h.g,Paired.mapP h.p fun _ _ z=>LtK.keep z e.keepL,h.o⟩
theorem GvL.pT {K:W.Frag} {H:Hp} {ws:List Str} {wa ga:Addr} {gs:List V} {ts:List Tm} (h:GvL K H ws wa ga gs ts):Paired (IsT K H) gs ts:=Paired.mapP h.p fun _ _ z=>LtK.isT z
theorem Ze4 {K:W.Frag} {H:Hp} {Γ:List Tm} {p:Addr} {x y:V} {ws:List Str} {d s b:Nat} {t:Te} {g:Tm} (h:SqT K H p [x,y]) (h1:LEK K H x t) (h2:LtK K H y g) (h3:t.fine ws) (h4:t.deep≤d) (h5:t.size≤s) (h6:g.inW ws) (h7:g.parts≤b) (hk:HasK Γ t g):MadeK K H Γ ws d s b (.ref p) :=
 ⟨p,x,y,t,g,rfl,h,h1,h2,hk,h3,h4,h5,h6,h7⟩
def Zj6 (K:W.Frag):Sp:=fun vs H Q _=>∃ (c:Int) (ga wa:Addr) (ws:List Str) (gs:List V) (ts:List Tm),vs=[.int c,.ref ga,.ref wa]∧0≤c∧GvL K H ws wa ga gs ts∧ts.length≤40∧∀ (r:V) (H':Hp),Same H H'→MadeK K H' ts ws 2 2 60 r→Q r H'
def Zd9 (K:W.Frag) (lo n b:Nat):Sp:=fun vs H Q _=>∃ (c:Int) (m:Nat) (ga wa:Addr) (ws:List Str) (gs:List V) (ts:List Tm),vs=[.int c,.int (m:Nat),.ref ga,.ref wa]∧0≤c∧lo≤m∧m≤n∧m≤24∧GvL K H ws wa ga gs ts∧ts.length+m≤40 ∧
 ∀ (r:V) (H':Hp),Same H H'→MadeK K H' ts ws (dB m) (sB m) b r→Q r H'
theorem BkT.free {A:BkA} {N:NumT} {R:List Rw} {S:List Tm} {H H':Hp} (B:BkT A N R S H') (f:FrB (badT A N) H H') {l:Addr} (h:H' l=none):H l=none:=by
 cases e:H l with
 | none=>rfl
 | some o =>
  have:=f l o (B.has h) e;rw[h] at this;cases this
structure GivK (bad:List Addr) (Γ0:List Tm) (ga:Addr) (gs:List V) (H:Hp):Prop where
 l:H ga=some (.lst gs)
 p:Paired (LtV H) gs Γ0
 n:ga ∉ bad
 s:∀ s∈Γ0,s.parts≤60
theorem GivK.mono {bad:List Addr} {Γ0:List Tm} {ga:Addr} {gs:List V} {H H':Hp} (h:GivK bad Γ0 ga gs H) (e:FrB bad H H') (m:Mut bad H):GivK bad Γ0 ga gs H':=⟨e _ _ h.n h.l,Zf1 (e.tk m) h.p,h.n,h.s⟩
theorem GivK.put {bad:List Addr} {Γ0:List Tm} {ga:Addr} {gs:List V} {H:Hp} {l:Addr} {xs:List V} {o:HO} (h:GivK bad Γ0 ga gs H) (hl:H l=some (.lst xs)) (n:ga≠l):GivK bad Γ0 ga gs (upd H l o):=⟨by rw[Zb0 n];exact h.l,Zf1 (Zl3 hl) h.p,h.n,h.s⟩
noncomputable def tblD (fD:Dd→Addr):List (Str×V):=[("pair",.ref (fD .pair)),("left",.ref (fD .left)),("right",.ref (fD .right)),("first",.ref (fD .first)),("second",.ref (fD .second)),("cases",.ref (fD .cases)),("fun",.ref (fD .fn)),("use",.ref (fD .use)),("off",.ref (fD .off))]
structure ClsA (K:W.Frag) (C:Addr):Prop where
 c:Cls K C
 t:NoAttr K C "term"
 f:NoAttr K C "front"
 k:NoAttr K C "kinds"
theorem BkT.put {A:BkA} {N:NumT} {R:List Rw} {S:List Tm} {H:Hp} {l:Addr} {xs:List V} {o:HO} (B:BkT A N R S H) (h:H l=some (.lst xs)) (n:l ∉ badT A N):BkT A N R S (upd H l o):=⟨B.b.put h (fun z=>n (.tail _ z)),TabOk.put h (fun _ z=>nomatch z) (fun _ z=>nomatch z) B.t⟩
structure LpF (A:BkA) (N:NumT) (H0:Hp) (lw ga:Addr):Prop where
 a1:H0 A.lr=none
 a2:H0 A.ls=none
 a3:H0 A.dn=none
 w:H0 lw=none
 nw:lw ∉ badT A N
 ng:ga≠lw
theorem LpF.step {A:BkA} {N:NumT} {H0 H H':Hp} {lw ga:Addr} (F:LpF A N H0 lw ga) (e:FrB [N.T] H0 H) (f:FrB (badT A N) H H'):FrB [N.T] H0 H':=fun a o n h=>f a o (fun z=>by
 rcases List.mem_cons.mp z with rfl | z
 ·exact n (.head _)
 simp only[List.mem_cons,List.not_mem_nil,or_false] at z;rcases z with rfl | rfl | rfl
 ·rw[F.a1] at h;cases h
 ·rw[F.a2] at h;cases h
 ·rw[F.a3] at h;cases h) (e a o n h)
theorem FrB.putN {bad:List Addr} {H0 H:Hp} {l:Addr} {o:HO} (e:FrB bad H0 H) (h:H0 l=none):FrB bad H0 (upd H l o):=e.write h
theorem Xy6 {A:BkA} {N:NumT} {H:Hp} (h1:H A.b=some (.ins A.C A.dx [("rows",.ref A.lr),("statements",.ref A.ls),("numbers",.ref A.dn)])) (h2:H A.lr=some (.lst [])) (h3:H A.ls=some (.lst [])) (h4:H A.dn=some (.dT [])) (ne:A.lr≠A.ls) (t:TabOk H N.T N.ds):BkT A N [] [] H :=
 ⟨⟨h1,⟨[],h2,.nil⟩,⟨[],h3,.nil⟩,⟨[],h4,rfl,(fun i r e=>nomatch e),fun r n _ _=>rfl⟩,⟨rfl,(fun i r t e=>nomatch e),List.nodup_nil⟩,(fun r h=>nomatch h),ne⟩,t⟩
def RaiseK (C:Addr) (A:BkA) (N:NumT) (H:Hp) (E:XK):Prop:=∀ (R:List Rw) (S:List Tm) (H1:Hp) (e:Addr) (H':Hp),FrB (badT A N) H H1→BkT A N R S H1→Xtd H1 e (.ref C) none H'→E (.ref e) none H'
theorem RaiseK.here {C:Addr} {A:BkA} {N:NumT} {H:Hp} {E:XK} {R:List Rw} {S:List Tm} (h:RaiseK C A N H E) (B:BkT A N R S H) {e:Addr} {H':Hp} (x:Xtd H e (.ref C) none H'):E (.ref e) none H':=h R S H e H' (fun _ _ _ z=>z) B x
def Zn2 (C:Addr) (A:BkA):Sp:=fun vs H Q E=>∃ (R:List Rw) (S:List Tm) (k:Nat) (nm:Str) (t:Tm),vs=[.ref A.b,nI k,.str nm]∧nm.length≤10∧BkH A R S H∧S[k]?=some t ∧
 (t.tagS=nm→∀ (u:V),(∀ kk a b,t=.nd kk a b→∃ i j p,u=.ref p∧H p=some (.tup [.str kk.str,nI i,nI j])∧S[i]?=some a∧S[j]?=some b)→Q u H)∧(t.tagS≠nm→∀ e H',Xtd H e (.ref C) none H'→E (.ref e) none H')
inductive DZ:Tz→Dd→Prop
 | pair (a b:Tz):DZ (.two .pair a b) .pair
 | left (a:Tz) (ss:List Tm):DZ (.one .left a ss) .left
 | right (a:Tz) (ss:List Tm):DZ (.one .right a ss) .right
 | first (a:Tz) (ss:List Tm):DZ (.one .first a ss) .first
 | second (a:Tz) (ss:List Tm):DZ (.one .second a ss) .second
 | cases (a b c:Tz):DZ (.cs a b c) .cases
 | fn (s:Tm) (a:Tz):DZ (.fn s a) .fn
 | use (a b:Tz):DZ (.two .use a b) .use
 | off (a:Tz) (ss:List Tm):DZ (.one .off a ss) .off
theorem Zk1 {t:Tz} {d:Dd} (h:t.tag=d.str):DZ t d:=by
 have go:∀ {e:Dd},t.tag=e.str→DZ t e→DZ t d:=fun {e} h' v=>Dd.str_inj (h'.symm.trans h)▸v
 match t with
 | .at _=>exact absurd (show ("at":Str)=d.str from h) (by cases d<;>decide)
 | .one .left a ss=>exact go rfl (.left ..)
 | .one .right a ss=>exact go rfl (.right ..)
 | .one .first a ss=>exact go rfl (.first ..)
 | .one .second a ss=>exact go rfl (.second ..)
 | .one .off a ss=>exact go rfl (.off ..)
 | .two .pair a b=>exact go rfl (.pair ..)
 | .two .use a b=>exact go rfl (.use ..)
 | .fn s a=>exact go rfl (.fn ..)
 | .cs a b c=>exact go rfl (.cases ..)
def CsOk (t:Tz) (gs:List Tm):Prop:=∀ a b c,t=.cs a b c→∃ h k r,gs=.nd .one h k :: r
def Zg3 (K:W.Frag) (C:Addr) (A:BkA) (N:NumT) (d:Dd):Sp:=fun vs H Q E=>∃ (v:V) (lk:Addr) (t:Tz) (ws:List Str) (ks:List Nat) (gs:List Tm) (R:List Rw) (S:List Tm),vs=[.ref A.b,v,.ref lk]∧t.tag=d.str∧BkT A N R S H∧LZ K t H v∧H lk=some (.lst (ks.map nI))∧lk ∉ badT A N ∧
 Paired (NumS S) ks gs∧gs.length=t.kids.length∧CsOk t gs∧t.fine ws∧R.length≤80000∧(∀ g,kdBy t gs=some g→ToldK A N R S H 100 g Q)∧(kdBy t gs=none→RaiseK C A N H E)
theorem Yy9 {a:Tz} {ss:List Tm} {g:Tm} (h:¬ g.tagS="both"):kdBy (.one .left a ss) [g]=none:=by
 match g,h with
 | .low,_=>rfl
 | .ltr _,_=>rfl
 | .nd .both _ _,h=>exact absurd rfl h
 | .nd .one _ _,_=>rfl
 | .nd .thn _ _,_=>rfl
theorem Yn5 {a:Tz} {ss:List Tm} {g:Tm} (h:¬ g.tagS="both"):kdBy (.one .right a ss) [g]=none:=by
 match g,h with
 | .low,_=>rfl
 | .ltr _,_=>rfl
 | .nd .both _ _,h=>exact absurd rfl h
 | .nd .one _ _,_=>rfl
 | .nd .thn _ _,_=>rfl
theorem Xy4 {a:Tz} {s:Tm} {g:Tm} (h:¬ g.tagS="low"):kdBy (.one .off a [s]) [g]=none:=by
 match g,h with
 | .low,h=>exact absurd rfl h
 | .ltr _,_=>rfl
 | .nd _ _ _,_=>rfl
theorem Xg6 {a b:Tz} {g k:Tm} (h:¬ g.tagS="then"):kdBy (.two .use a b) [g,k]=none:=by
 match g,h with
 | .low,_=>rfl
 | .ltr _,_=>rfl
 | .nd .both _ _,_=>rfl
 | .nd .one _ _,_=>rfl
 | .nd .thn _ _,h=>exact absurd rfl h
theorem CsOk.of {Γ:List Tm} {t:Tz} {gs:List Tm} (h:KidsZ Γ t gs) (hl:gs.length=t.kids.length):CsOk t gs:=by
 intro a b c e;subst e
 match gs,hl with
 | [x,y,z],_ =>
  obtain⟨kid,m,cx,_,e,_⟩:=h 1 y rfl
  match x,e with
  | .nd .one h k,_=>exact⟨h,k,_,rfl⟩
theorem Wb3 {a b c:Tz} {h k g g':Tm} (n:¬ g=g'):kdBy (.cs a b c) [.nd .one h k,g,g']=none:=if_neg n
theorem Yy8 {a b:Tz} {h g k:Tm} (n:¬ h=k):kdBy (.two .use a b) [.nd .thn h g,k]=none:=if_neg n
theorem nI_inj {i j:Nat}:nI i=nI j↔i=j:=⟨fun h=>by injection h with h;exact Int.ofNat.inj h,fun h=>h▸rfl⟩
structure FrmZ where
 a:Addr
 dx:Addr
 la:Addr
 lk:Addr
 v:V
 t:Tz
 fs:List Nat
 Γ:List Tm
 ks:List Nat
 gs:List Tm
structure FrmZOk (K:W.Frag) (C:Addr) (bad:List Addr) (Γ0:List Tm) (ws:List Str) (S:List Tm) (H:Hp) (f:FrmZ):Prop where
 ins:H f.a=some (.ins C f.dx [("term",f.v),("front",.ref f.la),("kinds",.ref f.lk)])
 tm:LZ K f.t H f.v
 fr:H f.la=some (.lst (f.fs.map nI))
 fS:Paired (NumS S) f.fs f.Γ
 kd:H f.lk=some (.lst (f.ks.map nI))
 kS:Paired (NumS S) f.ks f.gs
 kk:KidsZ (f.Γ++Γ0) f.t f.gs
 fine:f.t.fine ws
 na:f.a ∉ bad
 nl:f.la ∉ bad
 nk:f.lk ∉ bad
theorem FrmZOk.mono {K:W.Frag} {C:Addr} {bad:List Addr} {Γ0:List Tm} {ws:List Str} {S S':List Tm} {H H':Hp} {f:FrmZ} (h:FrmZOk K C bad Γ0 ws S H f) (e:FrB bad H H') (m:Mut bad H) (p:S <+: S'):FrmZOk K C bad Γ0 ws S' H' f :=
 ⟨e _ _ h.na h.ins,LZ.keepT (e.tk m) (e.keepT m) h.tm,e _ _ h.nl h.fr,Zu1 p h.fS,e _ _ h.nk h.kd,Zu1 p h.kS,h.kk,h.fine,h.na,h.nl,h.nk⟩
theorem FrmZOk.put {K:W.Frag} {C:Addr} {bad:List Addr} {Γ0:List Tm} {ws:List Str} {S:List Tm} {H:Hp} {f:FrmZ} {l:Addr} {xs:List V} {o:HO} (h:FrmZOk K C bad Γ0 ws S H f) (hl:H l=some (.lst xs)) (n1:f.la≠l) (n2:f.lk≠l):FrmZOk K C bad Γ0 ws S (upd H l o) f :=
 ⟨by rw[Zb0 (fun z=>by have:=h.ins;rw[z,hl] at this;cases this)];exact h.ins,LZ.keepT (Zl3 hl) (Zj4 hl) h.tm,by rw[Zb0 n1];exact h.fr,h.fS,by rw[Zb0 n2];exact h.kd,h.kS,h.kk,h.fine,h.na,h.nl,h.nk⟩
theorem FrmZOk.told {K:W.Frag} {C:Addr} {bad:List Addr} {Γ0:List Tm} {ws:List Str} {S:List Tm} {H:Hp} {f:FrmZ} {k:Nat} {g:Tm} (h:FrmZOk K C bad Γ0 ws S H f) (n1:f.la≠f.lk) (hk:S[k]?=some g) (kk:KidsZ (f.Γ++Γ0) f.t (f.gs++[g])) :
  FrmZOk K C bad Γ0 ws S (upd H f.lk (.lst (f.ks.map nI++[nI k]))) { f with ks:=f.ks++[k],gs:=f.gs++[g] }:=by
 have hl:=h.kd;exact⟨by rw[Zb0 (fun z=>by have:=h.ins;rw[z,hl] at this;cases this)];exact h.ins,LZ.keepT (Zl3 hl) (Zj4 hl) h.tm,by rw[Zb0 n1];exact h.fr,h.fS,by rw[Za4,List.map_append];rfl,Zj9 h.kS (.cons hk .nil),kk,h.fine,h.na,h.nl,h.nk⟩
theorem Zu3 {K:W.Frag} {H:Hp} {t:Tz} {v:V} (h:LZ K t H v):∃ p xs,v=.ref p∧SqT K H p xs∧atI xs 0=some (.str t.tag):=by
 cases t with
 | «at» k=>obtain⟨p,e,hs⟩:=h;exact⟨p,_,e,hs,rfl⟩
 | one u a ss=>obtain⟨p,x,rs,e,hs,_⟩:=h;exact⟨p,_,e,hs,Zd0 (j:=0) rfl⟩
 | two u a b=>obtain⟨p,x,y,e,hs,_⟩:=h;exact⟨p,_,e,hs,rfl⟩
 | fn s a=>obtain⟨p,x,y,e,hs,_⟩:=h;exact⟨p,_,e,hs,rfl⟩
 | cs a b c=>obtain⟨p,x,y,z,e,hs,_⟩:=h;exact⟨p,_,e,hs,rfl⟩
theorem Xf9 {K:W.Frag} {H:Hp} {t:Tz} {v:V} (h:LZ K t H v) {i:Nat} {kid:Tz} {m:Nat} (e:t.kids[i]?=some (kid,m)):∃ q xs p x,v=.ref q∧SqT K H q xs∧t.inn[i]?=some (p,m)∧atI xs ((p:Nat):Int)=some x∧LZ K kid H x:=by
 cases t with
 | «at» k=>cases e
 | one u a ss =>
  obtain⟨p,x,rs,e0,hs,hx,_⟩:=h
  match i,e with
  | 0,e=>cases e;exact⟨p,_,1,x,e0,hs,rfl,Zd0 (j:=1) rfl,hx⟩
 | two u a b =>
  obtain⟨p,x,y,e0,hs,hx,hy⟩:=h
  match i,e with
  | 0,e=>cases e;exact⟨p,_,1,x,e0,hs,rfl,rfl,hx⟩
  | 1,e=>cases e;exact⟨p,_,2,y,e0,hs,rfl,rfl,hy⟩
 | fn s a =>
  obtain⟨p,x,y,e0,hs,hx,hy⟩:=h
  match i,e with
  | 0,e=>cases e;exact⟨p,_,2,y,e0,hs,rfl,rfl,hy⟩
 | cs a b c =>
  obtain⟨p,x,y,z,e0,hs,hx,hy,hz⟩:=h
  match i,e with
  | 0,e=>cases e;exact⟨p,_,1,x,e0,hs,rfl,rfl,hx⟩
  | 1,e=>cases e;exact⟨p,_,2,y,e0,hs,rfl,rfl,hy⟩
  | 2,e=>cases e;exact⟨p,_,3,z,e0,hs,rfl,rfl,hz⟩
theorem Xa5 (fD:Dd→Addr) {t:Tz} (h:∀ k,t≠.at k):∃ d,t.tag=d.str∧(tblD fD).lookup t.tag=some (.ref (fD d)):=by
 cases t with
 | «at» k=>exact absurd rfl (h k)
 | one u a ss=>cases u<;>exact⟨_,rfl,rfl⟩
 | two u a b=>cases u<;>exact⟨_,rfl,rfl⟩
 | fn s a=>exact⟨_,rfl,rfl⟩
 | cs a b c=>exact⟨_,rfl,rfl⟩
theorem Yv9 {K:W.Frag} {aT:Nat→Addr} (h:Inn K aT) (t:Tz):∃ a,(innV aT).lookup t.tag=some (.ref a)∧innRow K a t.inn:=by
 cases t with
 | «at» k=>exact Yf7 h (.at 0)
 | one u a ss=>exact Yf7 h (.one u (.at 0) ss)
 | two u a b=>exact Yf7 h (.two u (.at 0) (.at 0))
 | fn s a=>exact Yf7 h (.fn s (.at 0))
 | cs a b c=>exact Yf7 h (.cs (.at 0) (.at 0) (.at 0))
theorem Zx8 {t:Tz} (h:t.tag="at"):∃ i,t=.at i:=by
 cases t with
 | «at» i=>exact⟨i,rfl⟩
 | one u a ss=>have h:u.str="at":=h;cases u<;>exact absurd h (by decide)
 | two u a b=>have h:u.str="at":=h;cases u<;>exact absurd h (by decide)
 | fn s a=>exact absurd (show ("fun":Str)="at" from h) (by decide)
 | cs a b c=>exact absurd (show ("cases":Str)="at" from h) (by decide)
theorem Xj9 {ws:List Str} {t:Tz} (h:t.fine ws) {i:Nat} {kid:Tz} {m:Nat} (e:t.kids[i]?=some (kid,m)):kid.fine ws∧kid.size < t.size:=by
 cases t with
 | «at» k=>cases e
 | one u a ss =>
  match i,e with
  | 0,e=>cases e;exact⟨h.1,by show kid.size < 1+kid.size;walk_at "o"⟩
 | two u a b =>
  match i,e with
  | 0,e=>cases e;exact⟨h.1,by show kid.size < 1+kid.size+b.size;walk_at "o"⟩
  | 1,e=>cases e;exact⟨h.2,by show kid.size < 1+a.size+kid.size;walk_at "o"⟩
 | fn s a =>
  match i,e with
  | 0,e=>cases e;exact⟨h.2,by show kid.size < 1+kid.size;walk_at "o"⟩
 | cs a b c =>
  match i,e with
  | 0,e=>cases e;exact⟨h.1,by show kid.size < 1+kid.size+b.size+c.size;walk_at "o"⟩
  | 1,e=>cases e;exact⟨h.2.1,by show kid.size < 1+a.size+kid.size+c.size;walk_at "o"⟩
  | 2,e=>cases e;exact⟨h.2.2,by show kid.size < 1+a.size+b.size+kid.size;walk_at "o"⟩
theorem Wb1 {t:Tz} {gs cx:List Tm} (h:cxBy t gs=some cx):cx.length≤1:=by
 unfold cxBy at h
 split at h<;>cases h<;>exact Nat.le_of_ble_eq_true rfl
theorem Xl9 {t:Tz} {gs:List Tm} {kid:Tz} {m:Nat} (e:t.kids[gs.length]?=some (kid,m)):(m=0∧cxBy t gs=some [])∨(m=1∧((∃ s,cxBy t gs=some [s])∨cxBy t gs=none)):=by
 cases t with
 | «at» k=>cases e
 | one u a ss=>match gs,e with | [],e=>cases e;exact .inl ⟨rfl,rfl⟩
 | two u a b=>match gs,e with | [],e=>cases e;exact .inl ⟨rfl,rfl⟩ | [_],e=>cases e;exact .inl ⟨rfl,rfl⟩
 | fn s a=>match gs,e with | [],e=>cases e;exact .inr ⟨rfl,.inl ⟨s,rfl⟩⟩
 | cs a b c =>
  match gs,e with
  | [],e=>cases e;exact .inl ⟨rfl,rfl⟩
  | [x],e =>
   cases e;refine .inr ⟨rfl,?_⟩
   match x with
   | .low=>exact .inr rfl
   | .ltr _=>exact .inr rfl
   | .nd .both _ _=>exact .inr rfl
   | .nd .thn _ _=>exact .inr rfl
   | .nd .one h k=>exact .inl ⟨h,rfl⟩
  | [x,y],e =>
   cases e;refine .inr ⟨rfl,?_⟩
   match x with
   | .low=>exact .inr rfl
   | .ltr _=>exact .inr rfl
   | .nd .both _ _=>exact .inr rfl
   | .nd .thn _ _=>exact .inr rfl
   | .nd .one h k=>exact .inl ⟨k,rfl⟩
theorem Yl0 {N:NumT} {H0 H:Hp} (e1:FrB [N.T] H0 H) (t0:TabOk H0 N.T N.ds) (t:TabOk H N.T N.ds):SameV [N.T] H0 H:=by
 obtain⟨ps,t1,_⟩:=t0;obtain⟨ps',t2,_⟩:=t;refine⟨fun b o n e=>e1 b o (fun z=>?_) e,fun b o n e=>e1 b o n e,fun b o e=>?_⟩
 ·rw[List.mem_singleton.mp z,t1] at e
  exact n _ (Option.some.inj e).symm
 ·by_cases z:b=N.T
  ·exact⟨_,by rw[z];exact t2⟩
  ·exact⟨o,e1 b o (fun y=>z (List.mem_singleton.mp y)) e⟩
def Yk8 (K:W.Frag) (C CN:Addr) (A:BkA) (N:NumT):Sp:=fun vs H Q E=>∃ (f:FrmZ) (ga:Addr) (gs:List V) (Γ0:List Tm) (ws:List Str) (i:Int) (R:List Rw) (S:List Tm),vs=[.ref A.b,.ref f.a,.ref ga]∧f.t=.at i∧BkT A N R S H∧FrmZOk K C (badT A N) Γ0 ws S H f∧GivK (badT A N) Γ0 ga gs H∧f.fs.length+gs.length≤10000∧R.length≤80000∧(∀ g,kd (f.Γ++Γ0) f.t=some g→ToldK A N R S H 100 g Q)∧(kd (f.Γ++Γ0) f.t=none→RaiseK CN A N H E)
def Zq2 (K:W.Frag) (C CN:Addr) (A:BkA) (N:NumT):Sp:=fun vs H Q E=>∃ (f:FrmZ) (ga:Addr) (gs:List V) (Γ0:List Tm) (ws:List Str) (R:List Rw) (S:List Tm),vs=[.ref A.b,.ref f.a,.ref ga]∧f.gs.length=f.t.kids.length∧BkT A N R S H∧FrmZOk K C (badT A N) Γ0 ws S H f∧GivK (badT A N) Γ0 ga gs H∧f.fs.length+gs.length≤10000∧R.length≤80000∧(∀ g,kd (f.Γ++Γ0) f.t=some g→ToldK A N R S H 100 g Q)∧(kd (f.Γ++Γ0) f.t=none→RaiseK CN A N H E)
def Yc8 (K:W.Frag) (C CN:Addr) (A:BkA) (N:NumT):Sp:=fun vs H Q E=>∃ (f:FrmZ) (Γ0:List Tm) (ws:List Str) (R:List Rw) (S:List Tm) (kid:Tz),vs=[.ref A.b,.ref f.a]∧f.t.kids[f.gs.length]?=some (kid,1)∧BkT A N R S H∧FrmZOk K C (badT A N) Γ0 ws S H f∧R.length≤80000∧(∀ s,cxBy f.t f.gs=some [s]→ToldK A N R S H 60 s Q)∧(cxBy f.t f.gs=none→RaiseK CN A N H E)
def Zy0 (K:W.Frag) (C CN:Addr) (A:BkA) (N:NumT):Sp:=fun vs H Q E=>∃ (f:FrmZ) (Γ0:List Tm) (ws:List Str) (R:List Rw) (S:List Tm) (kid:Tz) (m:Nat),vs=[.ref A.b,.ref f.a]∧f.t.kids[f.gs.length]?=some (kid,m)∧BkT A N R S H∧FrmZOk K C (badT A N) Γ0 ws S H f∧R.length≤80000∧f.fs.length≤9000∧(cxBy f.t f.gs=none→RaiseK CN A N H E) ∧
 ∀ (n:FrmZ) (cx:List Tm) (H':Hp) (R':List Rw) (S':List Tm),cxBy f.t f.gs=some cx→FrB (badT A N) H H'→BkT A N R' S' H'→R <+: R'→S <+: S'→R'.length≤R.length+60→FrmZOk K C (badT A N) Γ0 ws S' H' n→n.t=kid→n.gs=[]→n.Γ=cx++f.Γ→H n.lk=none→(n.la=f.la∨H n.la=none)→n.la≠n.lk→Q (.ref n.a) H'
noncomputable def Xw5 (l:List (Tz×Nat)):Nat:=(l.map fun p=>2*p.1.size).sum
noncomputable def remZ (t:Tz) (i:Nat):Nat:=Xw5 (t.kids.drop i)
theorem Yt0 {t kid:Tz} {i m:Nat} (h:t.kids[i]?=some (kid,m)):remZ t i=2*kid.size+remZ t (i+1):=by
 obtain⟨hi,e⟩:=List.getElem?_eq_some_iff.mp h;unfold remZ;rw[List.drop_eq_getElem_cons hi,e];rfl
theorem Yd0 (t:Tz):remZ t 0+2=2*t.size:=by
 cases t with
 | «at» k=>rfl
 | one u a ss=>show 2*a.size+0+2=2*(1+a.size);walk_at "o"
 | two u a b=>show 2*a.size+(2*b.size+0)+2=2*(1+a.size+b.size);walk_at "o"
 | fn s a=>show 2*a.size+0+2=2*(1+a.size);walk_at "o"
 | cs a b c=>show 2*a.size+(2*b.size+(2*c.size+0))+2=2*(1+a.size+b.size+c.size);walk_at "o"
noncomputable def Zw0:List FrmZ→Nat
 | []=>0
 | f :: fs=>1+remZ f.t (f.gs.length+1)+Zw0 fs
noncomputable def Zp7:List FrmZ→Nat
 | []=>0
 | f :: fs=>1+remZ f.t f.gs.length+Zw0 fs
def lnkZ (t0:Tz) (f:FrmZ):List FrmZ→Prop
 | []=>f.Γ=[]∧f.t=t0
 | p :: _=>∃ m cx,p.t.kids[p.gs.length]?=some (f.t,m)∧cxBy p.t p.gs=some cx∧f.Γ=cx++p.Γ
def StkZ (P:FrmZ→Prop) (t0:Tz):List FrmZ→Prop
 | []=>True
 | f :: fs=>P f∧(∀ q∈fs,q.lk≠f.lk∧q.lk≠f.la∧q.la≠f.lk)∧lnkZ t0 f fs∧StkZ P t0 fs
theorem StkZ.map {P P':FrmZ→Prop} {t0:Tz}:∀ {fs:List FrmZ},StkZ P t0 fs→(∀ f∈fs,P f→P' f)→StkZ P' t0 fs
 | [],_,_=>trivial
 | f :: fs,⟨h1,h2,h3,h4⟩,m=>⟨m f (.head _) h1,h2,h3,h4.map fun q hq=>m q (.tail _ hq)⟩
theorem StkZ.all {P:FrmZ→Prop} {t0:Tz}:∀ {fs:List FrmZ},StkZ P t0 fs→∀ f∈fs,P f
 | [],_,_,h=>nomatch h
 | f :: fs,⟨h1,h2,h3,h4⟩,q,h=>by
  rcases List.mem_cons.mp h with rfl | h
  ·exact h1
  ·exact h4.all q h
theorem StkZ.ctx {P:FrmZ→Prop} {t0:Tz}:∀ {fs:List FrmZ} {f:FrmZ},StkZ P t0 (f :: fs)→f.Γ.length≤fs.length
 | [],f,⟨_,_,h,_⟩=>by rw[h.1];exact Nat.le_refl _
 | p :: fs,f,⟨_,_,h,h4⟩=>by
  obtain⟨_,cx,_,hc,e⟩:=h;have:=h4.ctx;have:=Wb1 hc;rw[e,List.length_append,List.length_cons];walk_at "o"
theorem StkZ.dead {P:FrmZ→Prop} {t0:Tz} {Γ0:List Tm} (hP:∀ q,P q→KidsZ (q.Γ++Γ0) q.t q.gs):∀ {fs:List FrmZ} {f:FrmZ},StkZ P t0 (f :: fs)→kd (f.Γ++Γ0) f.t=none→kd Γ0 t0=none
 | [],f,⟨_,_,h,_⟩,e=>by rw[h.1,h.2] at e;exact e
 | p :: fs,f,⟨_,_,h,h4⟩,e=>by
  obtain⟨m,cx,ek,hc,eΓ⟩:=h;rw[eΓ,List.append_assoc] at e;exact h4.dead hP (Xx0 (hP p h4.1) ek hc e)
structure FrLZ (K:W.Frag) (C:Addr) (bad:List Addr) (Γ0:List Tm) (ws:List Str) (H0:Hp) (lw ga:Addr) (S:List Tm) (H:Hp) (f:FrmZ):Prop where
 ok:FrmZOk K C bad Γ0 ws S H f
 n1:f.la≠lw
 n2:f.lk≠lw
 n3:f.la≠f.lk
 n4:ga≠f.lk
 fresh:H0 f.lk=none
noncomputable abbrev Zi7 (fs:List FrmZ):List V:=(fs.map fun f=>V.ref f.a).reverse
theorem Zg8 (f:FrmZ) (fs:List FrmZ):Zi7 (f :: fs)=Zi7 fs++[.ref f.a]:=by unfold Zi7;rw[List.map_cons,List.reverse_cons]
def Zy3 (K:W.Frag) (CN:Addr) (N:NumT):Sp:=fun vs H Q E=>∃ (v:V) (t:Tz) (ga:Addr) (gs:List V) (Γ0:List Tm) (ws:List Str),vs=[v,.ref ga]∧LZ K t H v∧t.fine ws∧t.size≤300∧H ga=some (.lst gs)∧Paired (LtV H) gs Γ0∧(∀ s∈Γ0,s.parts≤60)∧gs.length≤900∧TabOk H N.T N.ds ∧
 (∀ (g:Tm) (r:V) (H':Hp),kd Γ0 t=some g→SameV [N.T] H H'→TabOk H' N.T N.ds→LtV H' r g→Q r H') ∧
 (kd Γ0 t=none→∀ (e:Addr) (H1 H':Hp),SameV [N.T] H H1→TabOk H1 N.T N.ds→Xtd H1 e (.ref CN) none H'→E (.ref e) none H')
structure LpZ (K:W.Frag) (C:Addr) (A:BkA) (N:NumT) (Γ0:List Tm) (ws:List Str) (t0:Tz) (H0:Hp) (lw ga:Addr) (gs:List V) (R:List Rw) (S:List Tm) (fs:List FrmZ) (H:Hp):Prop where
 e:FrB [N.T] H0 H
 b:BkT A N R S H
 w:H lw=some (.lst (Zi7 fs))
 st:StkZ (FrLZ K C (badT A N) Γ0 ws H0 lw ga S H) t0 fs
 g:GivK (badT A N) Γ0 ga gs H
 r:R.length+100*Zp7 fs≤80000
 l:fs.length+Zp7 fs≤1000
theorem LpZ.push {K:W.Frag} {C:Addr} {A:BkA} {N:NumT} {Γ0:List Tm} {ws:List Str} {t0:Tz} {H0 H H':Hp} {lw ga:Addr} {gs:List V} {R R':List Rw} {S S':List Tm} {f n:FrmZ} {fs:List FrmZ} {kid:Tz} {m:Nat} (F:LpF A N H0 lw ga) (L:LpZ K C A N Γ0 ws t0 H0 lw ga gs R S (f :: fs) H) (ek:f.t.kids[f.gs.length]?=some (kid,m))
  (fb:FrB (badT A N) H H') (B':BkT A N R' S' H') (p2:S <+: S') (rl:R'.length≤R.length+60) (ok:FrmZOk K C (badT A N) Γ0 ws S' H' n) (nt:n.t=kid) (ng:n.gs=[]) {cx:List Tm} (hc:cxBy f.t f.gs=some cx) (nΓ:n.Γ=cx++f.Γ) (fl:H n.lk=none) (al:n.la=f.la∨H n.la=none) (ne:n.la≠n.lk) :
  LpZ K C A N Γ0 ws t0 H0 lw ga gs R' S' (n :: f :: fs) (upd H' lw (.lst (Zi7 (f :: fs)++[.ref n.a])))∧Zp7 (n :: f :: fs) < Zp7 (f :: fs)∧H' lw=some (.lst (Zi7 (f :: fs))):=by
 have hw:H' lw=some (.lst (Zi7 (f :: fs))):=fb _ _ F.nw L.w;have e1:=Yt0 ek;have e2:=Yd0 kid
 have ew:Zp7 (n :: f :: fs)+1=Zp7 (f :: fs):=by
  show 1+remZ n.t n.gs.length+(1+remZ f.t (f.gs.length+1)+Zw0 fs)+1=1+remZ f.t f.gs.length+Zw0 fs;rw[nt,ng,e1];show 1+remZ kid 0+_+1=_;walk_at "o"
 have fr0:H0 n.lk=none:=by
  cases e:H0 n.lk with
  | none=>rfl
  | some o =>
   have:=L.e n.lk o (fun z=>?_) e
   ·rw[fl] at this;cases this
   ·obtain⟨ps,h1,_⟩:=L.b.t
    rw[List.mem_singleton.mp z,h1] at fl;cases fl
 have all:=L.st.all;have hf:=all f (.head _)
 have nlw:n.lk≠lw:=fun z=>by rw[z,L.w] at fl;cases fl
 have alw:n.la≠lw:=by
  rcases al with al | al
  ·rw[al];exact hf.n1
  ·exact fun z=>by rw[z,L.w] at al;cases al
 have st':StkZ (FrLZ K C (badT A N) Γ0 ws H0 lw ga S' (upd H' lw (.lst (Zi7 (f :: fs)++[.ref n.a])))) t0 (f :: fs):=L.st.map fun q hq z=>⟨(z.ok.mono fb L.b.mut p2).put hw z.n1 z.n2,z.n1,z.n2,z.n3,z.n4,z.fresh⟩;have r0:=L.r;have l0:=L.l;refine⟨⟨(F.step L.e fb).putN F.w,B'.put hw F.nw,by rw[Za4,Zg8 n],⟨⟨ok.put hw alw nlw,alw,nlw,ne,fun z=>?_,fr0⟩,fun q hq=>⟨fun z=>?_,fun z=>?_,fun z=>?_⟩,⟨m,cx,by rw[nt];exact ek,hc,nΓ⟩,st'⟩,(L.g.mono fb L.b.mut).put hw F.ng,by walk_at "o",by rw[List.length_cons];walk_at "o"⟩,by walk_at "o",hw⟩
 ·have:=L.g.l
  rw[z,fl] at this;cases this
 ·have:=(all q hq).ok.kd
  rw[z,fl] at this;cases this
 ·rcases al with al | al
  ·rcases List.mem_cons.mp hq with rfl | hq
   ·exact hf.n3 (al▸z.symm)
   ·exact (L.st.2.1 q hq).2.1 (al▸z)
  ·have:=(all q hq).ok.kd
   rw[z,al] at this;cases this
 ·have:=(all q hq).ok.fr
  rw[z,fl] at this;cases this
theorem LpZ.pop {K:W.Frag} {C:Addr} {A:BkA} {N:NumT} {Γ0:List Tm} {ws:List Str} {t0:Tz} {H0 H H':Hp} {lw ga:Addr} {gs:List V} {R R':List Rw} {S S':List Tm} {f p:FrmZ} {fs:List FrmZ} {k:Nat} (F:LpF A N H0 lw ga) (L:LpZ K C A N Γ0 ws t0 H0 lw ga gs R S (f :: p :: fs) H) (el:f.gs.length=f.t.kids.length)
  (fb:FrB (badT A N) H H') (B':BkT A N R' S' H') (p2:S <+: S') (rl:R'.length≤R.length+100) {g:Tm} (hg:kd (f.Γ++Γ0) f.t=some g) (hk:S'[k]?=some g) :
  H' lw=some (.lst (Zi7 (p :: fs)++[.ref f.a]))∧FrmZOk K C (badT A N) Γ0 ws S' (upd H' lw (.lst (Zi7 (p :: fs)))) p∧p.ks.length≤3 ∧
  LpZ K C A N Γ0 ws t0 H0 lw ga gs R' S' ({ p with ks:=p.ks++[k],gs:=p.gs++[g] } :: fs) (upd (upd H' lw (.lst (Zi7 (p :: fs)))) p.lk (.lst (p.ks.map nI++[nI k])))∧Zp7 ({ p with ks:=p.ks++[k],gs:=p.gs++[g] } :: fs) < Zp7 (f :: p :: fs):=by
 have hw:H' lw=some (.lst (Zi7 (p :: fs)++[.ref f.a])):=by rw[← Zg8];exact fb _ _ F.nw L.w
 obtain⟨hf,_,⟨m,cx,ek,hc,eΓ⟩,hp,sep,hl,st⟩:=L.st;have h1:∀ {q:FrmZ},FrLZ K C (badT A N) Γ0 ws H0 lw ga S H q→FrLZ K C (badT A N) Γ0 ws H0 lw ga S' (upd H' lw (.lst (Zi7 (p :: fs)))) q:=fun {q} z=>⟨(z.ok.mono fb L.b.mut p2).put hw z.n1 z.n2,z.n1,z.n2,z.n3,z.n4,z.fresh⟩;have hp1:=h1 hp;have B1:=B'.put (o:=.lst (Zi7 (p :: fs))) hw F.nw;have g1:=(L.g.mono fb L.b.mut).put (o:=.lst (Zi7 (p :: fs))) hw F.ng;have w1:upd H' lw (.lst (Zi7 (p :: fs))) lw=some (.lst (Zi7 (p :: fs))):=Za4;have e1:FrB [N.T] H0 (upd H' lw (.lst (Zi7 (p :: fs)))):=(F.step L.e fb).putN F.w;generalize upd H' lw (.lst (Zi7 (p :: fs)))=H1 at *
 have ew:Zp7 ({ p with ks:=p.ks++[k],gs:=p.gs++[g] } :: fs)+1≤Zp7 (f :: p :: fs):=by
  show 1+remZ p.t (p.gs++[g]).length+Zw0 fs+1≤1+remZ f.t f.gs.length+(1+remZ p.t (p.gs.length+1)+Zw0 fs);rw[List.length_append,List.length_singleton];walk_at "o"
 have r0:=L.r;have l0:=L.l
 have kl:p.ks.length≤3:=by
  have h1:=(List.getElem?_eq_some_iff.mp ek).1
  have h2:p.t.kids.length≤3:=by cases p.t<;>exact Nat.le_of_ble_eq_true rfl
  rw[Paired.length hp.ok.kS];walk_at "o"
 refine⟨hw,hp1.ok,kl,⟨e1.putN hp.fresh,B1.put hp1.ok.kd hp1.ok.nk,by rw[Zb0 hp1.n2.symm,w1];rfl,⟨⟨hp1.ok.told hp1.n3 hk (hp1.ok.kk.more ek hc (by rw[← List.append_assoc,← eΓ];exact hg)),hp1.n1,hp1.n2,hp1.n3,hp1.n4,hp1.fresh⟩,sep,hl,st.map fun q hq z=>?_⟩,g1.put hp1.ok.kd hp1.n4,by walk_at "o",?_⟩,by walk_at "o"⟩
 ·have z1:=h1 z
  exact⟨z1.ok.put hp1.ok.kd (sep q hq).2.2 (sep q hq).1,z1.n1,z1.n2,z1.n3,z1.n4,z1.fresh⟩
 ·have:fs.length+1+1+Zp7 (f :: p :: fs)≤1000:=l0
  rw[List.length_cons];walk_at "o"
theorem LpZ.last {K:W.Frag} {C:Addr} {A:BkA} {N:NumT} {Γ0:List Tm} {ws:List Str} {t0:Tz} {H0 H H':Hp} {lw ga:Addr} {gs:List V} {R R':List Rw} {S S':List Tm} {f:FrmZ} {k:Nat} (F:LpF A N H0 lw ga) (L:LpZ K C A N Γ0 ws t0 H0 lw ga gs R S [f] H) (tb:TabOk H0 N.T N.ds)
  (fb:FrB (badT A N) H H') (B':BkT A N R' S' H') {g:Tm} (hg:kd (f.Γ++Γ0) f.t=some g) (hk:S'[k]?=some g) :
  H' lw=some (.lst ([]++[.ref f.a]))∧∃ vs r,upd H' lw (.lst []) A.b=some (.ins A.C A.dx [("rows",.ref A.lr),("statements",.ref A.ls),("numbers",.ref A.dn)])∧upd H' lw (.lst []) A.ls=some (.lst vs)∧vs[k]?=some r∧SameV [N.T] H0 (upd H' lw (.lst []))∧TabOk (upd H' lw (.lst [])) N.T N.ds∧kd Γ0 t0=some g∧LtV (upd H' lw (.lst [])) r g:=by
 have hw:H' lw=some (.lst ([]++[.ref f.a])):=fb _ _ F.nw L.w;have B1:=B'.put (o:=.lst []) hw F.nw;have e1:FrB [N.T] H0 (upd H' lw (.lst [])):=(F.step L.e fb).putN F.w;obtain⟨vs,h1,h2⟩:=B1.b.sts;have eg:=L.st.2.2.1;rw[eg.1,eg.2] at hg
 have hlk:k < vs.length:=by rw[Paired.length h2];exact (List.getElem?_eq_some_iff.mp hk).1
 obtain⟨g',e2,e3⟩:=paired_get h2 (List.getElem?_eq_getElem hlk);rw[hk] at e2;cases e2;exact⟨hw,vs,vs[k],B1.b.ins,h1,List.getElem?_eq_getElem hlk,Yl0 e1 tb B1.t,B1.t,hg,e3⟩
end Ken
namespace L2
open PySem PySem.Spec PyProof.Rows
section
variable {X:Cx}
def Yd4 (K:W.Frag) (neg:Bool):R2:=fun x y H Q=>∃ d e,Dn K H x d∧Dn K H y e∧d.canLay0=true∧e.canLay0=true∧min d.depth e.depth≤200∧Q (.bl (if neg then !PyData.eqv d e else PyData.eqv d e)) H
theorem Xj0 (hu:X.A.units+200 < cLine):OpR X (compareOp .Eq) (Yd4 X.K false):=by
 intro pins s σ H x y v u Q I rx ry h;obtain⟨d,e,h1,h2,l1,l2,hz,q⟩:=h;obtain⟨as,r1⟩:=h1.reads I rx;obtain⟨bs,r2⟩:=h2.reads I ry;exact W.cmp_ofEq (SeqAt.rcAt_reads r1 r2 l1 l2 (by walk_at "o") _ _ _ _ ⟨.bl _,H,I,rfl,q⟩)
theorem Yu3 (hu:X.A.units+200 < cLine):OpR X (compareOp .NotEq) (Yd4 X.K true):=by
 intro pins s σ H x y v u Q I rx ry h;obtain⟨d,e,h1,h2,l1,l2,hz,q⟩:=h;obtain⟨as,r1⟩:=h1.reads I rx;obtain⟨bs,r2⟩:=h2.reads I ry;exact W.cmp_ofNotEq (SeqAt.rcNeAt_reads r1 r2 l1 l2 (by walk_at "o") _ _ _ _ ⟨.bl _,H,I,rfl,q⟩)
end
theorem Yw2 {A:Around} {k:Nat} (hr:Room k A):A.units+200 < cLine:=by have:=hr.un;walk_at "o"
end L2
namespace Ken
open PySem L2
theorem Zv3:∀ t:Tm,2*t.deep≤t.parts+1
 | .low=>Nat.le_refl _
 | .ltr _=>Nat.le_refl _
 | .nd _ a b=>by
  show 2*(1+max a.deep b.deep)≤1+a.parts+b.parts+1;have h1:=Zv3 a;have h2:=Zv3 b;have h3:=a.parts_pos;have h4:=b.parts_pos;walk_at "o"
theorem okW.deep {ws:List Str} {s:Tm} (h:okW ws s):s.deep≤30:=by have:=Zv3 s;have:=h.2;walk_at "o"
abbrev inD (ws:List Str) (D:Nat) (s:Tm):Prop:=s.inW ws∧s.deep≤D
theorem Ym8 {ws:List Str} {D:Nat} {k:Kd} {a b:Tm} (ha:inD ws D a) (hb:inD ws D b):inD ws (D+1) (.nd k a b):=⟨⟨ha.1,hb.1⟩,by show 1+max a.deep b.deep≤D+1;have:=ha.2;have:=hb.2;walk_at "o"⟩
theorem Yw1 {ws:List Str} {D:Nat} {k:Kd} {a b:Tm} (h:inD ws D (.nd k a b)):inD ws D a:=⟨h.1.1,by have:1+max a.deep b.deep≤D:=h.2;walk_at "o"⟩
theorem Xd0 {ws:List Str} {D:Nat} {k:Kd} {a b:Tm} (h:inD ws D (.nd k a b)):inD ws D b:=⟨h.1.2,by have:1+max a.deep b.deep≤D:=h.2;walk_at "o"⟩
theorem inD.mono {ws:List Str} {D D':Nat} {s:Tm} (h:inD ws D s) (l:D≤D'):inD ws D' s:=⟨h.1,Nat.le_trans h.2 l⟩
theorem okW.inD {ws:List Str} {s:Tm} (h:okW ws s) {D:Nat} (hD:30≤D):Ken.inD ws D s:=⟨h.1,Nat.le_trans h.deep hD⟩
theorem Zu9 {ws:List Str} {t:Tz} {gs:List Tm} {g:Tm} {M:Nat} (fi:t.fine ws) (hM:30≤M) (hg:∀ h∈gs,inD ws M h) (e:kdBy t gs=some g):inD ws (M+1) g:=by
 unfold kdBy at e
 split at e
 ·cases e
 ·cases e;exact (Yw1 (hg _ (.head _))).mono (Nat.le_succ _)
 ·cases e;exact (Xd0 (hg _ (.head _))).mono (Nat.le_succ _)
 ·cases e;exact Ym8 (hg _ (.head _)) ((fi.2.2 _ (.head _)).inD hM)
 ·cases e;exact Ym8 ((fi.2.2 _ (.head _)).inD hM) (hg _ (.head _))
 ·cases e;exact ((fi.2.2 _ (.head _)).inD hM).mono (Nat.le_succ _)
 ·cases e;exact Ym8 (hg _ (.head _)) (hg _ (.tail _ (.head _)))
 ·split at e
  ·cases e;exact (Xd0 (hg _ (.head _))).mono (Nat.le_succ _)
  ·cases e
 ·cases e;exact Ym8 (fi.1.inD hM) (hg _ (.head _))
 ·split at e
  ·cases e;exact (hg _ (.tail _ (.head _))).mono (Nat.le_succ _)
  ·cases e
 ·cases e
theorem Zh0 {ws:List Str}:∀ {t:Tz} {Γ:List Tm} {D:Nat} {g:Tm},t.fine ws→30≤D→(∀ s∈Γ,inD ws D s)→kd Γ t=some g→inD ws (D+t.size) g
 | .at i,Γ,D,g,_,hD,hΓ,h=>by
  unfold kd at h
  split at h
  ·exact (hΓ g (List.mem_of_getElem? h)).mono (Nat.le_add_right _ _)
  ·cases h
 | .one u a ss,Γ,D,g,fi,hD,hΓ,h=>by
  obtain⟨x,h1,h2⟩:=Option.bind_eq_some_iff.mp (show (kd Γ a).bind _=some g from h);exact (Zu9 (M:=D+a.size) fi (by walk_at "o") (fun z hz=>by rw[List.mem_singleton.mp hz];exact Zh0 fi.1 hD hΓ h1) h2).mono (by show D+a.size+1≤D+(1+a.size);walk_at "o")
 | .two u a b,Γ,D,g,fi,hD,hΓ,h=>by
  obtain⟨x,h1,h2⟩:=Option.bind_eq_some_iff.mp (show (kd Γ a).bind _=some g from h);obtain⟨y,h3,h4⟩:=Option.bind_eq_some_iff.mp h2;refine (Zu9 (M:=D+(a.size+b.size)) fi (by walk_at "o") (fun z hz=>?_) h4).mono (by show D+(a.size+b.size)+1≤D+(1+a.size+b.size);walk_at "o");rcases List.mem_cons.mp hz with rfl | hz
  ·exact (Zh0 fi.1 hD hΓ h1).mono (by walk_at "o")
  ·rw[List.mem_singleton.mp hz];exact (Zh0 fi.2 hD hΓ h3).mono (by walk_at "o")
 | .fn s a,Γ,D,g,fi,hD,hΓ,h=>by
  obtain⟨x,h1,h2⟩:=Option.bind_eq_some_iff.mp (show (kd (s :: Γ) a).bind _=some g from h);refine (Zu9 (M:=D+a.size) fi (by walk_at "o") (fun z hz=>?_) h2).mono (by show D+a.size+1≤D+(1+a.size);walk_at "o");rw[List.mem_singleton.mp hz];exact Zh0 fi.2 hD (List.forall_mem_cons.mpr ⟨fi.1.inD hD,hΓ⟩) h1
 | .cs a b c,Γ,D,g,fi,hD,hΓ,h=>by
  obtain⟨x,h1,h2⟩:=Option.bind_eq_some_iff.mp (show (kd Γ a).bind _=some g from h);have ia:=Zh0 fi.1 hD hΓ h1
  match x,h2,ia with
  | .nd .one h k,h2,ia =>
   obtain⟨y,h3,h4⟩:=Option.bind_eq_some_iff.mp (show (kd (h :: Γ) b).bind _=some g from h2);obtain⟨z,h5,h6⟩:=Option.bind_eq_some_iff.mp h4;have ib:=Zh0 (D:=D+a.size) fi.2.1 (by walk_at "o") (List.forall_mem_cons.mpr ⟨Yw1 ia,fun s hs=>(hΓ s hs).mono (Nat.le_add_right _ _)⟩) h3;have h6:(if y=z then some y else none)=some g:=h6
   split at h6
   ·cases h6
    exact ib.mono (by show D+a.size+b.size≤D+(1+a.size+b.size+c.size);walk_at "o")
   ·cases h6
def OptK (H:Hp) (r:V):Option Tm→Prop
 | none=>r=.non
 | some g=>Lt g H r
noncomputable def dat:Option Tm→PyData
 | none=>.none
 | some g=>g.data
theorem OptK.keep {H H':Hp} (e:Same H H') {r:V} {o:Option Tm} (h:OptK H r o):OptK H' r o:=by
 cases o with
 | none=>exact h
 | some g=>exact Lt.keep h e
theorem OptK.dn {K:W.Frag} {H:Hp} {r:V} {o:Option Tm} (h:OptK H r o):Dn K H r (dat o):=by
 cases o with
 | none=>show Dn K H r .none;rw[Dn];exact h
 | some g=>exact Lt.isT h
theorem OptK.non {H:Hp} {r:V} {o:Option Tm} (h:OptK H r o):(r=.non)↔o=none:=by
 cases o with
 | none=>exact⟨fun _=>rfl,fun _=>h⟩
 | some g =>
  refine⟨fun e=>?_,fun e=>nomatch e⟩
  cases g with
  | low=>obtain⟨a,rfl,_⟩:=h;cases e
  | ltr x=>obtain⟨a,rfl,_⟩:=h;cases e
  | nd k a b=>obtain⟨a,x,y,rfl,_⟩:=h;cases e
theorem Xl7 (a b:Option Tm):PyData.eqv (dat a) (dat b)=decide (a=b):=by
 match a,b with
 | none,none=>rfl
 | none,some g=>cases g<;>rfl
 | some g,none=>cases g<;>rfl
 | some g,some h =>
  rw[show dat (some g)=g.data from rfl,show dat (some h)=h.data from rfl,Tm.eqv];exact decide_eq_decide.mpr ⟨fun e=>by rw[e],fun e=>Option.some.inj e⟩
theorem Yx2 {ws:List Str} (hw:∀ w∈ws,Word w) {o:Option Tm} (h:∀ g,o=some g→g.inW ws):(dat o).canLay0=true:=by
 cases o with
 | none=>rfl
 | some g=>exact g.lay ((h g rfl).ok hw)
theorem Yx3 {o:Option Tm} {D:Nat} (h:∀ g,o=some g→g.deep≤D):(dat o).depth≤D:=by
 cases o with
 | none=>exact Nat.zero_le _
 | some g=>rw[show dat (some g)=g.data from rfl,Tm.depth];exact h g rfl
theorem Yi7 {g:Tm} {H:Hp} {r:V} (h:Lt g H r):∃ p xs,r=.ref p∧H p=some (.tup (.str g.tagS :: xs))∧∀ k a b,g=.nd k a b→∃ x y,xs=[x,y]∧Lt a H x∧Lt b H y:=by
 cases g with
 | low=>obtain⟨p,rfl,h⟩:=h;exact⟨p,_,rfl,h,fun _ _ _ e=>nomatch e⟩
 | ltr x=>obtain⟨p,rfl,h⟩:=h;exact⟨p,_,rfl,h,fun _ _ _ e=>nomatch e⟩
 | nd k a b=>obtain⟨p,x,y,rfl,h,h1,h2⟩:=h;exact⟨p,_,rfl,h,fun _ _ _ e=>by cases e;exact⟨x,y,rfl,h1,h2⟩⟩
structure LkIn (H:Hp) (ws:List Str) (D:Nat) (ga:Addr) (gs:List V) (Γ:List Tm):Prop where
 l:H ga=some (.lst gs)
 p:Paired (fun r s=>Lt s H r) gs Γ
 s:∀ s∈Γ,inD ws D s
 w:∀ w∈ws,Word w
 d:30≤D
theorem LkIn.keep {H H':Hp} {ws:List Str} {D:Nat} {ga:Addr} {gs:List V} {Γ:List Tm} (h:LkIn H ws D ga gs Γ) (e:Same H H'):LkIn H' ws D ga gs Γ:=⟨e _ _ h.l,Paired.mapP h.p fun _ _ z=>z.keep e,h.s,h.w,h.d⟩
theorem LkIn.more {H H':Hp} {ws:List Str} {D D':Nat} {ga pa:Addr} {gs:List V} {Γ:List Tm} {x:V} {s:Tm} (h:LkIn H ws D ga gs Γ) (e:Same H H') (hl:H' pa=some (.lst (x :: gs))) (hx:Lt s H' x) (hs:inD ws D' s) (l:D≤D'):LkIn H' ws D' pa (x :: gs) (s :: Γ) :=
 ⟨hl,.cons hx (h.keep e).p,List.forall_mem_cons.mpr ⟨hs,fun z hz=>(h.s z hz).mono l⟩,h.w,Nat.le_trans h.d l⟩
def Zi5 (K:W.Frag) (n:Nat):Sp:=fun vs H Q _=>∃ (v:V) (t:Tz) (ga:Addr) (gs:List V) (Γ:List Tm) (ws:List Str) (D:Nat),vs=[v,.ref ga]∧LZ K t H v∧t.deep≤n∧t.fine ws∧LkIn H ws D ga gs Γ∧D+t.size≤200∧gs.length+t.size≤900∧∀ r H',Same H H'→OptK H' r (kd Γ t)→Q r H'
def Yc7 (K:W.Frag) (n:Nat):Sp:=fun vs H Q _=>∃ (v:V) (u:U2) (a b:Tz) (ga:Addr) (gs:List V) (Γ:List Tm) (ws:List Str) (D:Nat),vs=[v,.ref ga]∧LZ K (.two u a b) H v∧a.deep≤n∧b.deep≤n∧(Tz.two u a b).fine ws∧LkIn H ws D ga gs Γ∧D+(Tz.two u a b).size≤200∧gs.length+(Tz.two u a b).size≤900∧∀ r H',Same H H'→OptK H' r (kd Γ (.two u a b))→Q r H'
def Yc6 (K:W.Frag) (n:Nat):Sp:=fun vs H Q _=>∃ (v:V) (a b c:Tz) (ga:Addr) (gs:List V) (Γ:List Tm) (ws:List Str) (D:Nat),vs=[v,.ref ga]∧LZ K (.cs a b c) H v∧a.deep≤n∧b.deep≤n∧c.deep≤n∧(Tz.cs a b c).fine ws∧LkIn H ws D ga gs Γ∧D+(Tz.cs a b c).size≤200∧gs.length+(Tz.cs a b c).size≤900∧∀ r H',Same H H'→OptK H' r (kd Γ (.cs a b c))→Q r H'
theorem Yh0 {t:Tz} (h:inV (V.str t.tag) [.str "pair",.str "use"]=true):∃ u a b,t=.two u a b:=by
 cases t with
 | two u a b=>exact⟨u,a,b,rfl⟩
 | «at» i=>exact absurd h (show ¬ inV (.str "at") [.str "pair",.str "use"]=true by decide)
 | one u a ss=>have h:inV (.str u.str) [.str "pair",.str "use"]=true:=h;cases u<;>exact absurd h (by decide)
 | fn s a=>exact absurd h (show ¬ inV (.str "fun") [.str "pair",.str "use"]=true by decide)
 | cs a b c=>exact absurd h (show ¬ inV (.str "cases") [.str "pair",.str "use"]=true by decide)
theorem Yr8 {t:Tz} (h:t.tag="cases"):∃ a b c,t=.cs a b c:=by
 cases t with
 | cs a b c=>exact⟨a,b,c,rfl⟩
 | «at» i=>exact absurd (show ("at":Str)="cases" from h) (by decide)
 | one u a ss=>have h:u.str="cases":=h;cases u<;>exact absurd h (by decide)
 | two u a b=>have h:u.str="cases":=h;cases u<;>exact absurd h (by decide)
 | fn s a=>exact absurd (show ("fun":Str)="cases" from h) (by decide)
theorem Yr7 {t:Tz} (h:t.tag="fun"):∃ s a,t=.fn s a:=by
 cases t with
 | fn s a=>exact⟨s,a,rfl⟩
 | «at» i=>exact absurd (show ("at":Str)="fun" from h) (by decide)
 | one u a ss=>have h:u.str="fun":=h;cases u<;>exact absurd h (by decide)
 | two u a b=>have h:u.str="fun":=h;cases u<;>exact absurd h (by decide)
 | cs a b c=>exact absurd (show ("cases":Str)="fun" from h) (by decide)
theorem Yh1 {t:Tz} (h1:¬ t.tag="at") (h2:¬ inV (V.str t.tag) [.str "pair",.str "use"]=true) (h3:¬ t.tag="cases") (h4:¬ t.tag="fun"):∃ u a ss,t=.one u a ss:=by
 cases t with
 | one u a ss=>exact⟨u,a,ss,rfl⟩
 | «at» i=>exact absurd rfl h1
 | two u a b=>exact absurd (show inV (.str u.str) [.str "pair",.str "use"]=true by cases u<;>decide) h2
 | fn s a=>exact absurd rfl h4
 | cs a b c=>exact absurd rfl h3
theorem Xk8 (u:U5):inV (.str u.str) [.str "left",.str "right"]=decide (u=.left∨u=.right):=by cases u<;>decide
structure NoMore (t' t:Tz):Prop where
 s:t'.size≤t.size
 d:t'.deep≤t.deep
structure OkZ (K:W.Frag) (H:Hp) (ws:List Str) (v:V) (t:Tz):Prop where
 l:LZ K t H v
 f:t.fine ws
theorem OkZ.keep {K:W.Frag} {H H':Hp} {ws:List Str} {v:V} {t:Tz} (h:OkZ K H ws v t) (e:Same H H'):OkZ K H' ws v t:=⟨LZ.keep h.l e,h.f⟩
def Zm0 (K:W.Frag):Sp:=fun vs H Q _=>∃ (v:V) (t:Tz) (c:Int) (ga wa:Addr) (ws:List Str) (gs:List V),vs=[v,.int c,.ref ga,.ref wa]∧0≤c∧OkZ K H ws v t∧SqL K H wa (ws.map V.str)∧Yb5 ws∧H ga=some (.lst gs)∧∀ r H' t',Same H H'→OkZ K H' ws r t'→NoMore t' t→Q r H'
def Zq0 (K:W.Frag):Sp:=fun vs H Q _=>∃ (v:V) (t:Tz),vs=[v]∧LZ K t H v∧∀ r H',Same H H'→H' r=some (.lst (t.plc.map nI))→Q (.ref r) H'
def Zh8 (K:W.Frag) (n:Nat):Sp:=fun vs H Q _=>∃ (v:V) (t:Tz) (c:Int) (ga wa:Addr) (ws:List Str) (gs:List V),vs=[v,.int c,.ref ga,.ref wa]∧0≤c∧t.deep≤n∧OkZ K H ws v t∧SqL K H wa (ws.map V.str)∧Yb5 ws∧H ga=some (.lst gs)∧∀ r H' t',Same H H'→OkZ K H' ws r t'→NoMore t' t→Q r H'
theorem Xv8 (i:Int) (t:Tz):NoMore (.at i) t:=by
 constructor
 ·cases t<;>(show 1≤_;unfold Tz.size;walk_at "o")
 ·cases t<;>(show 1≤_;unfold Tz.deep;walk_at "o")
theorem Xe0 {n k:Nat} (h:k < n):¬ (HT.sIx n 0 none=0∧HT.sIx n n (some ((k:Nat):Int))=n):=fun z=>by
 have:=z.2;rw[HT.sIx_nat] at this;walk_at "o"
theorem Xe1 {n k:Nat} (h:k < n):¬ (HT.sIx n 0 (some (((k:Nat):Int)+1))=0∧HT.sIx n n none=n):=fun z=>by
 have:=z.1;rw[show ((k:Nat):Int)+1=((k+1:Nat):Int) from rfl,HT.sIx_nat] at this;walk_at "o"
theorem Xd9 {xs:List V} {k:Nat} (h:k < xs.length):cutV xs (some (((k:Nat):Int)+1)) none=xs.drop (k+1):=by
 unfold cutV;rw[show ((k:Nat):Int)+1=((k+1:Nat):Int) from rfl,HT.sIx_nat,HT.sIx_none,show min (k+1) xs.length=k+1 by walk_at "o"];exact List.take_of_length_le (by rw[List.length_drop];walk_at "o")
theorem Xw3 {K:W.Frag} {H:Hp} {ws:List Str} {v:V} {t:Tz} (h:OkZ K H ws v t) {j k:Nat} (e:t.plc[j]?=some k):∃ p xs kid x,v=.ref p∧SqT K H p xs∧xs[k]?=some x∧OkZ K H ws x kid∧kid.deep < t.deep∧xs.length≤4∧1≤k ∧
  ∀ (b:V) (t':Tz) (H':Hp) (q:Addr),Same H H'→SqT K H' q (xs.take k++[b]++xs.drop (k+1))→OkZ K H' ws b t'→NoMore t' kid→∃ t'',OkZ K H' ws (.ref q) t''∧NoMore t'' t:=by
 obtain⟨l,f⟩:=h
 cases t with
 | «at» i=>cases e
 | one u a ss =>
  obtain⟨p,x,rs,rfl,hs,hx,hrs⟩:=l
  match j,e with
  | 0,e =>
   cases e
   have lr:rs.length≤1:=by rw[Paired.length hrs,f.2.1];cases u<;>decide
   refine⟨p,_,a,x,rfl,hs,rfl,⟨hx,f.1⟩,by show a.deep < 1+a.deep;walk_at "o",by show rs.length+1+1≤4;walk_at "o",Nat.le_refl _,fun b t' H' q s hq o n=>⟨.one u t' ss,⟨⟨q,b,rs,rfl,hq,o.l,Paired.mapP hrs fun _ _ z=>Lt.keep z s⟩,o.f,f.2⟩,?_,?_⟩⟩
   ·show 1+t'.size≤1+a.size
    have:=n.s;walk_at "o"
   ·show 1+t'.deep≤1+a.deep
    have:=n.d;walk_at "o"
 | two u a b =>
  obtain⟨p,x,y,rfl,hs,hx,hy⟩:=l
  match j,e with
  | 0,e =>
   cases e;refine⟨p,_,a,x,rfl,hs,rfl,⟨hx,f.1⟩,by show a.deep < 1+max a.deep b.deep;walk_at "o",by show 3≤4;walk_at "o",Nat.le_refl _,fun w t' H' q s hq o n=>⟨.two u t' b,⟨⟨q,w,y,rfl,hq,o.l,LZ.keep hy s⟩,o.f,f.2⟩,?_,?_⟩⟩
   ·show 1+t'.size+b.size≤1+a.size+b.size
    have:=n.s;walk_at "o"
   ·show 1+max t'.deep b.deep≤1+max a.deep b.deep
    have:=n.d;walk_at "o"
  | 1,e =>
   cases e;refine⟨p,_,b,y,rfl,hs,rfl,⟨hy,f.2⟩,by show b.deep < 1+max a.deep b.deep;walk_at "o",by show 3≤4;walk_at "o",by decide,fun w t' H' q s hq o n=>⟨.two u a t',⟨⟨q,x,w,rfl,hq,LZ.keep hx s,o.l⟩,f.1,o.f⟩,?_,?_⟩⟩
   ·show 1+a.size+t'.size≤1+a.size+b.size
    have:=n.s;walk_at "o"
   ·show 1+max a.deep t'.deep≤1+max a.deep b.deep
    have:=n.d;walk_at "o"
 | fn s0 a =>
  obtain⟨p,x,y,rfl,hs,hx,hy⟩:=l
  match j,e with
  | 0,e =>
   cases e;refine⟨p,_,a,y,rfl,hs,rfl,⟨hy,f.2⟩,by show a.deep < 1+a.deep;walk_at "o",by show 3≤4;walk_at "o",by decide,fun w t' H' q s hq o n=>⟨.fn s0 t',⟨⟨q,x,w,rfl,hq,Lt.keep hx s,o.l⟩,f.1,o.f⟩,?_,?_⟩⟩
   ·show 1+t'.size≤1+a.size
    have:=n.s;walk_at "o"
   ·show 1+t'.deep≤1+a.deep
    have:=n.d;walk_at "o"
 | cs a b c =>
  obtain⟨p,x,y,z,rfl,hs,hx,hy,hz⟩:=l
  match j,e with
  | 0,e =>
   cases e;refine⟨p,_,a,x,rfl,hs,rfl,⟨hx,f.1⟩,by show a.deep < 1+max a.deep (max b.deep c.deep);walk_at "o",by show 4≤4;walk_at "o",by decide,fun w t' H' q s hq o n=>⟨.cs t' b c,⟨⟨q,w,y,z,rfl,hq,o.l,LZ.keep hy s,LZ.keep hz s⟩,o.f,f.2⟩,?_,?_⟩⟩
   ·show 1+t'.size+b.size+c.size≤1+a.size+b.size+c.size
    have:=n.s;walk_at "o"
   ·show 1+max t'.deep (max b.deep c.deep)≤1+max a.deep (max b.deep c.deep)
    have:=n.d;walk_at "o"
  | 1,e =>
   cases e;refine⟨p,_,b,y,rfl,hs,rfl,⟨hy,f.2.1⟩,by show b.deep < 1+max a.deep (max b.deep c.deep);walk_at "o",by show 4≤4;walk_at "o",by decide,fun w t' H' q s hq o n=>⟨.cs a t' c,⟨⟨q,x,w,z,rfl,hq,LZ.keep hx s,o.l,LZ.keep hz s⟩,f.1,o.f,f.2.2⟩,?_,?_⟩⟩
   ·show 1+a.size+t'.size+c.size≤1+a.size+b.size+c.size
    have:=n.s;walk_at "o"
   ·show 1+max a.deep (max t'.deep c.deep)≤1+max a.deep (max b.deep c.deep)
    have:=n.d;walk_at "o"
  | 2,e =>
   cases e;refine⟨p,_,c,z,rfl,hs,rfl,⟨hz,f.2.2⟩,by show c.deep < 1+max a.deep (max b.deep c.deep);walk_at "o",by show 4≤4;walk_at "o",by decide,fun w t' H' q s hq o n=>⟨.cs a b t',⟨⟨q,x,y,w,rfl,hq,LZ.keep hx s,LZ.keep hy s,o.l⟩,f.1,f.2.1,o.f⟩,?_,?_⟩⟩
   ·show 1+a.size+b.size+t'.size≤1+a.size+b.size+c.size
    have:=n.s;walk_at "o"
   ·show 1+max a.deep (max b.deep t'.deep)≤1+max a.deep (max b.deep c.deep)
    have:=n.d;walk_at "o"
theorem Xn6 {t:Tz} (h:inV (V.str t.tag) [.str "left",.str "right"]=true):∃ u a ss,t=.one u a ss∧(u=.left∨u=.right):=by
 cases t with
 | one u a ss=>exact⟨u,a,ss,rfl,of_decide_eq_true ((Xk8 u).symm.trans h)⟩
 | «at» i=>exact absurd h (show ¬ inV (.str "at") [.str "left",.str "right"]=true by decide)
 | two u a b=>have h:inV (.str u.str) [.str "left",.str "right"]=true:=h;cases u<;>exact absurd h (by decide)
 | fn s a=>exact absurd h (show ¬ inV (.str "fun") [.str "left",.str "right"]=true by decide)
 | cs a b c=>exact absurd h (show ¬ inV (.str "cases") [.str "left",.str "right"]=true by decide)
theorem len0 {α:Type} {l:List α} (h:l.length=0):l=[]:=List.length_eq_zero_iff.mp h
theorem Ym1 {u u':U5} {a:Tz} {ss ss':List Tm}:NoMore (.one u' a ss') (.one u a ss):=⟨Nat.le_refl (1+a.size),Nat.le_refl (1+a.deep)⟩
theorem Xv9 {u u':U2} {a b:Tz}:NoMore (.two u' a b) (.two u a b):=⟨Nat.le_refl (1+a.size+b.size),Nat.le_refl (1+max a.deep b.deep)⟩
theorem Xj4 {u u':U2} {a b:Tz}:NoMore (.two u' b a) (.two u a b):=⟨by show 1+b.size+a.size≤1+a.size+b.size;walk_at "o",by show 1+max b.deep a.deep≤1+max a.deep b.deep;walk_at "o"⟩
theorem Xw1 {a b c:Tz}:NoMore (.cs a c b) (.cs a b c):=⟨by show 1+a.size+c.size+b.size≤1+a.size+b.size+c.size;walk_at "o",by show 1+max a.deep (max c.deep b.deep)≤1+max a.deep (max b.deep c.deep);walk_at "o"⟩
theorem Xw0 {a b c:Tz}:NoMore (.cs b a c) (.cs a b c):=⟨by show 1+b.size+a.size+c.size≤1+a.size+b.size+c.size;walk_at "o",by show 1+max b.deep (max a.deep c.deep)≤1+max a.deep (max b.deep c.deep);walk_at "o"⟩
theorem Wa3 {s s':Tm} {a:Tz}:NoMore (.fn s' a) (.fn s a):=⟨Nat.le_refl (1+a.size),Nat.le_refl (1+a.deep)⟩
noncomputable def Yr3:List V:=[.bl true,.bl true,.bl false,.bl false]
theorem Yr2 {K:W.Frag} {H:Hp} {p:Addr} (h:H p=some (.lst Yr3)):Dn K H (.ref p) (.list [.bool true,.bool true,.bool false,.bool false]):=by
 rw[Dn];exact⟨p,_,rfl,SqL.of h,dnAll_cons (by rw[Dn]) (dnAll_cons (by rw[Dn]) (dnAll_cons (by rw[Dn]) (dnAll_cons (by rw[Dn]) dnAll_nil)))⟩
def Zq1 (K:W.Frag) (N:NumT):Sp:=fun vs H Q _=>∃ (v:V) (t:Tz) (ga:Addr) (gs:List V) (Γ:List Tm) (ws:List Str),vs=[v,.ref ga]∧OkZ K H ws v t∧(∀ w∈ws,Word w)∧t.size≤142∧t.deep≤60∧H ga=some (.lst gs)∧Paired (LtV H) gs Γ∧(∀ s∈Γ,okW ws s)∧gs.length≤100∧TabOk H N.T N.ds∧∀ H',SameV [N.T] H H'→TabOk H' N.T N.ds→Q (.bl true) H'
theorem Zr3:∀ t:Te,t.z.deep=t.deep
 | .at _=>rfl
 | .one _ a _=>by show 1+a.z.deep=1+a.deep;rw[Zr3 a]
 | .two _ a b=>by show 1+max a.z.deep b.z.deep=1+max a.deep b.deep;rw[Zr3 a,Zr3 b]
 | .fn _ a=>by show 1+a.z.deep=1+a.deep;rw[Zr3 a]
 | .cs a b c=>by show 1+max a.z.deep (max b.z.deep c.z.deep)=1+max a.deep (max b.deep c.deep);rw[Zr3 a,Zr3 b,Zr3 c]
theorem Yz6 {P:Program} {w:World} {K:W.Frag} {mg:Str→Option Value} {base:Heap} {CX:CXT} {k:Nat} {f:Addr} {fd:FuncData} {ps:List Str} {ι:Type} {sp:ι→Sp} (h:∀ i,FnOk P w K mg base CX k f fd ps (sp i)):FnOk P w K mg base CX k f fd ps (fun vs H Q E=>∃ i,sp i vs H Q E) :=
 ⟨fun vs H Q E ⟨i,z⟩=>(h i).len vs H Q E z,fun A outer s H args us vs Q E hr e0 hb r ⟨i,z⟩=>(h i).run A outer s H args us vs Q E hr e0 hb r z⟩
end Ken
namespace L2
open PySem PySem.Spec PyProof.Rows
section
variable {X:Cx}
def Ys0 {ι:Type} (i:Nat) (f:ι→Addr) (sp:ι→Sp) (E:XK) (t:TA):TE:=fun σ H Q=>∃ r,σ[i]?=some (some (.ref (f r)))∧t σ H fun vs H1=>sp r vs H1 Q E
theorem Yu0 {ι:Type} {k:Nat} {CX:CXT} {E:XK} {f:ι→Addr} {fd:ι→FuncData} {ps:List Str} {sp:ι→Sp} {x:Str} {p pos:Pos} {e:Expr} {es:List Expr} {t:TA} {i:Nat} (F:∀ r,FnOk X.prog X.w X.K X.mg X.base CX k (f r) (fd r) ps (sp r)) (hr:Room k X.A) (hN:X.N[i]?=some x) (hk:∀ r,W.keepIn X.K (.ref (f r))=true) (hb:∀ r,Binds X.K (fd r) ps []) (hx:Zp6 CX X E)
  (ha:PA X (e :: es) t) (hv:Vis X.env.scope x:=by first | exact .inl rfl | exact .inr (.inl rfl) | exact .inr (.inr rfl)) (hdb:(x == ("__debug__":Str))=false:=by decide) (hcd:(x == ("__classdict__":Str))=false:=by decide) (he:starEach (e :: es) X.env=(false,eval e X.env) :: starEach es X.env:=by rfl) (hpl:(backTo pos (starEach es X.env)).any (·.1)=false:=by rfl) :
  PE X (.Call (.Name x p) (e :: es) [] pos) (Ys0 i f sp E t):=by
 intro pins s σ H Q I h;obtain⟨r,h1,h2⟩:=h;refine Zz5 (F r) hr hN hv (hk r) (hb r) .nil (E:=E) hx ha hdb hcd he hpl pins s σ H Q I ⟨h1,?_⟩;show t σ H fun vs H1=>sp r (vs++[]) H1 Q E;simp only[List.append_nil];exact h2
end
theorem Xj3 {K K':W.Frag} (k:KLe K K') {ns:Addr} {x:Str} {r:Option Value} (h:W.nsIn K ns x=some r):W.nsIn K' ns x=some r:=by
 unfold W.nsIn at h ⊢
 cases z:List.lookup ns K with
 | none=>rw[z] at h;cases h
 | some o=>rw[z] at h;rw[show List.lookup ns K'=some o from k ns o z];exact h
theorem Yn4 {K K':W.Frag} (k:KLe K K') {C:Addr} {r:ClassData} (h:W.clsIn K C=some r):W.clsIn K' C=some r:=by
 unfold W.clsIn at h ⊢
 cases z:List.lookup C K with
 | none=>rw[z] at h;cases h
 | some o=>rw[z] at h;rw[show List.lookup C K'=some o from k C o z];exact h
theorem Xc3 {K K':W.Frag} (k:KLe K K') {x:Str} {c:Value} {r:Option Value} (h:W.ownIn K x c=some r):W.ownIn K' x c=some r:=by
 cases c with
 | ref a =>
  unfold W.ownIn at h ⊢;dsimp only at h ⊢
  cases z:List.lookup a K with
  | none=>rw[z] at h;cases h
  | some o =>
   rw[z] at h;rw[show List.lookup a K'=some o from k a o z]
   split at h
   ·exact Xj3 k h
   ·cases h
 | _=>exact h
theorem Zx6 {K K':W.Frag} (k:KLe K K') {x:Str}:∀ {m:List Value} {r:Option Value},W.alongIn K x m=some r→W.alongIn K' x m=some r
 | [],r,h=>h
 | c :: m,r,h=>by
  rw[W.alongIn.eq_def] at h ⊢;dsimp only at h ⊢
  cases z:W.ownIn K x c with
  | none=>rw[z] at h;cases h
  | some o =>
   rw[z] at h;rw[Xc3 k z]
   cases o with
   | some v=>exact h
   | none=>exact Zx6 k h
theorem Zp1 {K K':W.Frag} (k:KLe K K') {t:Value} {x:Str} {r:Option Value} (h:W.findIn K t x=some r):W.findIn K' t x=some r:=by
 cases t with
 | ref a =>
  unfold W.findIn at h ⊢;dsimp only at h ⊢
  cases z:List.lookup a K with
  | none=>rw[z] at h;cases h
  | some o =>
   rw[z] at h;rw[show List.lookup a K'=some o from k a o z]
   split at h
   ·exact Zx6 k h
   ·cases h
 | _=>exact h
theorem Cls.le {K K':W.Frag} (k:KLe K K') {C:Addr} (c:Cls K C):Cls K' C:=by
 obtain⟨h1,h2,h3,h4⟩:=c;refine⟨?_,?_,?_,Zp1 k h4⟩
 ·unfold W.plainGet at h1 ⊢
  rw[Bool.and_eq_true] at h1 ⊢;exact⟨by rw[Zp1 k (eq_of_beq h1.1)];exact beq_self_eq_true _,by rw[Zp1 k (eq_of_beq h1.2)];exact beq_self_eq_true _⟩
 ·unfold W.hasDictIn at h2 ⊢
  cases z:W.clsIn K C with
  | none=>rw[z] at h2;cases h2
  | some o=>rw[z] at h2;rw[Yn4 k z];exact h2
 ·unfold W.plainOver at h3 ⊢
  cases z:W.clsIn K C with
  | none=>rw[z] at h3;cases h3
  | some o=>rw[z] at h3;rw[Yn4 k z];exact h3
theorem NoAttr.le {K K':W.Frag} (k:KLe K K') {C:Addr} {x:Str} (n:NoAttr K C x):NoAttr K' C x:=Zp1 k n
end L2
namespace Ken
@[elab_as_elim] theorem len1 {α:Type} {P:List α→Prop} {us:List α} (h:us.length=1) (k:∀ a0,P [a0]):P us:=match us,h with | [_],_=>k _
@[elab_as_elim] theorem len3 {α:Type} {P:List α→Prop} {us:List α} (h:us.length=3) (k:∀ a0 a1 a2,P [a0,a1,a2]):P us:=match us,h with | [_,_,_],_=>k _ _ _
end Ken
namespace L2
open PySem PySem.Spec PyProof.Rows
structure Cl (P:Program) (w:World) (K:W.Frag) (mg:Str→Option Value) (base:Heap) (k:Nat) (x:Str) (ps:List Str) (sp:Sp):Prop where
 ex:∃ (f:Addr) (fd:FuncData),FnOk P w K mg base CX0 k f fd ps sp∧mg x=some (.ref f)∧W.keepIn K (.ref f)=true∧Binds K fd ps []
section
variable {P:Program} {w:World} {K:W.Frag} {mg:Str→Option Value} {base:Heap} {j k:Nat} {x:Str} {ps:List Str} {sp:Sp}
theorem Cl.of {f:Addr} {fd:FuncData} (G:FnOk P w K mg base CX0 k f fd ps sp) (m:mg x=some (.ref f)) (kp:W.keepIn K (.ref f)=true) (b:Binds K fd ps []):Cl P w K mg base k x ps sp:=⟨⟨f,fd,G,m,kp,b⟩⟩
theorem Cl.up (C:Cl P w K mg base j x ps sp) (h:j≤k):Cl P w K mg base k x ps sp:=by
 obtain⟨f,fd,G,r⟩:=C.ex;exact⟨⟨f,fd,G.mono h,r⟩⟩
end
section
variable {X:Cx}
theorem Zc0 {k:Nat} {x:Str} {ps:List Str} {sp:Sp} {e:Expr} {es:List Expr} {t:TA} {p pos:Pos} (C:Cl X.prog X.w X.K X.mg X.base k x ps sp) (hr:Room k X.A) (ha:PA X (e :: es) t) (hg:Gl X x:=by exact rfl)
  (hdb:(x == ("__debug__":Str))=false:=by decide) (he:starEach (e :: es) X.env=(false,eval e X.env) :: starEach es X.env:=by rfl) (hpl:(backTo pos (starEach es X.env)).any (·.1)=false:=by rfl) :
  PE X (.Call (.Name x p) (e :: es) [] pos) (Zt5 sp [] E0 t):=by
 obtain⟨f,fd,G,m,kp,b⟩:=C.ex;exact Zi1 G hr hg m kp b .nil Yi3 ha hdb he hpl
end
abbrev pq0:List Str:=["_law_cell_here","_law_given_here","_law_words_here"]
abbrev pq1:List Str:=["_law_cell_here","_law_k"]
abbrev pq3:List Str:=["_law_cell_here","_law_size_here","_law_given_here","_law_words_here"]
abbrev pq4:List Str:=["_law_cell_here","_law_size_here","_law_words_here"]
abbrev pq5:List Str:=["_law_cell_here","_law_words_here"]
abbrev pq6:List Str:=["_law_found","_law_due"]
abbrev pq11:List Str:=["_law_term","_law_cell_here","_law_given_here","_law_words_here"]
abbrev pq12:List Str:=["_law_term","_law_given_here"]
abbrev pq13:List Str:=["_law_term","_law_own"]
abbrev pq15:List Str:=["book","asked","given"]
abbrev pq16:List Str:=["book","asked"]
abbrev pq17:List Str:=["book","number","name"]
abbrev pq18:List Str:=["book","row"]
abbrev pq19:List Str:=["book","statement"]
abbrev pq20:List Str:=["book","term","kinds"]
abbrev pq21:List Str:=["self","term","front"]
abbrev pq23:List Str:=["statement","of_simple","of_pair"]
abbrev KpI (K:W.Frag) (f:Addr):Prop:=W.keepIn K (.ref f)=true
abbrev MgI (mg:Str→Option Value) (x:Str) (f:Addr):Prop:=mg x=some (.ref f)
abbrev Fk0 (P:Program) (w:World) (K:W.Frag) (mg:Str→Option Value) (base:Heap):Nat→Addr→FuncData→List Str→Sp→Prop:=FnOk P w K mg base CX0
section
variable {X:Cx}
theorem pcl {k:Nat} {f:Addr} {fd:FuncData} {ps:List Str} {sp:Sp} {x:Str} {e:Expr} {es:List Expr} {t:TA} {p pos:Pos} (G:FnOk X.prog X.w X.K X.mg X.base CX0 k f fd ps sp) (hr:Room k X.A) (hm:X.mg x=some (.ref f)) (hk:W.keepIn X.K (.ref f)=true) (hb:Binds X.K fd ps []) (ha:PA X (e :: es) t) (hg:Gl X x:=by exact rfl)
  (hdb:(x == ("__debug__":Str))=false:=by decide) (he:starEach (e :: es) X.env=(false,eval e X.env) :: starEach es X.env:=by rfl) (hpl:(backTo pos (starEach es X.env)).any (·.1)=false:=by rfl) :
  PE X (.Call (.Name x p) (e :: es) [] pos) (Zt5 sp [] E0 t):=Zi1 G hr hg hm hk hb .nil Yi3 ha hdb he hpl
theorem pxt {a b:Expr} {ta tb:TE} {pos:Pos} (ha:PE X a ta) (hb:PE X b tb) (hs:Yk0 b:=by exact fun _ _=>rfl):PE X (.Subscript a b pos) (tOp (rIxT X.K) ta tb):=Xi5 Xx3 ha hb hs
theorem pxl {a b:Expr} {ta tb:TE} {pos:Pos} (ha:PE X a ta) (hb:PE X b tb) (hs:Yk0 b:=by exact fun _ _=>rfl):PE X (.Subscript a b pos) (tOp (rIxL X.K) ta tb):=Xi5 Xk2 ha hb hs
theorem pst (i:Nat) {x:Str} {e:Expr} {te:TE} {pos' pos:Pos} (hN:X.N.Nodup) (he:PE X e te) (hi:X.N[i]?=some x:=by exact rfl) (hx:Loc X.env.scope x:=by exact Or.inl rfl) (hs:swapsWith e (some (.Name x pos')) pos.line X.env=pure false:=by rfl) (hf:X.fn x=true∨X.env.scope.names.lookup x=some .local:=by first | exact .inl rfl | exact .inr rfl | assumption) :
  PS X (.Assign [.Name x pos'] e pos) (tAsg te (Ya9 i)):=Yt2 hN hi hx he hs hf
theorem ptc {a b:Expr} {ta tb:TE} {pos:Pos} {op:CmpOp} {r:R2} (ho:OpR X (compareOp op) r) (ha:PE X a ta) (hb:PE X b tb) (h:op≠.In:=by decide) (h2:op≠.NotIn:=by decide):PT X (.Compare a [op] [b] pos) (Zv6 (tOp r ta tb)):=Yi2 ho ha hb (Zk7 _ h h2)
end
theorem scm {N ps:List Str} {sc:Scope} (h:(decide (sc.kind=.function)&&(!sc.isCoroutine&&(!sc.isGenerator&&(decide N.Nodup&&(decide (N.take ps.length=ps)&&(ps.all (fun x=>decide (sc.names.lookup x=some .local∨sc.names.lookup x=some .cell))&&sc.names.all fun y=>decide (y.2≠.free)))))))=true):FnScope N ps sc:=by
 simp only[Bool.and_eq_true,decide_eq_true_eq,List.all_eq_true,Bool.not_eq_true'] at h;exact⟨h.1,h.2.1,h.2.2.1,h.2.2.2.1,h.2.2.2.2.1,h.2.2.2.2.2.1,h.2.2.2.2.2.2⟩
def varM:Option (Option V)→Hp→VK→Prop
 | some (some v),H,Q=>Q v H
 | _,_,_=>False
def Yc1 (i:Nat):TE:=fun σ H Q=>varM σ[i]? H Q
theorem Zj1 {v:V} {H:Hp} {Q:VK}:varM (some (some v)) H Q=Q v H:=rfl
theorem Xh4 {o:Option (Option V)} {H:Hp} {Q:VK}:varM o H Q=∃ v,o=some (some v)∧Q v H:=propext ⟨fun h=>by
 unfold varM at h
 split at h
 ·exact⟨_,rfl,h⟩
 ·exact h.elim,fun⟨v,e,h⟩=>by rw[e];exact h⟩
theorem Xa8:Yc1=tVar:=by
 funext i σ H Q
 exact Xh4
def bM:V→Hp→(Bool→Hp→Prop)→Prop
 | .bl c,H,Q=>Q c H
 | _,_,_=>False
theorem Yq4 {c:Bool} {H:Hp} {Q:Bool→Hp→Prop}:bM (.bl c) H Q=Q c H:=rfl
theorem Xe6 {x:V} {H:Hp} {Q:Bool→Hp→Prop}:bM x H Q=∃ k,x=.bl k∧Q k H:=propext ⟨fun h=>by
 unfold bM at h
 split at h
 ·exact⟨_,rfl,h⟩
 ·exact h.elim,fun⟨v,e,h⟩=>by rw[e];exact h⟩
def Zo6 (t:TE):TT:=fun σ H Q=>t σ H fun x H1=>bM x H1 Q
theorem Yc3:Zo6=Zv6:=by
 funext t σ H Q
 show t σ H (fun x H1=>bM x H1 Q)=t σ H _
 congr 1
 funext x H1
 exact Xe6
def rI0M (g:Int→Int→V):R2
 | .int i,.int j,H,Q=>Q (g i j) H
 | _,_,_,_=>False
theorem Zm1 {g:Int→Int→V} {i j:Int} {H:Hp} {Q:VK}:rI0M g (.int i) (.int j) H Q=Q (g i j) H:=rfl
theorem Zy9 {g:Int→Int→V} {x y:V} {H:Hp} {Q:VK}:rI0M g x y H Q=∃ i j,x=.int i∧y=.int j∧Q (g i j) H:=propext ⟨fun h=>by
 unfold rI0M at h
 split at h
 ·exact⟨_,_,rfl,rfl,h⟩
 ·exact h.elim,fun⟨i,j,e,f,h⟩=>by rw[e,f];exact h⟩
theorem Zq5:rI0M=rI0:=by
 funext g x y H Q
 exact Zy9
def rIM (C:Int→Int→Prop) (g:Int→Int→V):R2
 | .int i,.int j,H,Q=>C i j∧Q (g i j) H
 | _,_,_,_=>False
theorem Zq4 {C:Int→Int→Prop} {g:Int→Int→V} {i j:Int} {H:Hp} {Q:VK}:rIM C g (.int i) (.int j) H Q=(C i j∧Q (g i j) H):=rfl
theorem Yl3 {C:Int→Int→Prop} {g:Int→Int→V} {x y:V} {H:Hp} {Q:VK}:rIM C g x y H Q=∃ i j,x=.int i∧y=.int j∧C i j∧Q (g i j) H:=propext ⟨fun h=>by
 unfold rIM at h
 split at h
 ·exact⟨_,_,rfl,rfl,h⟩
 ·exact h.elim,fun⟨i,j,e,f,h⟩=>by rw[e,f];exact h⟩
theorem Yt1:rIM=rI:=by
 funext C g x y H Q
 exact Yl3
section
variable {X:Cx}
theorem pvM (i:Nat) {x:Str} {pos:Pos} (hN:X.N[i]?=some x:=by rfl) (hv:Vis X.env.scope x:=by first | exact Or.inl rfl | exact Or.inr (Or.inl rfl) | exact Or.inr (Or.inr rfl)) (hd:(x == ("__debug__":Str))=false:=by decide)
  (hcd:(x == ("__classdict__":Str))=false:=by decide):PE X (.Name x pos) (Yc1 i):=Xa8▸Yt7 hN hv hd hcd
theorem ptcM {a b:Expr} {ta tb:TE} {pos:Pos} {op:CmpOp} {r:R2} (ho:OpR X (compareOp op) r) (ha:PE X a ta) (hb:PE X b tb) (h:op≠.In:=by decide) (h2:op≠.NotIn:=by decide):PT X (.Compare a [op] [b] pos) (Zo6 (tOp r ta tb)):=Yc3▸Yi2 ho ha hb (Zk7 _ h h2)
theorem Zg4 {a b:Expr} {ta tb:TE} {pos:Pos} {op:CmpOp} {r:R2} (ho:OpR X (compareOp op) r) (ha:PE X a ta) (hb:PE X b tb) (hm:behindInMarks op b=false):PT X (.Compare a [op] [b] pos) (Zo6 (tOp r ta tb)):=Yc3▸Yi2 ho ha hb hm
theorem Zd2:OpR X (binaryOp .Add) (rI0M fun i j=>.int (i+j)):=Zq5▸Xr5
theorem Zg9:OpR X (binaryOp .Sub) (rI0M fun i j=>.int (i - j)):=Zq5▸Xr1
theorem Zt9:OpR X (binaryOp .Mult) (rIM CMul fun i j=>.int (i*j)):=Yt1▸Xr3
theorem Zc3:OpR X (binaryOp .FloorDiv) (rIM CDiv fun i j=>.int (i / j)):=Yt1▸Xi9
theorem Zb8:OpR X (binaryOp .Mod) (rIM (fun _ j=>0 < j) fun i j=>.int (i % j)):=Yt1▸Xr4
theorem Zr5:OpR X (compareOp .Lt) (rI0M fun i j=>.bl (decide (i < j))):=Zq5▸Xz8
theorem Yl8:OpR X (compareOp .LtE) (rI0M fun i j=>.bl (decide (i≤j))):=Zq5▸Xz9
theorem Xf3:OpR X (compareOp .Gt) (rI0M fun i j=>.bl (decide (j < i))):=Zq5▸Wa0
theorem Xf4:OpR X (compareOp .GtE) (rI0M fun i j=>.bl (decide (j≤i))):=Zq5▸Wa1
end
section
variable {α β:Type} {a b:α} {l m:List α} {n:Nat}
theorem zmc {f:α→β}:(a :: l).map f=f a :: l.map f:=rfl
theorem zmn {f:α→β}:([]:List α).map f=[]:=rfl
theorem zlc:(a :: l).length=l.length+1:=rfl
theorem zln:([]:List α).length=0:=rfl
theorem zca:(a :: l)++m=a :: (l++m):=rfl
theorem zna:[]++m=m:=rfl
theorem zrs:List.replicate (n+1) a=a :: List.replicate n a:=rfl
theorem zrz:List.replicate 0 a=[]:=rfl
theorem zg0:(a :: l)[0]?=some a:=rfl
theorem zgs:(a :: l)[n+1]?=l[n]?:=rfl
theorem zgn:([]:List α)[n]?=none:=rfl
theorem zs0:(a :: l).set 0 b=b :: l:=rfl
theorem zss:(a :: l).set (n+1) b=a :: l.set n b:=rfl
theorem zjs {x:Option α}:(some x).join=x:=rfl
theorem zjn:(none:Option (Option α)).join=none:=rfl
end
end L2
namespace KLaw
noncomputable abbrev pg:=PySem.Challenge.pw_ken_k42_no_kind
open PySem L2 Ken
noncomputable def ask:Hd.Ask:=⟨[42,43,44,45,46,47,48,49,50,51,52,53,54,55,56,58,57,59,61,60,62,16,17,18,23,24,25,26,27,28,29,30,31,32,33,34,36,37,38,39,40,63,64],[15,14],[35],[],[Str.ofString "len",Str.ofString "range",Str.ofString "max",Str.ofString "int",Str.ofString "reversed",Str.ofString "list",Str.ofString "zip",Str.ofString "tuple",Str.ofString "isinstance",Str.ofString "bool",Str.ofString "str",Str.ofString "ValueError"]⟩
noncomputable def cask:Hd.ClsAsk:=⟨[1,2,3,4,5,6,7,8,9,10,11,12,21,22],[(6,1)],[(6,[8,2,5,12,4,9]),(6,[7,11,3,10])]⟩
noncomputable def mask:Hd.MoreAsk:=⟨[],[]⟩
noncomputable def tas:List Nat:=[24]
noncomputable def ut:Bool:=false
noncomputable def pls:List Hd.PlRow:=[⟨21,0,Str.ofString "Book.__init__",[Str.ofString "rows",Str.ofString "statements",Str.ofString "numbers"]⟩,⟨22,0,Str.ofString "Asked.__init__",[Str.ofString "term",Str.ofString "front",Str.ofString "kinds"]⟩]
noncomputable def q:Program:=W.view pg [1,2,3,4,5,6,7,8,9,10,11,12,14,15,16,17,18,19,21,22,23,24,25,26,27,28,29,30,31,32,33,34,35,36,37,38,39,40,42,43,44,45,46,47,48,49,50,51,52,53,54,55,56,57,58,59,60,61,62,63,64]
noncomputable def loose:List Str:=[Str.ofString "INNER",Str.ofString "DEEDS"]
open PySem.W.Fast
theorem h1 (w:World):(fun os=>Hd.pre pg w os)=fun os=>Hd.preTo pg w os:=by
 rw[hdPre_eq,hdPreTo_eq]
 kernel_rfl
theorem h2 (w:World):(fun os=>Hd.blk pg w os)=fun os=>Hd.blkTo pg w os:=by
 rw[hdBlk_eq,hdBlkTo_eq]
 kernel_rfl
theorem h3fA (w:World):(fun os=>Hd.evA pg 4908 ⟨397,0,407,82⟩ (World.withFollow w "special-get-raises" false) os)=fun _=>Hd.evATo pg ⟨397,0,407,82⟩:=by
 rw[hdEvA_eq]
 kernel_rfl
theorem h3fB (w:World):(fun os=>Hd.evB pg q loose [] 4908 ⟨397,0,407,82⟩ (World.withFollow w "special-get-raises" false) os)=fun _=>Hd.evBTo q:=by
 rw[hdEvB_eq]
 kernel_rfl
theorem h3fD (w:World):(fun os=>Hd.evD pg q loose [] 4908 ⟨397,0,407,82⟩ (World.withFollow w "special-get-raises" false) os)=fun _=>Hd.evDTo q loose:=by
 rw[hdEvD_eq,hdEvDTo_eq]
 kernel_rfl
theorem h3fC (w:World):(fun os=>Hd.evC pg (Hd.obs10 pg ask cask mask tas pls ut) 4908 ⟨397,0,407,82⟩ (World.withFollow w "special-get-raises" false) os)=fun _=>Hd.evCTo (Hd.val10 pg ask mask pls ut) (World.withFollow w "special-get-raises" false):=by
 rw[hdEvC_eq,hdObs10_eq,hdVal10_eq]
 kernel_rfl
theorem h3f (w:World):(fun os=>Hd.ev pg q loose [] (Hd.obs10 pg ask cask mask tas pls ut) 4908 ⟨397,0,407,82⟩ (World.withFollow w "special-get-raises" false) os)=fun _=>Hd.evTo pg q loose (Hd.val10 pg ask mask pls ut) ⟨397,0,407,82⟩ (World.withFollow w "special-get-raises" false) :=
 Hd.ev_of (h3fA w) (h3fB w) (h3fD w) (h3fC w)
theorem h3tA (w:World):(fun os=>Hd.evA pg 4908 ⟨397,0,407,82⟩ (World.withFollow w "special-get-raises" true) os)=fun _=>Hd.evATo pg ⟨397,0,407,82⟩:=by
 rw[hdEvA_eq]
 kernel_rfl
theorem h3tB (w:World):(fun os=>Hd.evB pg q loose [] 4908 ⟨397,0,407,82⟩ (World.withFollow w "special-get-raises" true) os)=fun _=>Hd.evBTo q:=by
 rw[hdEvB_eq]
 kernel_rfl
theorem h3tD (w:World):(fun os=>Hd.evD pg q loose [] 4908 ⟨397,0,407,82⟩ (World.withFollow w "special-get-raises" true) os)=fun _=>Hd.evDTo q loose:=by
 rw[hdEvD_eq,hdEvDTo_eq]
 kernel_rfl
theorem h3tC (w:World):(fun os=>Hd.evC pg (Hd.obs10 pg ask cask mask tas pls ut) 4908 ⟨397,0,407,82⟩ (World.withFollow w "special-get-raises" true) os)=fun _=>Hd.evCTo (Hd.val10 pg ask mask pls ut) (World.withFollow w "special-get-raises" true):=by
 rw[hdEvC_eq,hdObs10_eq,hdVal10_eq]
 kernel_rfl
theorem h3t (w:World):(fun os=>Hd.ev pg q loose [] (Hd.obs10 pg ask cask mask tas pls ut) 4908 ⟨397,0,407,82⟩ (World.withFollow w "special-get-raises" true) os)=fun _=>Hd.evTo pg q loose (Hd.val10 pg ask mask pls ut) ⟨397,0,407,82⟩ (World.withFollow w "special-get-raises" true) :=
 Hd.ev_of (h3tA w) (h3tB w) (h3tD w) (h3tC w)
theorem h3 (w:World):(fun os=>Hd.ev pg q loose [] (Hd.obs10 pg ask cask mask tas pls ut) 4908 ⟨397,0,407,82⟩ w os)=fun _=>Hd.evTo pg q loose (Hd.val10 pg ask mask pls ut) ⟨397,0,407,82⟩ w :=
 W.byRow2 "special-get-raises" (P:=fun w=>(fun os=>Hd.ev pg q loose [] (Hd.obs10 pg ask cask mask tas pls ut) 4908 ⟨397,0,407,82⟩ w os)=fun _=>Hd.evTo pg q loose (Hd.val10 pg ask mask pls ut) ⟨397,0,407,82⟩ w) h3f h3t w
theorem lft:W.LeftO pg q loose (fun s=>W.xlAt q [] s&&W.recOk [] s) (Hd.hook10 pg ask cask mask tas pls ut).obs (Hd.hook10 pg ask cask mask tas pls ut).val 9940 :=
 Hd.left (by kernel_rfl) rfl (fun s=>by kernel_rfl) h1 h2 h3 rfl
theorem Zl9:Hd.nm (Hd.stAt pg 24)="number_of":=by kernel_rfl
theorem Yc0 (K:W.Frag):(Hd.tabs pg tas K).getD 0 0=Hd.tabAt K "number_of":=congrArg (Hd.tabAt K) Zl9
theorem Yb9 (K:W.Frag):Hd.tabAt K "number_of"∈Hd.tabs pg tas K:=Zl9▸(.head _)
local macro_rules | `(tactic| walk_at "1")=>`(tactic| ((try dsimp only[tFld,sFld,Yc5,Zt1,Yi1,rSlT,Yc4,Yc2,Zl4,Yd2,Yd3,Yd1,Zn4,rInT,iRev,Zt4,tSeq,tAsg,Ya9,tVar,tC,tOp,rI0,rI,rU,tUn,tRet,tIfS,Zv6,tB,Yr9,Zt2,tNil,tCB,Zt5,tTup,tLst,Xh5,tAug,ipI,tAnd,tOr,tNot,Yh4,tBM,tBM0,Zn6,Zn5,rPop,rIxL,rIxT,rIxS,rCat,rEq,rNe,Yi0,tSl,rSlL,Yh2,Zn0,tRev,Yh3,tFs,tFv,tFc,tF0,tKD,rIsi,rEqD,Yd4,Zt3,rIn,Zn1,Xh7,gTup,Yw5,gNil,Yj2,Yj3,L2.start,capt,zmc,zmn,zlc,zln,zca,zna,zrs,zrz,Nat.reduceAdd,Nat.reduceSub,Nat.add_zero,Nat.sub_zero,zg0,zgs,zgn,zs0,zss,zjs,zjn,Zx3,Zq8,Yo6,Zj5,Zx2,Zm6,Yq2,Yq3,Yc1,Zj1,Zo6,Yq4,Zm1,Zq4]);(try simp only[tFld,sFld,Yc5,Zt1,Yi1,rSlT,Yc4,Yc2,Zl4,Yd2,Yd3,Yd1,Zn4,rInT,iRev,Zt4,tSeq,tAsg,Ya9,tVar,tC,tOp,rI0,rI,rU,tUn,tRet,tIfS,Zv6,tB,Yr9,Zt2,tNil,tCB,Zt5,tTup,tLst,Xh5,tAug,ipI,tAnd,tOr,tNot,Yh4,tBM,tBM0,Zn6,Zn5,rPop,rIxL,rIxT,rIxS,rCat,rEq,rNe,Yi0,tSl,rSlL,Yh2,Zn0,tRev,Yh3,tFs,tFv,tFc,tF0,tKD,rIsi,rEqD,Yd4,Zt3,rIn,Zn1,Xh7,gTup,Yw5,gNil,Yj2,Yj3,L2.start,capt,zmc,zmn,zlc,zln,zca,zna,zrs,zrz,Nat.reduceAdd,Nat.reduceSub,Nat.add_zero,Nat.sub_zero,zg0,zgs,zgn,zs0,zss,zjs,zjn,Zx3,Zq8,Yo6,Zj5,Zx2,Zm6,Yq2,Yq3,Yc1,Zj1,Zo6,Yq4,Zm1,Zq4,List.append_nil,Nat.zero_add,Option.some.injEq,V.int.injEq,V.str.injEq,V.ref.injEq,V.bl.injEq,V.ty.injEq,List.cons.injEq,and_true,true_and,exists_eq_left',exists_eq_left,exists_and_left,exists_eq,exists_eq',and_assoc,Zy7,Zs1,Yh8,decide_eq_true_eq,Xe6,Zy9,Yl3])))
local macro_rules | `(tactic| walk_at "2")=>`(tactic| ((try dsimp only[tFld,sFld,Yc5,Zt1,Yi1,rSlT,Yc4,Yc2,Zl4,Yd2,Yd3,Yd1,Zn4,rInT,iRev,Zt4,tFor,tLC,tVar,tC,tOp,rI0,rI,rU,tUn,Zv6,tB,Zt2,tNil,tCB,Zt5,tTup,tLst,ipI,tAnd,tOr,tNot,Yh4,tBM,tBM0,Zn6,Zn5,rPop,rIxL,rIxT,rIxS,rCat,rEq,rNe,Yi0,tSl,rSlL,Yh2,Zn0,tRev,Yh3,tFs,tFv,tFc,tF0,tKD,rIsi,rEqD,Yd4,Zt3,rIn,Zn1,Yj2,Yj3,L2.start,capt,zmc,zmn,zlc,zln,zca,zna,zrs,zrz,Nat.reduceAdd,Nat.reduceSub,Nat.add_zero,Nat.sub_zero,zg0,zgs,zgn,zs0,zss,zjs,zjn,Zx3,Zq8,Yo6,Zj5,Zx2,Zm6,Yq2,Yq3,Yc1,Zj1,Zo6,Yq4,Zm1,Zq4]);(try simp only[tFld,sFld,Yc5,Zt1,Yi1,rSlT,Yc4,Yc2,Zl4,Yd2,Yd3,Yd1,Zn4,rInT,iRev,Zt4,tFor,tLC,tVar,tC,tOp,rI0,rI,rU,tUn,Zv6,tB,Zt2,tNil,tCB,Zt5,tTup,tLst,ipI,tAnd,tOr,tNot,Yh4,tBM,tBM0,Zn6,Zn5,rPop,rIxL,rIxT,rIxS,rCat,rEq,rNe,Yi0,tSl,rSlL,Yh2,Zn0,tRev,Yh3,tFs,tFv,tFc,tF0,tKD,rIsi,rEqD,Yd4,Zt3,rIn,Zn1,Yj2,Yj3,L2.start,capt,zmc,zmn,zlc,zln,zca,zna,zrs,zrz,Nat.reduceAdd,Nat.reduceSub,Nat.add_zero,Nat.sub_zero,zg0,zgs,zgn,zs0,zss,zjs,zjn,Zx3,Zq8,Yo6,Zj5,Zx2,Zm6,Yq2,Yq3,Yc1,Zj1,Zo6,Yq4,Zm1,Zq4,List.append_nil,Nat.zero_add,Option.some.injEq,V.int.injEq,V.str.injEq,V.ref.injEq,V.bl.injEq,V.ty.injEq,List.cons.injEq,and_true,true_and,exists_eq_left',exists_eq_left,exists_and_left,exists_eq,exists_eq',and_assoc,Zy7,Zs1,Yh8,decide_eq_true_eq,Xe6,Zy9,Yl3])))
local macro_rules | `(tactic| walk_at "3")=>`(tactic| ((try dsimp only[tFld,sFld,Yc5,Zt1,Yi1,rSlT,Zl4,Yd2,Yd3,Yd1,Zn4,rInT,iRev,Zt4,Ya9,tVar,tC,tOp,rI0,rI,rU,tUn,tIfS,Zv6,tB,Yr9,Zt2,tNil,tCB,Zt5,tTup,tLst,ipI,tAnd,tOr,tNot,Yh4,tBM,tBM0,Zn6,Zn5,rPop,rIxL,rIxT,rIxS,rCat,rEq,rNe,Yi0,tSl,rSlL,Yh2,Zn0,tRev,Yh3,tFs,tFv,tFc,tF0,tKD,rIsi,rEqD,Yd4,Zt3,rIn,Zn1,gTup,Yw5,gNil,Yj2,Yj3,L2.start,capt,zmc,zmn,zlc,zln,zca,zna,zrs,zrz,Nat.reduceAdd,Nat.reduceSub,Nat.add_zero,Nat.sub_zero,zg0,zgs,zgn,zs0,zss,zjs,zjn,Zx3,Zq8,Yo6,Zj5,Zx2,Zm6,Yq2,Yq3,Yc1,Zj1,Zo6,Yq4,Zm1,Zq4]);(try simp only[tFld,sFld,Yc5,Zt1,Yi1,rSlT,Zl4,Yd2,Yd3,Yd1,Zn4,rInT,iRev,Zt4,Ya9,tVar,tC,tOp,rI0,rI,rU,tUn,tIfS,Zv6,tB,Yr9,Zt2,tNil,tCB,Zt5,tTup,tLst,ipI,tAnd,tOr,tNot,Yh4,tBM,tBM0,Zn6,Zn5,rPop,rIxL,rIxT,rIxS,rCat,rEq,rNe,Yi0,tSl,rSlL,Yh2,Zn0,tRev,Yh3,tFs,tFv,tFc,tF0,tKD,rIsi,rEqD,Yd4,Zt3,rIn,Zn1,gTup,Yw5,gNil,Yj2,Yj3,L2.start,capt,zmc,zmn,zlc,zln,zca,zna,zrs,zrz,Nat.reduceAdd,Nat.reduceSub,Nat.add_zero,Nat.sub_zero,zg0,zgs,zgn,zs0,zss,zjs,zjn,Zx3,Zq8,Yo6,Zj5,Zx2,Zm6,Yq2,Yq3,Yc1,Zj1,Zo6,Yq4,Zm1,Zq4,List.append_nil,Nat.zero_add,Option.some.injEq,V.int.injEq,V.str.injEq,V.ref.injEq,V.bl.injEq,V.ty.injEq,List.cons.injEq,and_true,true_and,exists_eq_left',exists_eq_left,exists_and_left,exists_eq,exists_eq',and_assoc,Zy7,Zs1,Yh8,decide_eq_true_eq,Xe6,Zy9,Yl3])))
noncomputable def top (i:Nat):Stmt:=pg.main.body.getD i (.Pass ⟨0,0,0,0⟩)
theorem sc_at0:FnScope ["_law_cell_here","_law_k","_law_first"] ["_law_cell_here","_law_k"] (Za7 (top 42)):=scm (by decide +kernel)
theorem sc_aj0:FnScope ["_law_script","_law_k","_law_cell_here"] ["_law_script","_law_k"] (Za7 (top 43)):=scm (by decide +kernel)
theorem sc_bc0:FnScope ["_law_cell_here","_law_many","_law_some","_law_size_here","_law_at","_law_start"] ["_law_cell_here","_law_many"] (Za7 (top 44)):=scm (by decide +kernel)
theorem Xp4:FnScope ["_law_cell_here","_law_words_here"] ["_law_cell_here","_law_words_here"] (Za7 (top 45)):=scm (by decide +kernel)
theorem sc_ba0:FnScope ["_law_cell_here","_law_size_here","_law_words_here","_law_rest","_law_few","_law_one","_law_other_here"] ["_law_cell_here","_law_size_here","_law_words_here"] (Za7 (top 46)):=scm (by decide +kernel)
section
variable {P:Program} {w:World} {K:W.Frag} {mg:Str→Option Value} {base:Heap}
theorem Xf5 {k:Nat} {f_at0:Addr} {fd_at0:FuncData} (F_at0:Fun K "_law_mix" "_law_mix" (top 42) f_at0 fd_at0):Fk0 P w K mg base (k+1) f_at0 fd_at0 pq1 Zh1:=by
 refine F_at0.ok sc_at0 (fun vs H Q E h=>?_) (fun cdv A outer s H vs Q E hr h=>?_)
 ·obtain⟨c,k,rfl,_⟩:=h
  rfl
 obtain⟨c,k,rfl,h0,h1,q⟩:=h
 refine⟨_,(Za3 (pst 2 sc_at0.nd (Zb3 Zb8 (Zb3 Zt9 (Zb3 Zd2 (pvM 0) Za2) (Zb3 Zd2 Za2 (Zb3 Zt9 Za2 (pvM 1)))) Za2))
 (Za6 (Zb1 (Zb3 Zb8 (Zb3 Zd2 (Zb3 Zd2 (Zb3 Zt9 (Zb3 Zc3 (pvM 2) Za2) Za2) (Zb3 Zt9 (pvM 2) (Zb3 Zd2 (Zb3 Zt9 (pvM 1) (pvM 1)) Za2))) (pvM 1)) Za2)))),?_⟩
 walk_at "1";have a0:0≤(c+1)*(48271+118*k) % 2147483629:=Int.emod_nonneg _ (by decide);have a1:(c+1)*(48271+118*k) % 2147483629 < 2147483629:=Int.emod_lt_of_pos _ (by decide);refine⟨Ya2 (by decide) (by decide),Ye2 (by walk_at "o") (by walk_at "o"),by decide,⟨by decide,by decide⟩,Ye2 (by decide) (by decide),Ya2 (by walk_at "o") (by walk_at "o"),Ya2 (by walk_at "o") (by walk_at "o"),by decide,?_⟩;exact q
theorem Xv2 {k:Nat} {f_aj0:Addr} {fd_aj0:FuncData} (F_aj0:Fun K "_law_cell" "_law_cell" (top 43) f_aj0 fd_aj0) (C__law_mix:Cl P w K mg base k "_law_mix" pq1 (Zh1)) (m_len:mg "len"=none):Fk0 P w K mg base (k+1) f_aj0 fd_aj0 ["_law_script","_law_k"] (Yh7 K):=by
 refine F_aj0.ok sc_aj0 (fun vs H Q E h=>?_) (fun cdv A outer s H vs Q E hr h=>?_)
 ·obtain⟨a,ns,k,rfl,_⟩:=h
  rfl
 obtain⟨a,ns,j,rfl,hS,h63,h0,h1,q⟩:=h
 refine⟨_,(Za3 (pst 2 sc_aj0.nd Za2)
 (Za3 (Zc4 (ptcM (Zr5) (pvM 1) (Zc5 Zc2 (by exact rfl) m_len Zd4 (Za0 (pvM 0) Za1)))
  (Za6 (pst 2 sc_aj0.nd (Zb3 Zb8 (pxl (pvM 0) (pvM 1)) Za2)))
  Zb2)
 (Za6 (Zb1 (Zc0 C__law_mix hr (Za0 (pvM 2) (Za0 (Zb3 Zd2 (pvM 1) Za2) Za1))))))),?_⟩
 walk_at "1";refine⟨_,.inl hS,?_⟩;rw[List.length_map];have e:cellOf ns j=mix (if j < (ns.length:Int) then (ns[j.toNat]?.getD 0) % 2147483647 else 0) (j+101):=rfl;refine ite2 (fun c=>?_) (fun c=>?_)
 ·rw[if_pos c] at e
  have hj:j.toNat < ns.length:=by walk_at "o"
  refine⟨_,hS,V.int (ns[j.toNat]),?_,_,rfl,by decide,?_⟩
  ·have ej:j=((j.toNat:Nat):Int):=by walk_at "o"
   have q:atI (ns.map V.int) ((j.toNat:Nat):Int)=some (.int ns[j.toNat]):=Zd0 (by rw[List.getElem?_map,List.getElem?_eq_getElem hj]<;>rfl);rw[← ej] at q;exact q
  ·rw[List.getElem?_eq_getElem hj] at e
   rw[e] at q;exact⟨_,_,rfl,by walk_at "o",by walk_at "o",q⟩
 ·rw[if_neg c] at e
  rw[e] at q;exact⟨_,_,rfl,by walk_at "o",by walk_at "o",q⟩
theorem Xf7 {k:Nat} {f_aq0:Addr} {fd_aq0:FuncData} (F_aq0:Fun K "_law_leaf" "_law_leaf" (top 45) f_aq0 fd_aq0) (m_len:mg "len"=none):Fk0 P w K mg base (k+1) f_aq0 fd_aq0 pq5 (Zo7 K):=by
 refine F_aq0.ok Xp4 (fun vs H Q E h=>?_) (fun cdv A outer s H vs Q E hr h=>?_)
 ·obtain⟨a,ns,k,rfl,_⟩:=h
  rfl
 obtain⟨c,wa,ws,rfl,hS,hw,q⟩:=h
 refine⟨_,(Za3 (Zc4 (ptcM (Zd8) (Zb3 Zb8 (pvM 0) Za2) Za2)
  (Za6 (Zb1 (Zb4 (Za0 Za9 Za1))))
  Zb2)
 (Za6 (Zb1 (Zb4 (Za0 Za9 (Za0 (pxl (pvM 1) (Zb3 Zb8 (Zb3 Zc3 (pvM 0) Za2) (Zc5 Zc2 (by exact rfl) m_len Zd4 (Za0 (pvM 1) Za1)))) Za1)))))),?_⟩
 walk_at "1";refine⟨by decide,ite2 (fun _=>?_) (fun _=>?_)⟩
 ·exact⟨by decide,fun p hp=>q _ _ _ (Za5 hp _) (Ye7 ws hp)⟩
 ·have hl:((ws.map V.str).length:Int)=ws.length:=by rw[List.length_map]
  have h2:=hw.1;refine⟨⟨by decide,by decide⟩,_,.inl hS,by rw[hl];walk_at "o",_,hS,?_⟩;rw[hl];obtain⟨v,hv,e⟩:=Xm2 (xs:=ws.map V.str) (i:=c / 6 % (ws.length:Int)) (Int.emod_nonneg _ (by walk_at "o")) (by rw[hl];exact Int.emod_lt_of_pos _ (by walk_at "o"));obtain⟨x,hx,rfl⟩:=List.mem_map.mp hv;exact⟨_,e,by decide,fun p hp=>q _ _ _ (Za5 hp _) (Yu8 hx hp)⟩
theorem Xt8 {k n:Nat} {f_ba0:Addr} {fd_ba0:FuncData} (F_ba0:Fun K "_law_statement" "_law_statement" (top 46) f_ba0 fd_ba0) (G_ba0:Fk0 P w K mg base k f_ba0 fd_ba0 pq4 (Zg0 K n)) (m_ba0:MgI mg "_law_statement" f_ba0) (k_ba0:KpI K f_ba0) (b_ba0:Binds K fd_ba0 pq4 []) (C__law_mix:Cl P w K mg base k "_law_mix" pq1 (Zh1)) (C__law_leaf:Cl P w K mg base k "_law_leaf" pq5 (Zo7 K)):Fk0 P w K mg base (k+1) f_ba0 fd_ba0 pq4 (Zg0 K (n+1)):=by
 refine F_ba0.ok sc_ba0 (fun vs H Q E h=>?_) (fun cdv A outer s H vs Q E hr h=>?_)
 ·obtain⟨c,size,wa,ws,rfl,_⟩:=h
  rfl
 obtain⟨c,size,wa,ws,rfl,hc0,h0,h1,hn,hS,hw,q⟩:=h
 refine⟨_,(Za3 (Zc4 (ptcM (Zr5) (pvM 1) Za2)
  (Za6 (Zb1 (Zc0 C__law_leaf hr (Za0 (Zb3 Zc3 (pvM 0) Za2) (Za0 (pvM 2) Za1)))))
  Zb2)
 (Za3 (Zc4 ((Yd6 (ptcM (Zr5) (pvM 1) Za2) (Zt7 (ptcM (Zd8) (Zb3 Zb8 (Zb3 Zc3 (pvM 0) Za2) Za2) Za2)))).pt
  (Za6 (Zb1 (Zb4 (Za0 Za9 (Za0 (pcl G_ba0 hr m_ba0 k_ba0 b_ba0 (Za0 (Zc0 C__law_mix hr (Za0 (pvM 0) (Za0 Za2 Za1))) (Za0 (Zb3 Zg9 (pvM 1) Za2) (Za0 (pvM 2) Za1)))) (Za0 (Zb4 (Za0 Za9 Za1)) Za1))))))
  Zb2)
 (Za3 (pst 3 sc_ba0.nd (Zb3 Zg9 (pvM 1) Za2))
 (Za3 (pst 4 sc_ba0.nd (Zb3 Zd2 Za2 (Zb3 Zb8 (Zc0 C__law_mix hr (Za0 (pvM 0) (Za0 Za2 Za1))) (Zb3 Zg9 (pvM 3) Za2))))
 (Za3 (Zc4 (ptcM (Xf4) (pvM 1) Za2)
  (Za6 (pst 4 sc_ba0.nd (Zb3 Zd2 (Zb3 Zc3 (pvM 3) Za2) (Zb3 Zb8 (Zc0 C__law_mix hr (Za0 (pvM 0) (Za0 Za2 Za1))) (Zb3 Zc3 (pvM 3) Za2)))))
  Zb2)
 (Za3 (pst 5 sc_ba0.nd (pcl G_ba0 hr m_ba0 k_ba0 b_ba0 (Za0 (Zc0 C__law_mix hr (Za0 (pvM 0) (Za0 Za2 Za1))) (Za0 (pvM 4) (Za0 (pvM 2) Za1)))))
 (Za3 (pst 6 sc_ba0.nd (pcl G_ba0 hr m_ba0 k_ba0 b_ba0 (Za0 (Zc0 C__law_mix hr (Za0 (pvM 0) (Za0 Za2 Za1))) (Za0 (Zb3 Zg9 (pvM 3) (pvM 4)) (Za0 (pvM 2) Za1)))))
 (Za6 (Zb1 (Zb4 (Za0 (pxl (Zc7 (Za0 Za9 (Za0 Za9 (Za0 Za9 (Za0 Za9 Za1))))) (Zb3 Zb8 (pvM 0) Za2)) (Za0 (pvM 5) (Za0 (pvM 6) Za1))))))))))))),?_⟩
 walk_at "1";have h2:=hw.1
 have tail:∀ (few:Int),1≤few→few≤size - 2→rk few < rk size→rk (size - 1 - few) < rk size →
   Zh1 [V.int c,V.int 3] H (fun x H1=>Zg0 K n [x,V.int few,V.ref wa] H1 (fun x H1=>Zh1 [V.int c,V.int 4] H1 (fun x_1 H1=>Zg0 K n [x_1,V.int (size - 1 - few),V.ref wa] H1 (fun x_2 H1 =>
    4≤sizeLine∧∀ (p:Addr),H1 p=none→(0:Int) < 4∧∃ x_3,SqL K (upd H1 p (.lst [V.str "both",V.str "one",V.str "then",V.str "then"])) p x_3∧∃ x_4,atI x_3 (c % 4)=some x_4∧3≤sizeLine ∧
     ∀ (p_1:Addr),upd H1 p (.lst [V.str "both",V.str "one",V.str "then",V.str "then"]) p_1=none→Q (V.ref p_1) (upd (upd H1 p (.lst [V.str "both",V.str "one",V.str "then",V.str "then"])) p_1 (.tup [x_4,x,x_2]))) E0) E0) E0) E0:=by
  intro few f1 f2 r1 r2;refine⟨_,_,rfl,by decide,by decide,?_⟩;refine⟨_,_,_,ws,rfl,Zf0 _ _,by walk_at "o",by walk_at "o",by walk_at "o",hS,hw,fun x H1 a e1 m1=>?_⟩;refine⟨_,_,rfl,by decide,by decide,?_⟩;refine⟨_,_,_,ws,rfl,Zf0 _ _,by walk_at "o",by walk_at "o",by walk_at "o",e1.seq hS,hw,fun y H2 b e2 m2=>?_⟩;refine⟨by decide,fun p hp=>⟨by decide,_,.inl (.inl Za4),_,Xy7 (Int.emod_nonneg _ (by decide)) (Int.emod_lt_of_pos _ (by decide)),by decide,fun p1 hp1=>?_⟩⟩;have k3:KeepL K H2 (upd H2 p (.lst [V.str "both",V.str "one",V.str "then",V.str "then"])):=Zf4 hp;have m1':=m1.mono (e2.keepL.trans k3) (Nat.le_refl _) (Nat.le_refl _);have m2':=m2.mono k3 (Nat.le_refl _) (Nat.le_refl _);refine q _ _ _ (((e1.trans e2).trans (Za5 hp _)).trans (Za5 hp1 _)) ((Ym2 m1' m2' hp1).mono (KeepL.refl _) (by walk_at "o") (by walk_at "o"))
 refine ite2 (fun c3=>?_) (fun c3=>?_)
 ·exact⟨⟨by decide,by decide⟩,_,_,ws,rfl,hS,hw,fun r H' t e m=>q r H' t e (m.mono (KeepL.refl _) (by walk_at "o") (by walk_at "o"))⟩
 have d4:CDiv c 4:=⟨by decide,by decide⟩
 have small:size < 40→∀ m:Int,rk (1+m % (size - 1 - 1)) < rk size∧rk (size - 1 - (1+m % (size - 1 - 1))) < rk size∧1≤1+m % (size - 1 - 1)∧1+m % (size - 1 - 1)≤size - 2:=fun c40 m=>by
  have b0:=Int.emod_nonneg m (show size - 1 - 1≠0 by walk_at "o");have b1:=Int.emod_lt_of_pos m (show 0 < size - 1 - 1 by walk_at "o");exact⟨Ys9 (by walk_at "o") c40 (by walk_at "o"),Ys9 (by walk_at "o") c40 (by walk_at "o"),by walk_at "o",by walk_at "o"⟩
 refine ite2 (fun c40=>?_) (fun c40=>?_)
 ·refine⟨d4,by decide,ite2 (fun c0=>?_) (fun c0=>?_)⟩
  ·refine⟨_,_,rfl,by decide,by decide,?_⟩
   have r0:=Xq0 (by walk_at "o") c40;refine⟨_,_,_,ws,rfl,Zf0 _ _,by walk_at "o",by walk_at "o",by walk_at "o",hS,hw,fun x H1 a e1 m1=>?_⟩;refine⟨by decide,fun p hp=>⟨by decide,fun p1 hp1=>?_⟩⟩;have m1':=m1.mono (Zf4 (o:=.tup [V.str "low"]) hp) (Nat.le_refl _) (Nat.le_refl _);refine q _ _ _ ((e1.trans (Za5 hp _)).trans (Za5 hp1 _)) ((Ym2 (k:=.thn) m1' (Ye7 ws hp) hp1).mono (KeepL.refl _) (by walk_at "o") (by walk_at "o"))
  ·refine⟨_,_,rfl,by decide,by decide,_,rfl,by walk_at "o",ite2 (fun c41=>by walk_at "o") (fun c41=>?_)⟩
   obtain⟨r1,r2,f1,f2⟩:=small c40 (mix c 2);exact tail _ f1 f2 r1 r2
 ·walk_at "o"
theorem Xb0 {f:Addr} {fd:FuncData} {ps:List Str} {k:Nat}:Fk0 P w K mg base k f fd ps (Zg0 K 0):=by
 have no:∀ vs H Q E,¬ Zg0 K 0 vs H Q E:=fun vs H Q E h=>by
  obtain⟨c,size,wa,ws,_,_,_,_,hn,_⟩:=h;exact absurd hn (Nat.not_lt_zero _)
 exact⟨fun vs H Q E h=>absurd h (no vs H Q E),fun A outer s H args us vs Q E _ _ _ _ h=>absurd h (no vs H Q E)⟩
theorem Yz2 {f_ba0:Addr} {fd_ba0:FuncData} (F_ba0:Fun K "_law_statement" "_law_statement" (top 46) f_ba0 fd_ba0) (m_ba0:MgI mg "_law_statement" f_ba0) (b_ba0:Binds K fd_ba0 pq4 [])
  {f_at0:Addr}{fd_at0:FuncData}(G_at0:∀ k,Fk0 P w K mg base (k+1) f_at0 fd_at0 pq1 Zh1)(m_at0:MgI mg "_law_mix" f_at0)(k_at0:KpI K f_at0)(b_at0:Binds K fd_at0 pq1 [])
  {f_aq0:Addr}{fd_aq0:FuncData}(G_aq0:∀ k,Fk0 P w K mg base (k+1) f_aq0 fd_aq0 pq5 (Zo7 K))(m_aq0:MgI mg "_law_leaf" f_aq0)(k_aq0:KpI K f_aq0)(b_aq0:Binds K fd_aq0 pq5 []) :
  ∀ n:Nat,Fk0 P w K mg base (n+1) f_ba0 fd_ba0 pq4 (Zg0 K n)
 | 0=>Xb0
 | n+1=>Xt8 F_ba0 (Yz2 F_ba0 m_ba0 b_ba0 G_at0 m_at0 k_at0 b_at0 G_aq0 m_aq0 k_aq0 b_aq0 n) m_ba0 F_ba0.kp b_ba0 (.of (G_at0 n) m_at0 k_at0 b_at0) (.of (G_aq0 n) m_aq0 k_aq0 b_aq0)
theorem Xt6 {k:Nat} {f_bc0:Addr} {fd_bc0:FuncData} (F_bc0:Fun K "_law_words" "_law_words" (top 44) f_bc0 fd_bc0) (m_range:mg "range"=none):Fk0 P w K mg base (k+1) f_bc0 fd_bc0 ["_law_cell_here","_law_many"] Yk7:=by
 refine F_bc0.ok sc_bc0 (fun vs H Q E h=>?_) (fun cdv A outer s H vs Q E hr h=>?_)
 ·obtain⟨c,m,rfl,_⟩:=h
  rfl
 obtain⟨c,m,rfl,hc0,h0,h1,q⟩:=h
 refine⟨_,(Za3 (pst 2 sc_bc0.nd (Zc7 (Za0 Za9 (Za0 Za9 (Za0 Za9 (Za0 Za9 (Za0 Za9 (Za0 Za9 Za1))))))))
 (Za3 (Zc4 (ptcM (Zd8) (Zb3 Zb8 (pvM 0) Za2) Za2)
  (Za6 (Yl4 (i:=2) sc_bc0.nd rfl (Or.inl rfl) (blk0 (N':=["_law_k"]) (by decide +kernel) (by decide +kernel) rfl (by decide +kernel)) rfl (Zl8 rfl m_range (Za0 Za2 Za1)) (fun _ _ _ _=>(Zc8 (i:=0) (show (["_law_k"]:List Str).Nodup from by decide +kernel) rfl (Or.inl rfl))) (fun _ _ _ _=>(Zb3 Yi4 Za9 (Zb3 Zd2 Za2 (pvM 0)))) rfl))
  Zb2)
 (Za3 (Zc4 (ptcM (Zd8) (Zb3 Zb8 (pvM 0) Za2) Za2)
  (Za3 (Yt2 (i:=3) sc_bc0.nd rfl (Or.inr rfl) (Zb3 Zd2 Za2 (Zb3 Zb8 (Zb3 Zc3 (pvM 0) Za2) Za2)))
 (Za3 (Yt2 (i:=4) sc_bc0.nd rfl (Or.inr rfl) (Zb3 Zb8 (Zb3 Zc3 (pvM 0) Za2) (pvM 3)))
 (Za6 (Yl4 (i:=2) sc_bc0.nd rfl (Or.inl rfl) (blkC (N':=["_law_k","_law_at","_law_size_here"]) (nt:=1) (ci:=[4,3]) ["_law_cell_here","_law_many","_law_some","_law_size_here","_law_at","_law_start"] (Za7 (top 44)) rfl rfl (by decide +kernel) rfl (by decide +kernel) (by decide +kernel) rfl (by decide +kernel)) rfl (Zl8 rfl m_range (Za0 Za2 Za1)) (fun _ _ _ _=>(Zc8 (i:=0) (show (["_law_k","_law_at","_law_size_here"]:List Str).Nodup from by decide +kernel) rfl (Or.inl rfl))) (fun _ _ _ _=>(Zb3 Zw8 (Zb3 Zw8 (Zb3 Yi4 Za9 (pvM 1)) (Xi5 Xx4 Za9 (pvM 0) (fun _ _=>rfl))) (Zb3 Yi4 Za9 (Zb3 Zg9 (Zb3 Zg9 (pvM 2) Za2) (pvM 1))))) rfl))))
  Zb2)
 (Za3 (Zc4 (ptcM (Zd8) (Zb3 Zb8 (pvM 0) Za2) Za2)
  (Za6 (pst 2 sc_bc0.nd (Zc7 (Za0 Za9 (Za0 Za9 (Za0 Za9 (Za0 Za9 (Za0 Za9 (Za0 Za9 Za1)))))))))
  Zb2)
 (Za3 (pst 5 sc_bc0.nd (Zb3 Zb8 (Zb3 Zc3 (pvM 0) Za2) Za2))
 (Za6 (Zb1 (Zj8 Zy6 (Zb3 Zu0 (Zj8 Zy6 (pvM 2) (Zn7 (pvM 5)) Zn8) (Zj8 Zy6 (pvM 2) Zn8 (Zn7 (pvM 5)))) Zn8 (Zn7 (pvM 1)))))))))),?_⟩
 have lit:∀ (ws:List Str) (H1:Hp) (p:Addr),Same H H1→H1 p=none→ws.length=6→(ws.all Xh3)=true→Six H (upd H1 p (.lst (ws.map V.str))) p ws:=fun ws H1 p e hp hl hw =>
  ⟨e.trans (Za5 hp _),e.free hp,Za4,hl,fun x hx=>Xh2 (List.all_eq_true.mp hw x hx)⟩
 refine sqt (fun σ' H'=>∃ p ws x3 x4,σ'=[some (.int c),some (.int m),some (.ref p),x3,x4,none]∧Six H H' p ws) ?_ ?_
 ·intro C hC
  walk_at "1";exact⟨by decide,fun p hp=>hC _ _ ⟨p,["a","b","c","d","e","f"],none,none,rfl,lit ["a","b","c","d","e","f"] H p (Same.refl H) hp rfl (by decide +kernel)⟩⟩
 rintro σ1 H1 ⟨p1,w1,x3,x4,rfl,S1⟩;refine sqt (fun σ' H'=>∃ p ws x3 x4,σ'=[some (.int c),some (.int m),some (.ref p),x3,x4,none]∧Six H H' p ws) ?_ ?_
 ·intro C hC
  walk_at "1";refine⟨by decide,ite2 (fun _=>?_) (fun _=>hC _ _ ⟨p1,w1,x3,x4,rfl,S1⟩)⟩;unfold tLC;walk_at "1";refine⟨by decide,by decide,fun acc hacc=>?_⟩;refine Yf0 (n:=6) (lo:=0) (fun i ys H2=>H2=upd H1 acc (.lst ys)∧∃ ws,ys=ws.map V.str∧ws.length=i∧∀ x∈ws,Word x) ⟨rfl,[],rfl,rfl,by simp⟩ (fun i ys H2 hi ⟨e,ws,e2,e3,_⟩=>?_) (fun i ys H2 hi ⟨e,ws,e2,e3,e4⟩ C' hC'=>?_) (fun ys H2 ⟨e,ws,e2,e3,e4⟩=>?_)
  ·subst e;subst e2
   refine⟨Za4,?_⟩;rw[List.length_map,e3];exact Zf3 (by walk_at "o")
  ·subst e;subst e2
   walk_at "1";refine⟨Yq7,by decide,by walk_at "o",by walk_at "o",?_⟩;refine hC' _ _ Za4 ⟨by rw[Zx7],ws++[Txt.mul "k" (1+(0+(i:Int)))],by rw[List.map_append];rfl,by rw[List.length_append,e3];rfl,fun x hx=>?_⟩;rcases List.mem_append.mp hx with z | z
   ·exact e4 x z
   ·have z':x=Txt.mul "k" (1+(0+(i:Int))):=by simpa using z
    rw[z'];exact Yz8 (c:=107) (by decide) (by decide) (by walk_at "o") (by walk_at "o")
  ·subst e;subst e2
   exact hC _ _ ⟨acc,ws,x3,x4,rfl,S1.1.trans (Za5 hacc _),S1.1.free hacc,Za4,e3,e4⟩
 rintro σ2 H2 ⟨p2,w2,x3,x4,rfl,S2⟩;refine sqt (fun σ' H'=>∃ p ws x3 x4,σ'=[some (.int c),some (.int m),some (.ref p),x3,x4,none]∧Six H H' p ws) ?_ ?_
 ·intro C hC
  walk_at "1";refine⟨by decide,ite2 (fun _=>?_) (fun _=>hC _ _ ⟨p2,w2,x3,x4,rfl,S2⟩)⟩;refine⟨⟨by decide,by decide⟩,by decide,⟨by decide,by decide⟩,by walk_at "o",?_⟩;unfold tLC;walk_at "1";refine⟨by decide,by decide,fun acc hacc=>?_⟩;have a0:=Int.emod_nonneg (c / 32) (show 1+c / 4 % 8≠0 by walk_at "o");have a1:=Int.emod_lt_of_pos (c / 32) (show 0 < 1+c / 4 % 8 by walk_at "o");generalize ea:c / 32 % (1+c / 4 % 8)=at' at a0 a1 ⊢;generalize es:1+c / 4 % 8=size at a1 ⊢
  have hs8:size≤8:=by walk_at "o"
  refine Yf0 (n:=6) (lo:=0) (fun i ys H3=>H3=upd H2 acc (.lst ys)∧∃ ws,ys=ws.map V.str∧ws.length=i∧∀ x∈ws,Word x) ⟨rfl,[],rfl,rfl,by simp⟩ (fun i ys H3 hi ⟨e,ws,e2,e3,_⟩=>?_) (fun i ys H3 hi ⟨e,ws,e2,e3,e4⟩ C' hC'=>?_) (fun ys H3 ⟨e,ws,e2,e3,e4⟩=>?_)
  ·subst e;subst e2
   refine⟨Za4,?_⟩;rw[List.length_map,e3];exact Zf3 (by walk_at "o")
  ·subst e;subst e2
   walk_at "1"
   have hcd:∃ d:Nat,atI ("aghmxz":Str).cps.toList (0+(i:Int))=some d∧97≤d∧d≤122:=by
    have:i=0∨i=1∨i=2∨i=3∨i=4∨i=5:=by walk_at "o"
    rcases this with rfl | rfl | rfl | rfl | rfl | rfl
    ·exact⟨97,rfl,by decide,by decide⟩
    ·exact⟨103,rfl,by decide,by decide⟩
    ·exact⟨104,rfl,by decide,by decide⟩
    ·exact⟨109,rfl,by decide,by decide⟩
    ·exact⟨120,rfl,by decide,by decide⟩
    ·exact⟨122,rfl,by decide,by decide⟩
   obtain⟨d,hd,d1,d2⟩:=hcd
   have l1:(Txt.mul "m" at').length≤8:=by rw[show ("m":Str)=⟨#[109]⟩ from rfl,Yu7];walk_at "o"
   have l2:(Txt.mul "m" (size - 1 - at')).length≤8:=by rw[show ("m":Str)=⟨#[109]⟩ from rfl,Yu7];walk_at "o"
   have l3:(⟨#[d]⟩:Str).length=1:=rfl
   have l4:(Txt.mul "m" at'++(⟨#[d]⟩:Str)).length≤9:=by rw[strLen_append];walk_at "o"
   refine⟨Yq7,by decide,by walk_at "o",by walk_at "o",by decide,d,hd,?_,by decide,by walk_at "o",by walk_at "o",?_,?_⟩
   ·exact Nat.le_of_lt (Zf3 (by walk_at "o"))
   ·exact Nat.le_of_lt (Zf3 (by walk_at "o"))
   refine hC' _ _ Za4 ⟨by rw[Zx7],ws++[Txt.mul "m" at'++(⟨#[d]⟩:Str)++Txt.mul "m" (size - 1 - at')],by rw[List.map_append];rfl,by rw[List.length_append,e3];rfl,fun x hx=>?_⟩;rcases List.mem_append.mp hx with z | z
   ·exact e4 x z
   ·have z':x=Txt.mul "m" at'++(⟨#[d]⟩:Str)++Txt.mul "m" (size - 1 - at'):=by simpa using z
    rw[z'];exact Yz9 (c:=109) (by decide) (by decide) d1 d2 (by walk_at "o") (by walk_at "o") (by walk_at "o")
  ·subst e;subst e2
   exact hC _ _ ⟨acc,ws,_,_,rfl,S2.1.trans (Za5 hacc _),S2.1.free hacc,Za4,e3,e4⟩
 rintro σ3 H3 ⟨p3,w3,x3,x4,rfl,S3⟩;refine sqt (fun σ' H'=>∃ p ws x3 x4,σ'=[some (.int c),some (.int m),some (.ref p),x3,x4,none]∧Six H H' p ws) ?_ ?_
 ·intro C hC
  walk_at "1";refine⟨by decide,ite2 (fun _=>?_) (fun _=>hC _ _ ⟨p3,w3,x3,x4,rfl,S3⟩)⟩;exact⟨by decide,fun p hp=>hC _ _ ⟨p,["low","one","both","then","letter","lows"],_,_,rfl,lit ["low","one","both","then","letter","lows"] H3 p S3.1 hp rfl (by decide +kernel)⟩⟩
 rintro σ4 H4 ⟨p4,w4,x3,x4,rfl,S4⟩;walk_at "1";have b0:=Int.emod_nonneg (c / 256) (show (6:Int)≠0 by decide);have b1:=Int.emod_lt_of_pos (c / 256) (show (0:Int) < 6 by decide);generalize c / 256 % 6=st at b0 b1 ⊢;obtain⟨e4,f4,h4,l4,o4⟩:=S4;refine⟨⟨by decide,by decide⟩,by decide,w4.map V.str,.inl (.inl h4),fun q1 hq1=>⟨w4.map V.str,?_,fun q2 hq2=>?_⟩⟩
 ·exact Xo0 (.inl (.inl h4)) (Zb6 h4 hq1)
 have n21:q2≠q1:=fun z=>by subst z;rw[Za4] at hq2;cases hq2
 refine⟨cutV (w4.map V.str) (some st) none,?_,cutV (w4.map V.str) none (some st),Za4,?_,fun q3 hq3=>⟨_,.inl (.inl Za4),fun q4 hq4=>?_⟩⟩
 ·rw[Zb0 (Ne.symm n21),Za4]
 ·have z1:=Zk2 (w4.map V.str) (some st) none
  have z2:=Zk2 (w4.map V.str) none (some st);rw[List.length_map] at z1 z2;exact Nat.le_of_lt (Zf3 (by walk_at "o"))
 rw[Zv4,Zv4,← List.map_append] at hq4 ⊢;rw[Zv4];have e3':Same H4 (upd (upd (upd H4 q1 (.lst (cutV (w4.map V.str) (some st) none))) q2 (.lst (cutV (w4.map V.str) none (some st)))) q3 (.lst (cutV (w4.map V.str) (some st) none++cutV (w4.map V.str) none (some st)))):=((Za5 hq1 _).trans (Za5 hq2 _)).trans (Za5 hq3 _);rw[Zv4,Zv4,← List.map_append] at e3';have eA:=e4.trans e3'
 have hst:st=((st.toNat:Nat):Int):=by walk_at "o"
 have hm:m=((m.toNat:Nat):Int):=by walk_at "o"
 refine q _ _ _ (eA.trans (Za5 hq4 _)) (eA.free hq4) Za4 ⟨?_,?_,fun x hx=>?_⟩
 ·rw[hst,hm]
  simp only[List.length_take,List.length_drop,List.length_append,HT.sIx_nat,HT.sIx_none,l4];walk_at "o"
 ·rw[hst,hm]
  simp only[List.length_take,List.length_drop,List.length_append,HT.sIx_nat,HT.sIx_none,l4];walk_at "o"
 ·have hx1:=List.mem_of_mem_drop (List.mem_of_mem_take hx)
  rcases List.mem_append.mp hx1 with z | z
  ·exact o4 x (List.mem_of_mem_drop (List.mem_of_mem_take z))
  ·exact o4 x (List.mem_of_mem_drop (List.mem_of_mem_take z))
theorem Xp3:FnScope ["book","row"] ["book","row"] (Za7 (top 23)):=scm (by decide +kernel)
structure ClsB (K:W.Frag) (C:Addr):Prop where
 c:Cls K C
 r:NoAttr K C "rows"
 s:NoAttr K C "statements"
 n:NoAttr K C "numbers"
theorem Xt1 {k:Nat} {A0:BkA} (CB:ClsB K A0.C) {f_bi0:Addr} {fd_bi0:FuncData} (F_bi0:Fun K "noted" "noted" (top 23) f_bi0 fd_bi0) {aPAIRED:Addr} (m_ag0:MgI mg "PAIRED" aPAIRED) (t_PAIRED:∀ H,SqT K H aPAIRED [.str "both",.str "one",.str "then"]) (m_len:mg "len"=none):Fk0 P w K mg base (k+1) f_bi0 fd_bi0 pq18 (Zg2 A0):=by
 refine F_bi0.ok Xp3 (fun vs H Q E h=>?_) (fun cdv A outer s H vs Q E hr h=>?_)
 ·obtain⟨u,r,R,S,t,rfl,_⟩:=h
  rfl
 obtain⟨u,r,R,S,t,rfl,B,⟨ra,rfl,hr0⟩,ho,hd,hl,q⟩:=h;obtain⟨us,h1,h2⟩:=B.rows;obtain⟨vs,h3,h4⟩:=B.sts;obtain⟨kvs,h5,h6,h7,h8⟩:=B.num
 refine⟨_,(Za3 (Zc4 (Xq3 (Yu2 (Xk9 hr) (pvM 1) (Ze1 (pvM 0) rfl)) (by with_unfolding_all rfl))
  (Za3 (Xi2 (Xk9 hr) (Ze1 (pvM 0) rfl) (pvM 1) (Zc5 Zc2 (by exact rfl) m_len Zd4 (Za0 (Ze1 (pvM 0) rfl) Za1)) rfl)
 (Za3 (Zf5 (Zn9 F.plainAttrs_list F.slot_list_append F.type_list_append Ze6 (Ze1 (pvM 0) rfl) (Za0 (pvM 1) Za1)))
 (Za6 (Zc4 (Zg4 (Zg5) (pxt (pvM 1) Za2) (Zf6 (v:=.ref aPAIRED) (by exact rfl) m_ag0 (by exact rfl)) (by with_unfolding_all rfl))
  (Za6 (Zf5 (Zn9 F.plainAttrs_list F.slot_list_append F.type_list_append Ze6 (Ze1 (pvM 0) rfl) (Za0 (Zb4 (Za0 (pxt (pvM 1) Za2) (Za0 (pxl (Ze1 (pvM 0) rfl) (pxt (pvM 1) Za2)) (Za0 (pxl (Ze1 (pvM 0) rfl) (pxt (pvM 1) Za2)) Za1)))) Za1))))
  (Za6 (Zf5 (Zn9 F.plainAttrs_list F.slot_list_append F.type_list_append Ze6 (Ze1 (pvM 0) rfl) (Za0 (pvM 1) Za1))))))))
  Zb2)
 (Za6 (Zb1 (Xi7 (Xk9 hr) (Ze1 (pvM 0) rfl) (pvM 1) (fun _ _=>rfl))))),?_⟩
 have st:∀ {R':List Rw} {S':List Tm} {i:Nat},Bk R' S'→S <+: S'→R'[i]?=some r→S'[i]?=some t:=fun {R' S' i} b pf hi=>by
  have hi':i < S'.length:=by rw[← b.len];exact (List.getElem?_eq_some_iff.mp hi).1
  have e:=List.getElem?_eq_getElem hi';rw[e];rcases b.den i r _ hi e with ⟨u,rfl,z,_⟩ | ⟨kk,x,y,a,c,rfl,_,_,e1,e2,z⟩
  ·cases hd
   rw[z]
  ·have hx:x < S.length:=by rw[← B.bk.len];exact ho.1
   have hy:y < S.length:=by rw[← B.bk.len];exact ho.2
   have hd:(match S[x]?,S[y]? with
     | some x,some y=>some (Tm.nd kk x y)
     | _,_=>none)=some t:=hd
   obtain⟨tl,rfl⟩:=pf;rw[List.getElem?_append_left hx] at e1;rw[List.getElem?_append_left hy] at e2;rw[e1,e2] at hd;cases hd;rw[z]
 refine sqt (fun σ' H'=>σ'=[some (.ref A0.b),some (.ref ra)]∧∃ R' S',SameK A0 H H'∧BkH A0 R' S' H'∧R <+: R'∧S <+: S'∧R'.length≤R.length+1∧r∈R'∧H' ra=some (.tup (r.key.map kV))) ?_ ?_
 ·intro C hC
  walk_at "3";refine⟨_,_,_,B.ins,CB.c,CB.n,_,rfl,_,rfl,_,DGet.t h5 hr0,?_⟩
  by_cases hm:r∈R
  ·obtain⟨i,hi,e⟩:=List.getElem_of_mem hm
   rw[h7 i r (by rw[List.getElem?_eq_getElem hi,e])];exact hC _ _ ⟨rfl,R,S,Same.toK (Same.refl _),B,List.prefix_refl _,List.prefix_refl _,Nat.le_succ _,hm,hr0⟩
  rw[h8 r _ ho hm,if_pos (by rfl)]
  have nrd:A0.lr≠A0.dn:=fun z=>by rw[z,h5] at h1;cases h1
  have nsd:A0.ls≠A0.dn:=fun z=>by rw[z,h5] at h3;cases h3
  have nrt:∀ {a:Addr} {xs:List V},H a=some (.tup xs)→a≠A0.lr∧a≠A0.ls∧a≠A0.dn:=fun {a xs} h=>⟨fun z=>(by rw[z,h1] at h;cases h),fun z=>(by rw[z,h3] at h;cases h),fun z=>(by rw[z,h5] at h;cases h)⟩;have nb:A0.b≠A0.lr∧A0.b≠A0.ls∧A0.b≠A0.dn:=⟨fun z=>(by have:=B.ins;rw[z,h1] at this;cases this),fun z=>(by have:=B.ins;rw[z,h3] at this;cases this),fun z=>(by have:=B.ins;rw[z,h5] at this;cases this)⟩;have lu:=Paired.length h2;have lv:=Paired.length h4;have ls:=B.bk.len;refine Yk9 (D:={ nx:=C,rt:=Q }) (fun σ' H'=>σ'=[some (.ref A0.b),some (.ref ra)]∧SameK A0 H H'∧H' A0.lr=some (.lst us)∧H' A0.ls=some (.lst vs)∧H' A0.dn=some (.dT (putK kvs r.key (.int (R.length:Nat))))) ?_ ?_
  rotate_left
  ·intro C' hC'
   walk_at "1";refine⟨_,_,_,B.ins,CB.c,CB.r,_,rfl,_,rfl,us,.inl (SqL.of h1),_,_,_,B.ins,CB.c,CB.n,_,rfl,_,rfl,_,DPut.t h5 hr0 (Zd5 (by lia)),hC' _ _ ⟨rfl,fun a o _ _ n e=>by rw[Zb0 n];exact e,by rw[Zb0 nrd];exact h1,by rw[Zb0 nsd];exact h3,by rw[Za4,lu]⟩⟩
  rintro σ2 H2 ⟨rfl,s2,k1,k3,k5⟩;refine Yk9 (D:={ nx:=C,rt:=Q }) (fun σ' H'=>σ'=[some (.ref A0.b),some (.ref ra)]∧SameK A0 H H'∧H' A0.lr=some (.lst (us++[.ref ra]))∧H' A0.ls=some (.lst vs)∧H' A0.dn=some (.dT (putK kvs r.key (.int (R.length:Nat))))) ?_ ?_
  rotate_left
  ·intro C' hC'
   walk_at "1";exact⟨_,_,_,s2 _ _ nb.1 nb.2.1 nb.2.2 B.ins,CB.c,CB.r,_,rfl,.inl ⟨rfl,_,SqL.of k1⟩,_,rfl,us,k1,Zd5 (by lia),hC' _ _ ⟨rfl,fun a o n1 n2 n3 e=>by rw[Zb0 n1];exact s2 a o n1 n2 n3 e,Za4,by rw[Zb0 B.ne.symm];exact k3,by rw[Zb0 nrd.symm];exact k5⟩⟩
  rintro σ3 H3 ⟨rfl,s3,l1,l3,l5⟩;have kt3:∀ a xs,H a=some (.tup xs)→H3 a=some (.tup xs):=fun a xs h=>s3 a _ (nrt h).1 (nrt h).2.1 (nrt h).2.2 h;have hr3:=kt3 _ _ hr0;have sr3:SqT K H3 ra (r.key.map kV):=.inl (.inl hr3)
  have fin:∀ {J:Hp} {v:V},Same H3 J→Lt t J v→C [some (.ref A0.b),some (.ref ra)] (upd J A0.ls (.lst (vs++[v]))):=fun {J v} sj hv=>by
   have tup:∀ a xs,J a=some (.tup xs)→upd J A0.ls (.lst (vs++[v])) a=some (.tup xs):=fun a xs h=>by rw[Zb0 (fun z=>by rw[z,sj _ _ l3] at h;cases h)];exact h
   have sk:SameK A0 H (upd J A0.ls (.lst (vs++[v]))):=fun a o n1 n2 n3 e=>by rw[Zb0 n2];exact sj _ _ (s3 a o n1 n2 n3 e)
   refine hC _ _ ⟨rfl,R++[r],S++[t],sk,B.grow h2 h4 h6 h7 h8 (ra:=ra) (fun a xs h=>tup _ _ (sj _ _ (kt3 _ _ h))) (sk _ _ nb.1 nb.2.1 nb.2.2 B.ins) (by rw[Zb0 B.ne];exact sj _ _ l1) (tup _ _ (sj _ _ hr3)) Za4 (hv.keepT tup) (by rw[Zb0 nsd.symm];exact sj _ _ l5) ho hd hm,List.prefix_append _ _,List.prefix_append _ _,by rw[List.length_append];exact Nat.le_refl _,List.mem_append_right _ (.head _),tup _ _ (sj _ _ hr3)⟩
  have ins3:=s3 _ _ nb.1 nb.2.1 nb.2.2 B.ins;have ty3:tyV K "list" (.ref A0.ls) H3:=.inl ⟨rfl,_,SqL.of l3⟩;walk_at "1"
  cases r with
  | sim v =>
   cases v with
   | nd kk a c=>exact absurd rfl (ho kk a c)
   | low =>
    cases hd;refine⟨_,sr3,.str "low",rfl,_,.inr (t_PAIRED H3),rfl,rfl,?_⟩;rw[if_neg (by decide)];exact⟨_,_,_,ins3,CB.c,CB.s,_,rfl,ty3,_,rfl,vs,l3,Zd5 (by lia),fin (Same.refl _) ⟨ra,rfl,hr3⟩⟩
   | ltr x =>
    cases hd;refine⟨_,sr3,.str "letter",rfl,_,.inr (t_PAIRED H3),rfl,rfl,?_⟩;rw[if_neg (by decide)];exact⟨_,_,_,ins3,CB.c,CB.s,_,rfl,ty3,_,rfl,vs,l3,Zd5 (by lia),fin (Same.refl _) ⟨ra,rfl,hr3⟩⟩
  | par kk i j =>
   refine⟨_,sr3,.str kk.str,rfl,_,.inr (t_PAIRED H3),rfl,rfl,?_⟩;rw[if_pos (by cases kk<;>decide)]
   have hi:i < vs.length:=by rw[lv,← ls];exact ho.1
   have hj:j < vs.length:=by rw[lv,← ls];exact ho.2
   refine⟨_,_,_,ins3,CB.c,CB.s,_,rfl,ty3,_,sr3,_,rfl,_,_,_,ins3,CB.c,CB.s,_,rfl,_,sr3,_,rfl,?_⟩;refine⟨_,rfl,vs,(i:Nat),rfl,SqL.of l3,vs[i],Zd0 (List.getElem?_eq_getElem hi),_,_,_,ins3,CB.c,CB.s,_,rfl,_,sr3,_,rfl,_,rfl,vs,(j:Nat),rfl,SqL.of l3,vs[j],Zd0 (List.getElem?_eq_getElem hj),by decide,fun p hp=>?_⟩;have sp:=Za5 hp (.tup [.str kk.str,vs[i],vs[j]]);obtain⟨x,hx,lx⟩:=paired_get h4 (List.getElem?_eq_getElem hi);obtain⟨y,hy,ly⟩:=paired_get h4 (List.getElem?_eq_getElem hj)
   have hd:(match S[i]?,S[j]? with
     | some x,some y=>some (Tm.nd kk x y)
     | _,_=>none)=some t:=hd
   rw[hx,hy] at hd;cases hd;exact⟨_,rfl,vs,sp _ _ l3,Zd5 (by lia),fin sp ⟨p,_,_,rfl,Za4,lx.keepT (fun a xs h=>sp _ _ (kt3 _ _ h)),ly.keepT (fun a xs h=>sp _ _ (kt3 _ _ h))⟩⟩
 rintro σ1 H1 ⟨rfl,R',S',s1,B1,p1,p2,pl,hm,hr1⟩;obtain⟨kvs',g5,g6,g7,g8⟩:=B1.num;obtain⟨i,hi,e⟩:=List.getElem_of_mem hm
 have hi':R'[i]?=some r:=by rw[List.getElem?_eq_getElem hi,e]
 walk_at "1";exact⟨_,_,_,B1.ins,CB.c,CB.n,_,rfl,_,rfl,.int (i:Nat),by rw[← g7 i r hi'];exact DGet.t g5 hr1,q i H1 R' S' s1 B1 p1 p2 pl (st B1.bk p2 hi')⟩
theorem Xo3:FnScope ["statement"] ["statement"] (Za7 (top 16)):=scm (by decide +kernel)
theorem sc_bx0:FnScope ["statement","found","waiting","piece"] ["statement"] (Za7 (top 17)):=scm (by decide +kernel)
theorem Xr6 {k:Nat} {f_ca0:Addr} {fd_ca0:FuncData} (F_ca0:Fun K "within" "within" (top 16) f_ca0 fd_ca0) {aPAIRED:Addr} (m_ag0:MgI mg "PAIRED" aPAIRED) (t_PAIRED:∀ H,SqT K H aPAIRED [.str "both",.str "one",.str "then"]):Fk0 P w K mg base (k+1) f_ca0 fd_ca0 ["statement"] (Zw2):=by
 refine F_ca0.ok Xo3 (fun vs H Q E h=>?_) (fun cdv A outer s H vs Q E hr h=>?_)
 ·obtain⟨v,t,rfl,_⟩:=h
  rfl
 obtain⟨v,t,rfl,hT,q⟩:=h
 refine⟨_,(Za3 (Zc4 (Zg4 (Zg5) (pxt (pvM 0) Za2) (Zf6 (v:=.ref aPAIRED) (by exact rfl) m_ag0 (by exact rfl)) (by with_unfolding_all rfl))
  (Za6 (Zb1 (Zc7 (Za0 (pxt (pvM 0) Za2) (Za0 (pxt (pvM 0) Za2) Za1)))))
  Zb2)
 (Za6 (Zb1 (Zc7 Za1)))),?_⟩
 walk_at "1"
 cases t with
 | low =>
  obtain⟨a,rfl,hs⟩:=Yv0 (K:=K) hT;refine⟨a,rfl,_,hs,_,rfl,_,.inr (t_PAIRED H),rfl,rfl,?_⟩;rw[if_neg (by decide)];exact⟨by decide,fun p hp=>q p _ _ (Za5 hp _) hp Za4 .nil⟩
 | ltr x =>
  obtain⟨a,rfl,hs⟩:=Yu9 (K:=K) hT;refine⟨a,rfl,_,hs,_,rfl,_,.inr (t_PAIRED H),rfl,rfl,?_⟩;rw[if_neg (by decide)];exact⟨by decide,fun p hp=>q p _ _ (Za5 hp _) hp Za4 .nil⟩
 | nd kd x y =>
  obtain⟨a,vx,vy,rfl,hs,hx,hy⟩:=Xg0 (K:=K) hT;refine⟨a,rfl,_,hs,_,rfl,_,.inr (t_PAIRED H),rfl,rfl,?_⟩;rw[if_pos (by cases kd<;>decide)];exact⟨a,rfl,_,hs,_,rfl,a,rfl,_,hs,_,rfl,by decide,fun p hp=>q p _ _ (Za5 hp _) hp Za4 (.cons (hx.k (Zw1 hp)) (.cons (hy.k (Zw1 hp)) .nil))⟩
noncomputable def sumQ (ts:List Tm):Nat:=(ts.map Tm.parts).sum
theorem Zl5 (t:Tm) (ts:List Tm):sumQ (t :: ts)=t.parts+sumQ ts:=by unfold sumQ;rw[List.map_cons,List.sum_cons]
theorem Yk6 (a b:List Tm):sumQ (a++b)=sumQ a+sumQ b:=by unfold sumQ;rw[List.map_append,List.sum_append]
theorem Ys2 (t:Tm):sumQ t.kids+1=t.parts:=by
 cases t with
 | low=>rfl
 | ltr w=>rfl
 | nd k a b=>show sumQ [a,b]+1=1+a.parts+b.parts;rw[Zl5,Zl5];show a.parts+(b.parts+0)+1=_;walk_at "o"
theorem Ya4:∀ ts:List Tm,ts.length≤sumQ ts
 | []=>Nat.le_refl _
 | t :: ts=>by
  rw[Zl5,List.length_cons];have:=Ya4 ts;have:=t.parts_pos;walk_at "o"
theorem Xr9 {k:Nat} {f_bx0:Addr} {fd_bx0:FuncData} (F_bx0:Fun K "pieces" "pieces" (top 17) f_bx0 fd_bx0) (C_within:Cl P w K mg base k "within" ["statement"] (Zw2)):Fk0 P w K mg base (k+1) f_bx0 fd_bx0 ["statement"] (Zw3):=by
 refine F_bx0.ok sc_bx0 (fun vs H Q E h=>?_) (fun cdv A outer s H vs Q E hr h=>?_)
 ·obtain⟨v,t,rfl,_⟩:=h
  rfl
 obtain⟨v,t,rfl,hT,hp,q⟩:=h
 refine⟨_,(Za3 (pst 1 sc_bx0.nd (Zc7 Za1))
 (Za3 (pst 2 sc_bx0.nd (Zc7 (Za0 (pv 0) Za1)))
 (Za3 (Zz2 PassesOwn.never (Zz0 (pv 2) (fun _=>rfl))
  (Za3 (pst 3 sc_bx0.nd (Ye1 F.plainAttrs_list F.slot_list_pop F.type_list_pop Ye3 (pv 2)))
 (Za3 (Zf5 (Zn9 F.plainAttrs_list F.slot_list_append F.type_list_append Ze6 (pv 1) (Za0 (pv 3) Za1)))
 (Za6 (Zf5 (Zn9 F.plainAttrs_list F.slot_list_extend F.type_list_extend Ye5 (pv 2) (Za0 (Xr0 (Zc0 C_within hr (Za0 (pv 3) Za1)) (Xi4 Yr0 Za2)) Za1)))))))
 (Za6 (Zb1 (pv 1)))))),?_⟩
 walk_at "1";refine⟨by decide,fun lt hlt=>⟨by decide,fun lw hlw=>?_⟩⟩;have hlw0:H lw=none:=(Za5 hlt _).free hlw
 have hne:lw≠lt:=fun z=>by subst z;rw[Za4] at hlw;cases hlw
 refine⟨fun m σ' H'=>∃ st ts us ds x3,m=sumQ ts∧σ'=[some v,some (.ref lt),some (.ref lw),x3]∧Same H H'∧H' lt=some (.lst us)∧H' lw=some (.lst st.reverse)∧Paired (LtV H') st ts∧Paired (LtV H') us ds∧ds++ts.flatMap Tm.pre=t.pre∧us.length+sumQ ts≤400,
  ⟨_,[v],[t],[],[],none,rfl,rfl,(Za5 hlt _).trans (Za5 hlw _),?_,Za4,.cons ((hT.k (Zw1 hlt)).k (Zw1 hlw)) .nil,.nil,?_,?_⟩,?_⟩
 ·rw[Zb0 (Ne.symm hne),Za4]
 ·show []++(t.pre++[])=t.pre
  simp
 ·show 0+(t.parts+0)≤400
  walk_at "o"
 rintro m σ1 H1 ⟨st,ts,us,ds,x3,rfl,rfl,e1,h1,h2,hd,hu,ht,hn⟩;refine⟨_,rfl,!st.reverse.isEmpty,.inl ⟨_,SqL.of h2,rfl⟩,?_⟩
 cases hd with
 | nil =>
  rw[if_neg (by decide)];walk_at "1";rw[List.flatMap_nil,List.append_nil] at ht;rw[ht] at hu;exact q lt H1 us e1 hlt h1 hu
 | @cons u i st is hi hst =>
  have hrev:(u :: st).reverse=st.reverse++[u]:=List.reverse_cons;rw[if_pos (by rw[hrev];simp)];refine⟨_,fun σ' H' z=>z,?_⟩;walk_at "1";rw[hrev] at h2;have ne1:lt≠lw:=Ne.symm hne;refine⟨.inl ⟨rfl,_,SqL.of h2⟩,_,h2,u,by simp,?_⟩;rw[List.dropLast_concat];have k1:TKp H1 (upd H1 lw (.lst st.reverse)):=Zl3 h2;rw[Zl5] at hn;have pp:=i.parts_pos
  have h1':upd H1 lw (.lst st.reverse) lt=some (.lst us):=by rw[Zb0 ne1];exact h1
  have k2:TKp H1 (upd (upd H1 lw (.lst st.reverse)) lt (.lst (us++[u]))):=k1.trans (Zl3 h1');refine⟨.inl ⟨rfl,_,SqL.of h1'⟩,_,h1',Zd5 (by walk_at "o"),?_⟩
  have h2lw0:upd (upd H1 lw (.lst st.reverse)) lt (.lst (us++[u])) lw=some (.lst st.reverse):=by rw[Zb0 hne,Za4]
  refine⟨.inl ⟨rfl,_,SqL.of h2lw0⟩,u,i,rfl,hi.k k2,fun r H2 zs e2 hr0 hr2 hz=>?_⟩;have h2lw:=e2 lw _ h2lw0;have h2lt:=e2 lt _ Za4;have l1:=Paired.length hz;have l2:=Paired.length hst;have l3:=Ya4 is;have l4:=Ya4 i.kids;have l5:=Ys2 i;have E2:Same H H2:=((e1.write hlw0).write hlt).trans e2;refine⟨r,rfl,zs,SqL.of hr2,fun p hp=>⟨st.reverse,by rw[Zb0 (Zb6 h2lw hp)];exact h2lw,zs.reverse,Za4,?_,sumQ (i.kids++is),?_,zs++st,i.kids++is,rfl,?_,us++[u],?_,?_,?_,ds++[i],?_,?_,?_⟩⟩
  ·rw[List.length_reverse,List.length_reverse]
   exact Nat.le_of_lt (Zd5 (by walk_at "o"))
  ·rw[Yk6,Zl5];walk_at "o"
  ·exact (E2.trans (Za5 hp _)).write hlw0
  ·rw[Zb0 ne1,Zb0 (Zb6 h2lt hp)];exact h2lt
  ·rw[Za4,List.reverse_append]
  ·have k3:TKp H2 (upd (upd H2 p (.lst zs.reverse)) lw (.lst (st.reverse++zs.reverse))):=(Zw1 hp).trans (Zl3 (by rw[Zb0 (Zb6 h2lw hp)];exact h2lw))
   exact Zj3 (Zf1 k3 hz) (Zf1 ((k2.trans (Zl2 e2)).trans k3) hst)
  ·have k3:TKp H2 (upd (upd H2 p (.lst zs.reverse)) lw (.lst (st.reverse++zs.reverse))):=(Zw1 hp).trans (Zl3 (by rw[Zb0 (Zb6 h2lw hp)];exact h2lw))
   exact Zf1 ((k2.trans (Zl2 e2)).trans k3) (Zj3 hu (.cons hi .nil))
  ·rw[← ht,List.flatMap_append,List.flatMap_cons,Tm.pre_eq i];simp
  ·rw[List.length_append,List.length_singleton,Yk6];walk_at "o"
theorem sc_bd0:FnScope ["statement","of_simple","of_pair","told","piece","first","second"] ["statement","of_simple","of_pair"] (Za7 (top 18)):=scm (by decide +kernel)
theorem Zi2 {α β:Type} {F:α→β→Prop}:∀ {l:List α} {m:List β} {y:β},Paired F l (m++[y])→∃ l' x,l=l'++[x]∧Paired F l' m∧F x y
 | _,[],_,h=>by
  cases h with
  | cons hx t=>cases t;exact⟨[],_,rfl,.nil,hx⟩
 | _,z :: m,_,h=>by
  cases h with
  | cons hx t =>
   obtain⟨l',x,rfl,h1,h2⟩:=Zi2 t;exact⟨_ :: l',x,rfl,.cons hx h1,h2⟩
theorem Yo4 {k:Nat} {τ:Type} {bad:List Addr} {N:Nat} {St:Nat→τ→Hp→Prop} {le:τ→τ→Prop} {R:τ→Tm→V→Prop} (S:SF bad St le R) {ps_of_simple ps_of_pair:List Str} {f_bd0:Addr} {fd_bd0:FuncData} (F_bd0:Fun K "folded" "folded" (top 18) f_bd0 fd_bd0) (C_pieces:Cl P w K mg base k "pieces" ["statement"] (Zw3)) {aPAIRED:Addr} (m_ag0:MgI mg "PAIRED" aPAIRED) (t_PAIRED:∀ H,SqT K H aPAIRED [.str "both",.str "one",.str "then"]) (m_reversed:mg "reversed"=none)
  {f_bu0:Addr}{fd_bu0:FuncData}(G_bu0:Fk0 P w K mg base k f_bu0 fd_bu0 ps_of_simple (Yh6 N bad St le R))(k_bu0:KpI K f_bu0)(b_bu0:Binds K fd_bu0 ps_of_simple [])
  {f_bq0:Addr}{fd_bq0:FuncData}(G_bq0:Fk0 P w K mg base k f_bq0 fd_bq0 ps_of_pair (Yh5 N bad St le R))(k_bq0:KpI K f_bq0)(b_bq0:Binds K fd_bq0 ps_of_pair []):Fk0 P w K mg base (k+1) f_bd0 fd_bd0 pq23 (Zq3 N bad St le R f_bu0 f_bq0):=by
 refine F_bd0.ok sc_bd0 (fun vs H Q E h=>?_) (fun cdv A outer s H vs Q E hr h=>?_)
 ·obtain⟨v,t,s0,rfl,_⟩:=h
  rfl
 obtain⟨v,t,s0,rfl,j0,hT,hp,hN4,q⟩:=h;have hpm:∀ {s1 s2:τ} {us:List V} {fs:List Tm},le s1 s2→Paired (fun u q=>R s1 q u) us fs→Paired (fun u q=>R s2 q u) us fs:=fun k z=>Paired.mapP z fun _ _ y=>S.mono _ _ _ _ k y
 have nbad:∀ {l:Addr},H l=none→l ∉ bad:=fun {l} h z=>by
  obtain⟨o,e⟩:=S.has 0 s0 H l j0 z;rw[h] at e;cases e
 refine⟨_,(Za3 (pst 3 sc_bd0.nd (Zc7 Za1))
 (Za3 (Yd9 PassesOwn.never rfl (Xq7 rfl m_reversed (Za0 (Zc0 C_pieces hr (Za0 (pvM 0) Za1)) Za1)) (Zc8 (i:=4) sc_bd0.nd rfl (Or.inl rfl))
  (Za6 (Zc4 (Zg4 (Zg5) (pxt (pvM 4) Za2) (Zf6 (v:=.ref aPAIRED) (by exact rfl) m_ag0 (by exact rfl)) (by with_unfolding_all rfl))
  (Za3 (pst 5 sc_bd0.nd (Ye1 F.plainAttrs_list F.slot_list_pop F.type_list_pop Ye3 (pvM 3)))
 (Za3 (pst 6 sc_bd0.nd (Ye1 F.plainAttrs_list F.slot_list_pop F.type_list_pop Ye3 (pvM 3)))
 (Za6 (Zf5 (Zn9 F.plainAttrs_list F.slot_list_append F.type_list_append Ze6 (pvM 3) (Za0 (Zz5 (i:=2) G_bq0 hr rfl (Or.inl rfl) k_bq0 b_bq0 .nil Yi3 (Za0 (pxt (pvM 4) Za2) (Za0 (pvM 5) (Za0 (pvM 6) Za1)))) Za1))))))
  (Za6 (Zf5 (Zn9 F.plainAttrs_list F.slot_list_append F.type_list_append Ze6 (pvM 3) (Za0 (Zz5 (i:=1) G_bu0 hr rfl (Or.inl rfl) k_bu0 b_bu0 .nil Yi3 (Za0 (pvM 4) Za1)) Za1)))))))
 (Za6 (Zb1 (pxl (pvM 3) Za2))))),?_⟩
 refine sqt (fun σ' H'=>∃ l,σ'=[some v,some (.ref f_bu0),some (.ref f_bq0),some (.ref l),none,none,none]∧Same H H'∧H l=none∧H' l=some (.lst [])) ?_ ?_
 ·intro C hC
  walk_at "1";exact⟨by decide,fun l hl=>hC _ _ ⟨l,rfl,Za5 hl _,hl,Za4⟩⟩
 rintro σ1 H1 ⟨l,rfl,e1,f1,h1⟩;have nl:=nbad f1;refine sqt (fun σ' H'=>∃ x4 x5 x6 u s',σ'=[some v,some (.ref f_bu0),some (.ref f_bq0),some (.ref l),x4,x5,x6]∧FrB bad H H'∧le s0 s'∧St t.parts s' H'∧H' l=some (.lst [u])∧R s' t u) ?_ ?_
 ·intro C hC
  walk_at "2";refine⟨v,t,rfl,hT.k (Zl2 e1),by walk_at "o",fun r H2 us e2 f2 h2 hu=>⟨r,rfl,us,SqL.of h2,?_⟩⟩;have lu:=Paired.length hu;have l2:=e2 l _ h1;have fr:H r=none:=e1.free f2;have nr:=nbad fr
  have nrl:r≠l:=fun z=>by rw[z] at f2;rw[f2] at h1;cases h1
  have e12:=e1.trans e2;refine Xl3 (D:={ nx:=C,rt:=Q }) (xs:=us) (fun i σ' H'=>∃ x4 x5 x6 ts fs s',σ'=[some v,some (.ref f_bu0),some (.ref f_bq0),some (.ref l),x4,x5,x6]∧FrB bad H H'∧TKp H2 H'∧le s0 s'∧St i s' H'∧H' r=some (.lst us)∧H' l=some (.lst ts)∧Paired (fun u q=>R s' q u) ts fs.reverse∧fs.flatMap Tm.pre=t.pre.drop (us.length - i)∧ts.length≤i)
   ⟨none,none,none,[],[],s0,rfl,.of e12,fun _ _ z=>z,S.refl _,S.keep _ _ _ _ e12 j0,h2,l2,.nil,?_,Nat.le_refl _⟩ (fun i σ' H' _ ⟨x4,x5,x6,ts,fs,s',_,_,_,_,_,h,_⟩=>SqL.of h) (fun i x σ' H' hi hx hI=>?_) (fun σ' H' hI=>?_)
  ·rw[Nat.sub_zero,lu,List.drop_length];rfl
  ·obtain⟨x4,x5,x6,ts,fs,s',rfl,e,kk,hle,hst,hr',hl',hp',hf,hn⟩:=hI
   obtain⟨q',hs',hxT⟩:=paired_get hu hx
   have hj:us.length - 1 - i < t.pre.length:=by rw[← lu];walk_at "o"
   obtain⟨q2,rest,g1,g2,g3⟩:=Zz3 t _ hj;rw[hs'] at g1;cases g1;have hxT':=hxT.k kk
   have ej:us.length - i=us.length - 1 - i+1:=by walk_at "o"
   have dr:t.pre.drop (us.length - i)=q'.kids.flatMap Tm.pre++rest:=by
    have:=congrArg List.tail g2;rw[List.tail_drop,← ej,q'.pre_eq,List.cons_append,List.tail_cons] at this;exact this
   rw[dr] at hf
   have eu:us.length - (i+1)=us.length - 1 - i:=by walk_at "o"
   have lp:t.pre.length≤400:=by rw[Tm.pre_len];walk_at "o"
   have lpp:t.pre.length=t.parts:=Tm.pre_len t
   have fin:∀ (ts':List V) (fs':List Tm) (H4:Hp) (u:V) (s4:τ),FrB bad H H4→TKp H2 H4→le s0 s4→St (i+1) s4 H4→H4 r=some (.lst us)→H4 l=some (.lst ts')→Paired (fun u q=>R s4 q u) ts' fs'.reverse→ts'.length≤i→fs'.flatMap Tm.pre=rest→R s4 q' u →
     FrB bad H (upd H4 l (HO.lst (ts'++[u])))∧TKp H2 (upd H4 l (HO.lst (ts'++[u])))∧∃ x x_1 x_2,le s0 x_2∧St (i+1) x_2 (upd H4 l (HO.lst (ts'++[u])))∧upd H4 l (HO.lst (ts'++[u])) r=some (HO.lst us)∧upd H4 l (HO.lst (ts'++[u])) l=some (HO.lst x)∧Paired (fun u q=>R x_2 q u) x x_1.reverse∧List.flatMap Tm.pre x_1=List.drop (us.length - (i+1)) t.pre∧x.length≤i+1:=fun ts' fs' H4 u s4 a1 a2 a3 a4 a5 a6 a7 a8 a9 a10=>by
    refine⟨a1.write f1,a2.trans (Zl3 a6),ts'++[u],q' :: fs',s4,a3,S.put _ _ _ _ _ _ a6 nl a4,by rw[Zb0 nrl];exact a5,Za4,?_,?_,?_⟩
    ·rw[List.reverse_cons];exact Zj3 a7 (.cons a10 .nil)
    ·rw[List.flatMap_cons,a9,eu,g2]
    ·rw[List.length_append,List.length_singleton];walk_at "o"
   walk_at "1"
   cases q' with
   | low =>
    obtain⟨a,rfl,hs⟩:=Yv0 (K:=K) hxT';refine⟨a,rfl,_,hs,_,rfl,_,.inr (t_PAIRED H'),rfl,rfl,?_⟩;rw[if_neg (by decide)];refine⟨.inl ⟨rfl,_,SqL.of hl'⟩,_,.low,s',i,rfl,by walk_at "o",hst,hxT',rfl,fun u H3 s3 e3 le3 st3 ru=>?_⟩;exact⟨_,e3 _ _ nl hl',Zd5 (by walk_at "o"),fin ts fs H3 u s3 (e.trans e3) (kk.trans (S.tup _ _ _ _ hst e3)) (S.trans _ _ _ hle le3) st3 (e3 _ _ nr hr') (e3 _ _ nl hl') (hpm le3 hp') hn hf ru⟩
   | ltr w =>
    obtain⟨a,rfl,hs⟩:=Yu9 (K:=K) hxT';refine⟨a,rfl,_,hs,_,rfl,_,.inr (t_PAIRED H'),rfl,rfl,?_⟩;rw[if_neg (by decide)];refine⟨.inl ⟨rfl,_,SqL.of hl'⟩,_,.ltr w,s',i,rfl,by walk_at "o",hst,hxT',rfl,fun u H3 s3 e3 le3 st3 ru=>?_⟩;exact⟨_,e3 _ _ nl hl',Zd5 (by walk_at "o"),fin ts fs H3 u s3 (e.trans e3) (kk.trans (S.tup _ _ _ _ hst e3)) (S.trans _ _ _ hle le3) st3 (e3 _ _ nr hr') (e3 _ _ nl hl') (hpm le3 hp') hn hf ru⟩
   | nd kd a b =>
    obtain⟨p,vx,vy,rfl,hs,hx1,hy1⟩:=Xg0 (K:=K) hxT';refine⟨p,rfl,_,hs,_,rfl,_,.inr (t_PAIRED H'),rfl,rfl,?_⟩;rw[if_pos (by cases kd<;>decide)];rw[show Tm.kids (.nd kd a b)=[a,b] from rfl,List.flatMap_cons,List.flatMap_cons,List.flatMap_nil,List.append_nil,List.append_assoc] at hf;obtain⟨fs1,rfl,hf1⟩:=Zo1 hf;obtain⟨fs2,rfl,hf2⟩:=Zo1 hf1;rw[List.reverse_cons,List.reverse_cons] at hp';obtain⟨ts1,u1,rfl,hp1,r1⟩:=Zi2 hp';obtain⟨ts2,u2,rfl,hp2,r2⟩:=Zi2 hp1;rw[List.length_append,List.length_append,List.length_singleton,List.length_singleton] at hn;refine⟨.inl ⟨rfl,_,SqL.of hl'⟩,_,hl',u1,by simp,?_⟩;rw[List.dropLast_concat];refine⟨.inl ⟨rfl,_,SqL.of Za4⟩,_,Za4,u2,by simp,?_⟩;rw[List.dropLast_concat,Zx7];have k1:KeepT K H' (upd H' l (.lst ts2)):=Zj4 hl';have hst1:=S.put _ _ _ _ _ (.lst ts2) hl' nl hst
    have hr1:upd H' l (.lst ts2) r=some (.lst us):=by rw[Zb0 nrl];exact hr'
    have hl1:upd H' l (.lst ts2) l=some (.lst ts2):=Za4;refine⟨.inl ⟨rfl,_,SqL.of Za4⟩,p,rfl,_,k1 _ _ hs,_,rfl,kd,a,b,u1,u2,s',i,rfl,by walk_at "o",hst1,r1,r2,fun u H3 s3 e3 le3 st3 ru=>?_⟩;exact⟨_,e3 _ _ nl hl1,Zd5 (by walk_at "o"),fin ts2 fs2 H3 u s3 ((e.write f1).trans e3) ((kk.trans (Zl3 hl')).trans (S.tup _ _ _ _ hst1 e3)) (S.trans _ _ _ hle le3) st3 (e3 _ _ nr hr1) (e3 _ _ nl hl1) (hpm le3 hp2) (by walk_at "o") hf2 ru⟩
  ·obtain⟨x4,x5,x6,ts,fs,s',rfl,e,kk,hle,hst,hr',hl',hp',hf,hn⟩:=hI
   rw[Nat.sub_self,List.drop_zero,← List.append_nil t.pre] at hf;obtain⟨fs',rfl,hf'⟩:=Zo1 hf;rw[Yp6 hf'] at hp'
   cases hp' with
   | cons hu' hnil =>
    cases hnil;exact hC _ _ ⟨x4,x5,x6,_,s',rfl,e,hle,by rw[← Tm.pre_len t,← lu];exact hst,hl',hu'⟩
 rintro σ2 H2 ⟨x4,x5,x6,u,s',rfl,e2,hle,hst,h2,ru⟩;walk_at "1";exact⟨_,SqL.of h2,u,rfl,q _ _ s' e2 hle hst ru⟩
theorem sc_bj0:FnScope ["book","statement","of_simple","of_two"] ["book","statement"] (Za7 (top 24)):=scm (by decide +kernel)
noncomputable abbrev Zb7:Stmt:=Xx7 (top 24) 0
theorem Zk8:FnScopeC ["piece","book"] ["piece"] ["book"] (Za7 Zb7):=⟨rfl,rfl,rfl,by decide +kernel,rfl,by decide +kernel,by decide +kernel,by decide +kernel⟩
noncomputable abbrev Ze0:Str:=("number_of":Str)++Str.ofString ".<locals>."++"of_simple"
theorem Zl1:∀ y∈(Za7 Zb7).names,y.2=NameKind.free→(Za7 (top 24)).names.lookup y.1=some NameKind.cell:=by decide +kernel
noncomputable abbrev Zb9:Stmt:=Xx7 (top 24) 1
theorem Zn3:FnScopeC ["name","first","second","book"] ["name","first","second"] ["book"] (Za7 Zb9):=⟨rfl,rfl,rfl,by decide +kernel,rfl,by decide +kernel,by decide +kernel,by decide +kernel⟩
noncomputable abbrev Ze9:Str:=("number_of":Str)++Str.ofString ".<locals>."++"of_two"
theorem Zo4:∀ y∈(Za7 Zb9).names,y.2=NameKind.free→(Za7 (top 24)).names.lookup y.1=some NameKind.cell:=by decide +kernel
theorem Zk9 {k:Nat} {cl:List (Str×Addr)} {f:Addr} {fd:FuncData} (F:FunC K "of_simple" Ze0 Zb7 cl f fd) {A0:BkA} {N n:Nat} (hn:n+N≤100000)
  (C:Caught K (Za7 Zb7) cl ["book"] [.ref A0.b]) (C_noted:Cl P w K mg base k "noted" pq18 (Zg2 A0)):Fk0 P w K mg base (k+1) f fd ["piece"] (Yh6 N (badK A0) (StB A0 n) leB RB):=by
 refine F.ok Zk8 C (fun vs H Q E h=>?_) (fun cdv A outer s H vs Q E hr h=>?_)
 ·obtain⟨v,t,s,i,rfl,_⟩:=h
  rfl
 obtain⟨v,t,s,i,rfl,hi,⟨B,hl⟩,hT,hk,q⟩:=h
 have row:RowV H v (.sim t)∧∀ k a b,t≠.nd k a b:=by
  cases t with
  | low=>obtain⟨a,e,h⟩:=hT;exact⟨⟨a,e,h⟩,fun _ _ _ z=>nomatch z⟩
  | ltr x=>obtain⟨a,e,h⟩:=hT;exact⟨⟨a,e,h⟩,fun _ _ _ z=>nomatch z⟩
  | nd kk a b=>cases hk
 refine⟨_,(Za6 (Zb1 (Zc0 C_noted hr (Za0 (pvM 1) (Za0 (pvM 0) Za1))))),?_⟩;walk_at "1";exact⟨v,.sim t,s.1,s.2,t,rfl,B,row.1,row.2,rfl,by walk_at "o",fun k H' R' S' e B' p1 p2 pl hk=>q _ H' (R',S') e.fr ⟨p1,p2⟩ ⟨B',by show R'.length≤_;walk_at "o"⟩ ⟨k,rfl,hk⟩⟩
theorem Zo0 {k:Nat} {cl:List (Str×Addr)} {f:Addr} {fd:FuncData} (F:FunC K "of_two" Ze9 Zb9 cl f fd) {A0:BkA} {N n:Nat} (hn:n+N≤100000)
  (C:Caught K (Za7 Zb9) cl ["book"] [.ref A0.b]) (C_noted:Cl P w K mg base k "noted" pq18 (Zg2 A0)):Fk0 P w K mg base (k+1) f fd ["name","first","second"] (Yh5 N (badK A0) (StB A0 n) leB RB):=by
 refine F.ok Zn3 C (fun vs H Q E h=>?_) (fun cdv A outer s H vs Q E hr h=>?_)
 ·obtain⟨kk,a,b,x,y,s,i,rfl,_⟩:=h
  rfl
 obtain⟨kk,a,b,x,y,s,i,rfl,hi,⟨B,hl⟩,⟨ka,rfl,ha⟩,⟨kb,rfl,hb⟩,q⟩:=h;refine⟨_,(Za6 (Zb1 (Zc0 C_noted hr (Za0 (pvM 3) (Za0 (Zb4 (Za0 (pvM 0) (Za0 (pvM 1) (Za0 (pvM 2) Za1)))) Za1))))),?_⟩;walk_at "1";refine⟨by decide,fun p hp=>?_⟩;have sp:=Za5 hp (.tup [.str kk.str,.int (ka:Nat),.int (kb:Nat)]);have la:=(List.getElem?_eq_some_iff.mp ha).1;have lb:=(List.getElem?_eq_some_iff.mp hb).1;refine⟨_,.par kk ka kb,s.1,s.2,.nd kk a b,rfl,B.keep sp,⟨p,rfl,Za4⟩,⟨by rw[B.bk.len];exact la,by rw[B.bk.len];exact lb⟩,?_,by walk_at "o",fun k H' R' S' e B' p1 p2 pl hk=>q _ H' (R',S') (FrB.trans (.of sp) e.fr) ⟨p1,p2⟩ ⟨B',by show R'.length≤_;walk_at "o"⟩ ⟨k,rfl,hk⟩⟩
 show (match s.2[ka]?,s.2[kb]? with
  | some x,some y=>some (Tm.nd kk x y)
  | _,_=>none)=_
 rw[ha,hb]
noncomputable def Zc6:List (Pos×Str):=[(posOf Zb7,Ze0),(posOf Zb9,Ze9)]
theorem Xt0 {j:Nat} {T:Addr} {f_bj0:Addr} {fd_bj0:FuncData} (F_bj0:FunT K "number_of" "number_of" (top 24) f_bj0 fd_bj0 T) (hB:∀ h,K.In h→h.BuiltinsAt mg T) (hT:mainGlobals≠T) {A0:BkA}
  {f_bd0:Addr}{fd_bd0:FuncData}(m_bd0:MgI mg "folded" f_bd0)(k_bd0:KpI K f_bd0)(b_bd0:Binds K fd_bd0 pq23 [])
  {f_bi0:Addr}{fd_bi0:FuncData}(G_bi0:∀ K' base,KLe K K'→FnOk P w K' mg base CX0 j f_bi0 fd_bi0 pq18 (Zg2 A0))(m_bi0:MgI mg "noted" f_bi0)(k_bi0:∀ K',KLe K K'→W.keepIn K' (.ref f_bi0)=true)(b_bi0:Binds K fd_bi0 pq18 [])
  (GF:∀ (K':W.Frag) (base:Heap) (n:Nat) (f1 f2:Addr) (fd1 fd2:FuncData),KLe K K' →
   FnOk P w K' mg base CX0 (j+1) f1 fd1 ["piece"] (Yh6 400 (badK A0) (StB A0 n) leB RB)→W.keepIn K' (.ref f1)=true→Binds K' fd1 ["piece"] [] →
   FnOk P w K' mg base CX0 (j+1) f2 fd2 ["name","first","second"] (Yh5 400 (badK A0) (StB A0 n) leB RB)→W.keepIn K' (.ref f2)=true→Binds K' fd2 ["name","first","second"] [] →
   FnOk P w K' mg base CX0 (j+2) f_bd0 fd_bd0 pq23 (Zq3 400 (badK A0) (StB A0 n) leB RB f1 f2)) :
  Fk0 P w K mg base (j+3) f_bj0 fd_bj0 pq19 (Zg1 A0 ⟨T,Zc6⟩):=by
 refine F_bj0.ok sc_bj0 (fun vs H Q E h=>?_) (fun c A outer s H vs Q E hC hr h=>?_)
 ·obtain⟨v,t,R,S,rfl,_⟩:=h
  rfl
 obtain⟨v,t,R,S,rfl,⟨B,tab⟩,hT1,hp,hR,q⟩:=h
 have hix:∀ i∈([0]:List Nat),∃ x,(["book","statement","of_simple","of_two"]:List Str)[i]?=some x∧(Za7 (top 24)).names.lookup x=some .cell∧(fun _:Str=>true) x=true:=by
  intro i hi;simp only[List.mem_cons,List.not_mem_nil,or_false] at hi;subst hi;exact⟨"book",rfl,rfl,rfl⟩
 refine⟨_,(Za3 (Yt3 (st:=Zb7) (i:=2) (qual:=Ze0) (ds:=Zc6) rfl sc_bj0.nd rfl (Or.inl rfl) (Zk3 (fun y hy hf=>Zs7 (Zl1 y hy hf))) rfl hC hB hT rfl (by simp[Zc6]) (by decide +kernel) rfl rfl rfl)
 (Za3 (Yt3 (st:=Zb9) (i:=3) (qual:=Ze9) (ds:=Zc6) rfl sc_bj0.nd rfl (Or.inl rfl) (Zk3 (fun y hy hf=>Zs7 (Zo4 y hy hf))) rfl hC hB hT rfl (by simp[Zc6]) (by decide +kernel) rfl rfl rfl)
 (Za6 (Zb1 (Xc2 (ix:=[0]) hr (by exact rfl) m_bd0 k_bd0 b_bd0 hix (Za0 (pvM 1) (Za0 (pvM 2) (Za0 (pvM 3) Za1)))))))),?_⟩
 generalize hX:(cxOf CX0 P w K mg base ["book","statement","of_simple","of_two"] "number_of" (Za7 (top 24)) f_bj0 (.ref c) A outer s H E).nox=X
 have eP:X.prog=P:=by rw[← hX];rfl
 have ew:X.w=w:=by rw[← hX];rfl
 have eK:X.K=K:=by rw[← hX];rfl
 have em:X.mg=mg:=by rw[← hX];rfl
 have eN:X.N=(["book","statement","of_simple","of_two"]:List Str):=by rw[← hX];rfl
 have ec:(PyProof.Rows.envOfC "number_of" (Za7 (top 24)) s.heap.objs.size f_bj0 (.ref c)).cells=X.env.cells:=by rw[← hX];rfl
 refine sqt (fun σ' H'=>∃ f1,σ'=[some (.ref A0.b),some v,some (.ref f1),none]∧SameU T H H'∧TabOk H' T Zc6∧FnFz H' f1 "of_simple" Ze0 (Zd3 Zb7) (Zc9 Zb7) (Za7 Zb7) (Zl0 X.env.cells (Za7 Zb7).names [])) ?_ ?_
 ·intro C hC'
  exact⟨tab,fun f H' n sm tb fn=>hC' _ _ ⟨f,rfl,sm,tb,ec▸fn⟩⟩
 rintro σ1 H1 ⟨f1,rfl,s1,tb1,fn1⟩;refine sqt (fun σ' H'=>∃ f2,σ'=[some (.ref A0.b),some v,some (.ref f1),some (.ref f2)]∧SameU T H1 H'∧TabOk H' T Zc6∧FnFz H' f2 "of_two" Ze9 (Zd3 Zb9) (Zc9 Zb9) (Za7 Zb9) (Zl0 X.env.cells (Za7 Zb9).names [])) ?_ ?_
 ·intro C hC'
  exact⟨tb1,fun f H' n sm tb fn=>hC' _ _ ⟨f,rfl,sm,tb,ec▸fn⟩⟩
 rintro σ2 H2 ⟨f2,rfl,s2,tb2,fn2⟩;have fn1:=fn1.keep s2.toT;have s3:=s1.trans s2;obtain⟨o1,c1,p1,a1,a2,a3,a4,a5⟩:=fn1.objs;obtain⟨o2,c2,p2,b1,b2,b3,b4,b5⟩:=fn2.objs;show Ys1 X _ _ _ _ [0] _ _ _ _;unfold Ys1;walk_at "1"
 have hfz:∀ p∈[(f1,o1),(c1,p1),(f2,o2),(c2,p2)],H2 p.1=some (FZ p.2):=by
  intro p hp;simp only[List.mem_cons,List.not_mem_nil,or_false] at hp;rcases hp with rfl | rfl | rfl | rfl
  ·exact a1
  ·exact a2
  ·exact b1
  ·exact b2
 refine⟨fun i hi=>?_,[(f1,o1),(c1,p1),(f2,o2),(c2,p2)],hfz,fun K' cs ok kle kback hlk hcs=>?_⟩
 ·simp only[List.mem_cons,List.not_mem_nil,or_false] at hi
  subst hi;exact⟨_,rfl⟩
 rw[eK] at kle kback;obtain⟨fd1,G1⟩:=a5 K' (hlk _ (List.mem_append_left _ (.head _))) (hlk _ (List.mem_append_left _ (.tail _ (.head _))));obtain⟨fd2,G2⟩:=b5 K' (hlk _ (List.mem_append_left _ (.tail _ (.tail _ (.head _))))) (hlk _ (List.mem_append_left _ (.tail _ (.tail _ (.tail _ (.head _))))))
 have cw:Xg7 X K' "book" (.ref A0.b):=by
  cases hcs with
  | cons h1 r1 =>
   cases r1;obtain⟨x1,v1,u1,e1,e2,e3,e4,e5⟩:=h1;rw[eN] at e1;cases e1;cases e2;exact⟨_,_,u1,e3,hlk _ (List.mem_append_right _ (by simp)),e4,e5⟩
 have C1:Caught K' (Za7 Zb7) (Zl0 X.env.cells (Za7 Zb7).names []) ["book"] [.ref A0.b] :=
  Yg3 ok rfl (by decide +kernel) (by decide +kernel) fun i y u e1 e2=>by
   match i,e1,e2 with
   | 0,e1,e2=>cases e1;cases e2;exact cw
 have C2:Caught K' (Za7 Zb9) (Zl0 X.env.cells (Za7 Zb9).names []) ["book"] [.ref A0.b] :=
  Yg3 ok rfl (by decide +kernel) (by decide +kernel) fun i y u e1 e2=>by
   match i,e1,e2 with
   | 0,e1,e2=>cases e1;cases e2;exact cw
 generalize [(f1,o1),(c1,p1),(f2,o2),(c2,p2)]=xs at hlk hfz kback ⊢;have via:∀ a o,(∀ b,o≠FZ b)→(∀ ps,o≠.tbl ps)→H a=some o→remX xs H2 a=some o:=fun a o n m h=>Xi0 hfz a o n (s3.toT a o m h);refine⟨Zq3 400 (badK A0) (StB A0 R.length) leB RB f1 f2,fun base'=>?_,?_⟩
 ·rw[eP,ew,em]
  exact GF K' base' R.length f1 f2 fd1 fd2 kle
   (Zk9 G1 (by walk_at "o") C1 (.of (G_bi0 K' base' kle) m_bi0 (k_bi0 K' kle) (b_bi0.le kle))) G1.kp (G1.binds fun _ _ _ _ us hl=>match us,hl with | [_],_=>rfl)
   (Zo0 G2 (by walk_at "o") C2 (.of (G_bi0 K' base' kle) m_bi0 (k_bi0 K' kle) (b_bi0.le kle))) G2.kp (G2.binds fun _ _ _ _ us hl=>match us,hl with | [_,_,_],_=>rfl)
 have B2:BkH A0 R S H2:=B.via fun a o n m h=>s3.toT a o m h;refine⟨v,t,(R,S),rfl,⟨B.via via,Nat.le_refl _⟩,hT1.k fun a xs h=>via a _ (fun _ z=>nomatch z) (fun _ z=>nomatch z) h,hp,by decide,fun r H3 s' fr le st ⟨k,e,hk⟩ n3=>?_⟩;subst e;have fb:=fr.back;exact q k _ s'.1 s'.2 (FrB.trans (.ofU s3) (fb.mono fun a z=>.tail _ z)) ⟨st.1.via fun a o _ _ h=>Xe5 n3 a o h,TabOk.frB B2 tb2 fb⟩ le.1 le.2 st.2 hk
noncomputable abbrev Xb3:Stmt:=Zq7 (top 21) 0
theorem Xp6:FnScope ["self"] ["self"] (Za7 Xb3):=scm (by decide +kernel)
noncomputable abbrev Xb4:Stmt:=Zq7 (top 22) 0
theorem Xp7:FnScope ["self","term","front"] ["self","term","front"] (Za7 Xb4):=scm (by decide +kernel)
theorem Xv5 {k:Nat} {C0:Addr} (CB:ClsB K C0) {f_ad0:Addr} {fd_ad0:FuncData} (F_ad0:Fun K "__init__" "Book.__init__" Xb3 f_ad0 fd_ad0):Fk0 P w K mg base (k+1) f_ad0 fd_ad0 ["self"] (Zy4 C0):=by
 refine F_ad0.ok Xp6 (fun vs H Q E h=>?_) (fun cdv A outer s H vs Q E hr h=>?_)
 ·obtain⟨x,dx,rfl,_⟩:=h
  rfl
 obtain⟨x,dx,rfl,hx,q⟩:=h
 refine⟨_,(Za3 (Zw6 (pvM 0) (Zc7 Za1) rfl)
 (Za3 (Zw6 (pvM 0) (Zc7 Za1) rfl)
 (Za6 (Zw6 (pvM 0) Xc1 rfl)))),?_⟩
 walk_at "1";refine⟨by decide,fun lr hlr=>?_⟩;have n1:x≠lr:=Zb6 hx hlr;refine⟨_,_,_,by rw[Zb0 n1];exact hx,CB.c,CB.r,by decide,by decide,fun ls hls=>?_⟩
 have n2:ls≠x:=fun z=>by rw[z,Za4] at hls;cases hls
 rw[Zb0 n2] at hls
 have n3:ls≠lr:=fun z=>by rw[z,Za4] at hls;cases hls
 rw[Zb0 n3] at hls;refine⟨_,_,_,by rw[Zb0 n2.symm];exact Za4,CB.c,CB.s,by show 1 < 1000;decide,fun dn hdn=>?_⟩
 have n4:dn≠x:=fun z=>by rw[z,Za4] at hdn;cases hdn
 rw[Zb0 n4] at hdn
 have n5:dn≠ls:=fun z=>by rw[z,Za4] at hdn;cases hdn
 rw[Zb0 n5,Zb0 n4] at hdn
 have n6:dn≠lr:=fun z=>by rw[z,Za4] at hdn;cases hdn
 rw[Zb0 n6] at hdn;refine⟨_,_,_,by rw[Zb0 n4.symm];exact Za4,CB.c,CB.n,by show 2 < 1000;decide,q lr ls dn _ (fun a o m e=>?_) Za4 ?_ ?_ ?_ hlr hls hdn n3.symm⟩
 ·have m:a≠x:=fun z=>m (by rw[z];exact .head _)
  rw[Zb0 m,Zb0 (Zb6 e hdn),Zb0 m,Zb0 (Zb6 e hls),Zb0 m,Zb0 (Zb6 e hlr)];exact e
 ·rw[Zb0 n1.symm,Zb0 n6.symm,Zb0 n1.symm,Zb0 n3.symm,Zb0 n1.symm];exact Za4
 ·rw[Zb0 n2,Zb0 n5.symm,Zb0 n2];exact Za4
 ·rw[Zb0 n4];exact Za4
theorem Xv6 {k:Nat} {C0:Addr} (c:Cls K C0) (n1:NoAttr K C0 "term") (n2:NoAttr K C0 "front") (n3:NoAttr K C0 "kinds") {f_ab0:Addr} {fd_ab0:FuncData} (F_ab0:Fun K "__init__" "Asked.__init__" Xb4 f_ab0 fd_ab0):Fk0 P w K mg base (k+1) f_ab0 fd_ab0 pq21 (Zs0 C0):=by
 refine F_ab0.ok Xp7 (fun vs H Q E h=>?_) (fun cdv A outer s H vs Q E hr h=>?_)
 ·obtain⟨x,dx,t,f,rfl,_⟩:=h
  rfl
 obtain⟨x,dx,t,f,rfl,hx,q⟩:=h
 refine⟨_,(Za3 (Zw6 (pvM 0) (pvM 1) rfl)
 (Za3 (Zw6 (pvM 0) (pvM 2) rfl)
 (Za6 (Zw6 (pvM 0) (Zc7 Za1) rfl)))),?_⟩
 walk_at "1";refine⟨_,_,_,hx,c,n1,by decide,_,_,_,Za4,c,n2,by show 1 < 1000;decide,by decide,fun lk hlk=>?_⟩;rw[Zx7] at hlk ⊢
 have m1:lk≠x:=fun z=>by rw[z,Za4] at hlk;cases hlk
 refine⟨_,_,_,by rw[Zb0 m1.symm];exact Za4,c,n3,by show 2 < 1000;decide,?_⟩;rw[Zb0 m1] at hlk;refine q lk _ (fun a o m e=>?_) Za4 (by rw[Zb0 m1];exact Za4) hlk;have m:a≠x:=fun z=>m (by rw[z];exact .head _);rw[Zb0 m,Zb0 (Zb6 e hlk),Zb0 m];exact e
theorem sc_bz0:FnScope ["book","number","name","row"] ["book","number","name"] (Za7 (top 25)):=scm (by decide +kernel)
theorem Xo7:FnScope ["book","term","kinds"] ["book","term","kinds"] (Za7 (top 26)):=scm (by decide +kernel)
theorem Xo9:FnScope ["book","term","kinds"] ["book","term","kinds"] (Za7 (top 27)):=scm (by decide +kernel)
theorem Xo6:FnScope ["book","term","kinds"] ["book","term","kinds"] (Za7 (top 28)):=scm (by decide +kernel)
theorem Xp1:FnScope ["book","term","kinds"] ["book","term","kinds"] (Za7 (top 29)):=scm (by decide +kernel)
theorem Xo5:FnScope ["book","term","kinds"] ["book","term","kinds"] (Za7 (top 30)):=scm (by decide +kernel)
theorem Xp2:FnScope ["book","term","kinds"] ["book","term","kinds"] (Za7 (top 31)):=scm (by decide +kernel)
theorem Xp0:FnScope ["book","term","kinds"] ["book","term","kinds"] (Za7 (top 32)):=scm (by decide +kernel)
theorem sc_bw0:FnScope ["book","term","kinds","row"] ["book","term","kinds"] (Za7 (top 33)):=scm (by decide +kernel)
theorem Xo8:FnScope ["book","term","kinds"] ["book","term","kinds"] (Za7 (top 34)):=scm (by decide +kernel)
theorem gs1 {S:List Tm} {ks:List Nat} {gs:List Tm} (h:Paired (NumS S) ks gs) (l:gs.length=1):∃ k g,ks=[k]∧gs=[g]∧S[k]?=some g:=by
 obtain _ | ⟨h1,_ | _⟩:=h
 ·cases l
 ·exact⟨_,_,rfl,rfl,h1⟩
 ·cases l
theorem gs2 {S:List Tm} {ks:List Nat} {gs:List Tm} (h:Paired (NumS S) ks gs) (l:gs.length=2):∃ k g k2 g2,ks=[k,k2]∧gs=[g,g2]∧S[k]?=some g∧S[k2]?=some g2:=by
 obtain _ | ⟨h1,h⟩:=h
 ·cases l
 obtain⟨k2,g2,rfl,rfl,h2⟩:=gs1 h (Nat.succ.inj l);exact⟨_,_,_,_,rfl,rfl,h1,h2⟩
theorem gs3 {S:List Tm} {ks:List Nat} {gs:List Tm} (h:Paired (NumS S) ks gs) (l:gs.length=3):∃ k g k2 g2 k3 g3,ks=[k,k2,k3]∧gs=[g,g2,g3]∧S[k]?=some g∧S[k2]?=some g2∧S[k3]?=some g3:=by
 obtain _ | ⟨h1,h⟩:=h
 ·cases l
 obtain⟨k2,g2,k3,g3,rfl,rfl,h2,h3⟩:=gs2 h (Nat.succ.inj l);exact⟨_,_,_,_,_,_,rfl,rfl,h1,h2,h3⟩
theorem ss1 {H:Hp} {rs:List V} {ss:List Tm} (h:Paired (fun r s=>Lt s H r) rs ss) (l:ss.length=1):∃ r s,rs=[r]∧ss=[s]∧Lt s H r:=by
 obtain _ | ⟨h1,_ | _⟩:=h
 ·cases l
 ·exact⟨_,_,rfl,rfl,h1⟩
 ·cases l
theorem Xr7 {k:Nat} {A0:BkA} {aNoKind:Addr} (CB:ClsB K A0.C) {f_bz0:Addr} {fd_bz0:FuncData} (F_bz0:Fun K "row_of" "row_of" (top 25) f_bz0 fd_bz0) (m_NoKind:MgI mg "NoKind" aNoKind) (x_NoKind:XCls K aNoKind):FnOk P w K mg base (CXe P w) (k+1) f_bz0 fd_bz0 pq17 (Zn2 aNoKind A0):=by
 refine F_bz0.okX sc_bz0 (fun vs H Q E h=>?_) (fun cdv A outer s H vs Q E hr h=>?_)
 ·obtain⟨R,S,k,nm,t,rfl,_⟩:=h
  rfl
 obtain⟨R,S,k,nm,t,rfl,nl,B,hk,q0,q1⟩:=h
 refine⟨_,(Za3 (pst 3 sc_bz0.nd (pxl (Ze1 (pvM 0) rfl) (pvM 1)))
 (Za3 (Zc4 (ptcM (Zz8) (pxt (pvM 3) Za2) (pvM 2))
  (Za6 (Zs3 Ze7 rfl (by exact rfl) m_NoKind x_NoKind (Za0 (Xi6 (Xf0 (Xq8 (pvM 2) (Xf0 Xq9)))) Za1)))
  Zb2)
 (Za6 (Zb1 (pvM 3))))),?_⟩
 walk_at "1";obtain⟨us,u,r,h1,hu,⟨p,rfl,hp⟩,hr⟩:=B.row hk
 obtain⟨ys,ey,hu2⟩:∃ ys,r.key.map kV=V.str t.tagS :: ys∧∀ kk a b,t=.nd kk a b→∃ i j p',V.ref p=.ref p'∧H p'=some (.tup [.str kk.str,nI i,nI j])∧S[i]?=some a∧S[j]?=some b:=by
  rcases hr with ⟨rfl,n⟩ | ⟨kk,i,j,x,y,rfl,rfl,e1,e2⟩
  ·cases t with
   | low=>exact⟨[],rfl,fun _ _ _ z=>nomatch z⟩
   | ltr x=>exact⟨[.str x],rfl,fun _ _ _ z=>nomatch z⟩
   | nd kk a b=>exact absurd rfl (n kk a b)
  ·exact⟨_,rfl,fun _ _ _ z=>by cases z;exact⟨i,j,p,rfl,hp,e1,e2⟩⟩
 refine⟨_,_,_,B.ins,CB.c,CB.r,_,rfl,_,rfl,us,SqL.of h1,.ref p,Zd0 hu,p,rfl,_,.inl (.inl hp),.str t.tagS,by rw[ey];exact Zd0 (j:=0) rfl,rfl,?_⟩
 by_cases c:t.tagS=nm
 ·rw[if_neg (by rw[c];simp)]
  exact q0 c _ hu2
 ·rw[if_pos (by simpa using c)]
  have b1:(Str.empty++Str.ofString "a term has a kind other than ").length≤40:=by decide
  have b2:(Str.empty++Str.ofString "a term has a kind other than "++nm).length≤50:=by rw[Str.length_append];walk_at "o"
  have b4:(Str.ofString " where this is asked").length≤40:=by decide
  have b3:(Str.empty++Str.ofString "a term has a kind other than "++nm++Str.ofString " where this is asked").length≤90:=by rw[Str.length_append];walk_at "o"
  exact⟨Nat.le_of_lt (Zf3 (by walk_at "o")),Nat.le_of_lt (Zf3 (by walk_at "o")),Nat.le_of_lt (Zf3 (by walk_at "o")),Nat.le_of_lt (Zf3 (by walk_at "o")),Nat.le_of_lt (Zf3 (by walk_at "o")),by decide,q1 c⟩
theorem Xs3 {k:Nat} {A0:BkA} {N:NumT} {aNoKind:Addr} {f_bq0:Addr} {fd_bq0:FuncData} (F_bq0:Fun K "of_pair" "of_pair" (top 26) f_bq0 fd_bq0) (C_noted:Cl P w K mg base k "noted" pq18 (Zg2 A0)):FnOk P w K mg base (CXe P w) (k+1) f_bq0 fd_bq0 pq20 (Zg3 K aNoKind A0 N .pair):=by
 refine F_bq0.okX Xo7 (fun vs H Q E h=>?_) (fun cdv A outer s H vs Q E hr h=>?_)
 ·obtain⟨v,lk,t,ws,ks,gs,R,S,rfl,_⟩:=h
  rfl
 obtain⟨v,lk,t,ws,ks,gs,R,S,rfl,tg,B,hv,hk,nk,pk,gl,co,fi,hR,q0,q1⟩:=h;refine⟨_,(Za6 (Zb1 (Zc0 C_noted hr (Za0 (pvM 0) (Za0 (Zb4 (Za0 Za9 (Za0 (pxl (pvM 2) Za2) (Za0 (pxl (pvM 2) Za2) Za1)))) Za1))))),?_⟩;walk_at "1";cases Zk1 tg;obtain⟨k1,g1,k2,g2,rfl,rfl,p1,p2⟩:=gs2 pk gl;have hl:=SqL.of (K:=K) hk;exact⟨_,hl,_,rfl,_,hl,_,rfl,by decide,fun p hp=>(q0 _ rfl).noted B (by decide) (by walk_at "o") p1 p2 hp⟩
theorem Xs5 {k:Nat} {A0:BkA} {N:NumT} {aNoKind:Addr} {f_bo0:Addr} {fd_bo0:FuncData} (F_bo0:Fun K "of_left" "of_left" (top 27) f_bo0 fd_bo0) {f_bz0:Addr} {fd_bz0:FuncData} (G_bz0:FnOk P w K mg base (CXe P w) k f_bz0 fd_bz0 pq17 (Zn2 aNoKind A0)) (m_bz0:MgI mg "row_of" f_bz0) (k_bz0:KpI K f_bz0) (b_bz0:Binds K fd_bz0 pq17 []):FnOk P w K mg base (CXe P w) (k+1) f_bo0 fd_bo0 pq20 (Zg3 K aNoKind A0 N .left):=by
 refine F_bo0.okX Xo9 (fun vs H Q E h=>?_) (fun cdv A outer s H vs Q E hr h=>?_)
 ·obtain⟨v,lk,t,ws,ks,gs,R,S,rfl,_⟩:=h
  rfl
 obtain⟨v,lk,t,ws,ks,gs,R,S,rfl,tg,B,hv,hk,nk,pk,gl,co,fi,hR,q0,q1⟩:=h;refine⟨_,(Za6 (Zb1 (pxt (Zi1 G_bz0 hr (by exact rfl) m_bz0 k_bz0 b_bz0 .nil (Zv9 Ze7) (Za0 (pvM 0) (Za0 (pxl (pvM 2) Za2) (Za0 Za9 Za1)))) Za2))),?_⟩;walk_at "1";cases Zk1 tg;obtain⟨k1,g1,rfl,rfl,p1⟩:=gs1 pk gl;have hl:=SqL.of (K:=K) hk;refine⟨_,hl,_,rfl,R,S,_,_,g1,rfl,by decide,B.b,p1,fun c u hu=>?_,fun c e H' hx=>(q1 (Yy9 c)).here B hx⟩;obtain⟨a1,b1,rfl⟩:=Zh9 (k:=.both) c;obtain⟨i,j,p,rfl,hp,e1,e2⟩:=hu _ _ _ rfl;exact⟨p,rfl,_,.inl (.inl hp),_,rfl,(q0 _ rfl).here B e1⟩
theorem Xs2 {k:Nat} {A0:BkA} {N:NumT} {aNoKind:Addr} {f_bs0:Addr} {fd_bs0:FuncData} (F_bs0:Fun K "of_right" "of_right" (top 28) f_bs0 fd_bs0) {f_bz0:Addr} {fd_bz0:FuncData} (G_bz0:FnOk P w K mg base (CXe P w) k f_bz0 fd_bz0 pq17 (Zn2 aNoKind A0)) (m_bz0:MgI mg "row_of" f_bz0) (k_bz0:KpI K f_bz0) (b_bz0:Binds K fd_bz0 pq17 []):FnOk P w K mg base (CXe P w) (k+1) f_bs0 fd_bs0 pq20 (Zg3 K aNoKind A0 N .right):=by
 refine F_bs0.okX Xo6 (fun vs H Q E h=>?_) (fun cdv A outer s H vs Q E hr h=>?_)
 ·obtain⟨v,lk,t,ws,ks,gs,R,S,rfl,_⟩:=h
  rfl
 obtain⟨v,lk,t,ws,ks,gs,R,S,rfl,tg,B,hv,hk,nk,pk,gl,co,fi,hR,q0,q1⟩:=h;refine⟨_,(Za6 (Zb1 (pxt (Zi1 G_bz0 hr (by exact rfl) m_bz0 k_bz0 b_bz0 .nil (Zv9 Ze7) (Za0 (pvM 0) (Za0 (pxl (pvM 2) Za2) (Za0 Za9 Za1)))) Za2))),?_⟩;walk_at "1";cases Zk1 tg;obtain⟨k1,g1,rfl,rfl,p1⟩:=gs1 pk gl;have hl:=SqL.of (K:=K) hk;refine⟨_,hl,_,rfl,R,S,_,_,g1,rfl,by decide,B.b,p1,fun c u hu=>?_,fun c e H' hx=>(q1 (Yn5 c)).here B hx⟩;obtain⟨a1,b1,rfl⟩:=Zh9 (k:=.both) c;obtain⟨i,j,p,rfl,hp,e1,e2⟩:=hu _ _ _ rfl;exact⟨p,rfl,_,.inl (.inl hp),_,rfl,(q0 _ rfl).here B e2⟩
theorem Xs7 {k:Nat} {A0:BkA} {N:NumT} {aNoKind:Addr} {f_bm0:Addr} {fd_bm0:FuncData} (F_bm0:Fun K "of_first" "of_first" (top 29) f_bm0 fd_bm0) (C_noted:Cl P w K mg base k "noted" pq18 (Zg2 A0)) (C_number_of:Cl P w K mg base k "number_of" pq19 (Zg1 A0 N)):FnOk P w K mg base (CXe P w) (k+1) f_bm0 fd_bm0 pq20 (Zg3 K aNoKind A0 N .first):=by
 refine F_bm0.okX Xp1 (fun vs H Q E h=>?_) (fun cdv A outer s H vs Q E hr h=>?_)
 ·obtain⟨v,lk,t,ws,ks,gs,R,S,rfl,_⟩:=h
  rfl
 obtain⟨v,lk,t,ws,ks,gs,R,S,rfl,tg,B,hv,hk,nk,pk,gl,co,fi,hR,q0,q1⟩:=h;refine⟨_,(Za6 (Zb1 (Zc0 C_noted hr (Za0 (pvM 0) (Za0 (Zb4 (Za0 Za9 (Za0 (pxl (pvM 2) Za2) (Za0 (Zc0 C_number_of hr (Za0 (pvM 0) (Za0 (pxt (pvM 1) Za2) Za1))) Za1)))) Za1))))),?_⟩;walk_at "1";cases Zk1 tg;obtain⟨k1,g1,rfl,rfl,p1⟩:=gs1 pk gl;have hl:=SqL.of (K:=K) hk;obtain⟨pt,x,rs,rfl,hs,ha,hq⟩:=hv;obtain⟨sv,s1,rfl,rfl,h1⟩:=ss1 hq fi.2.1;exact⟨_,hl,_,rfl,pt,rfl,_,hs,_,rfl,B.number h1 (fi.2.2 _ (.head _)).2 (by walk_at "o") fun k H' R' S' f B' z1 z2 zl hk'=>⟨by decide,fun p hp=>((q0 _ rfl).after (m:=1) f z1 z2 (by walk_at "o")).noted B' (Nat.le_refl _) (by walk_at "o") (Ye0 z2 p1) hk' hp⟩⟩
theorem Xs1 {k:Nat} {A0:BkA} {N:NumT} {aNoKind:Addr} {f_bt0:Addr} {fd_bt0:FuncData} (F_bt0:Fun K "of_second" "of_second" (top 30) f_bt0 fd_bt0) (C_noted:Cl P w K mg base k "noted" pq18 (Zg2 A0)) (C_number_of:Cl P w K mg base k "number_of" pq19 (Zg1 A0 N)):FnOk P w K mg base (CXe P w) (k+1) f_bt0 fd_bt0 pq20 (Zg3 K aNoKind A0 N .second):=by
 refine F_bt0.okX Xo5 (fun vs H Q E h=>?_) (fun cdv A outer s H vs Q E hr h=>?_)
 ·obtain⟨v,lk,t,ws,ks,gs,R,S,rfl,_⟩:=h
  rfl
 obtain⟨v,lk,t,ws,ks,gs,R,S,rfl,tg,B,hv,hk,nk,pk,gl,co,fi,hR,q0,q1⟩:=h;refine⟨_,(Za6 (Zb1 (Zc0 C_noted hr (Za0 (pvM 0) (Za0 (Zb4 (Za0 Za9 (Za0 (Zc0 C_number_of hr (Za0 (pvM 0) (Za0 (pxt (pvM 1) Za2) Za1))) (Za0 (pxl (pvM 2) Za2) Za1)))) Za1))))),?_⟩;walk_at "1";cases Zk1 tg;obtain⟨k1,g1,rfl,rfl,p1⟩:=gs1 pk gl;have hl:=SqL.of (K:=K) hk;obtain⟨pt,x,rs,rfl,hs,ha,hq⟩:=hv;obtain⟨sv,s1,rfl,rfl,h1⟩:=ss1 hq fi.2.1;exact⟨pt,rfl,_,hs,_,rfl,B.number h1 (fi.2.2 _ (.head _)).2 (by walk_at "o") fun k H' R' S' f B' z1 z2 zl hk'=>⟨_,SqL.of (f _ _ nk hk),_,rfl,by decide,fun p hp=>((q0 _ rfl).after (m:=1) f z1 z2 (by walk_at "o")).noted B' (Nat.le_refl _) (by walk_at "o") hk' (Ye0 z2 p1) hp⟩⟩
theorem Xs8 {k:Nat} {A0:BkA} {N:NumT} {aNoKind:Addr} {f_bl0:Addr} {fd_bl0:FuncData} (F_bl0:Fun K "of_cases" "of_cases" (top 31) f_bl0 fd_bl0) (m_NoKind:MgI mg "NoKind" aNoKind) (x_NoKind:XCls K aNoKind):FnOk P w K mg base (CXe P w) (k+1) f_bl0 fd_bl0 pq20 (Zg3 K aNoKind A0 N .cases):=by
 refine F_bl0.okX Xp2 (fun vs H Q E h=>?_) (fun cdv A outer s H vs Q E hr h=>?_)
 ·obtain⟨v,lk,t,ws,ks,gs,R,S,rfl,_⟩:=h
  rfl
 obtain⟨v,lk,t,ws,ks,gs,R,S,rfl,tg,B,hv,hk,nk,pk,gl,co,fi,hR,q0,q1⟩:=h
 refine⟨_,(Za3 (Zc4 (ptcM (Zz8) (pxl (pvM 2) Za2) (pxl (pvM 2) Za2))
  (Za6 (Zs3 Ze7 rfl (by exact rfl) m_NoKind x_NoKind (Za0 Za9 Za1)))
  Zb2)
 (Za6 (Zb1 (pxl (pvM 2) Za2)))),?_⟩
 walk_at "1";cases Zk1 tg;obtain⟨k1,g1,k2,g2,k3,g3,rfl,rfl,p1,p2,p3⟩:=gs3 pk gl;have hl:=SqL.of (K:=K) hk;obtain⟨h0,h0',r0,e0⟩:=co _ _ _ rfl;cases e0;refine⟨_,hl,_,rfl,_,hl,_,rfl,rfl,?_⟩
 by_cases c:g2=g3
 ·subst c
  cases B.b.bk.inj _ _ _ p2 p3;rw[if_neg (by simp)];exact⟨_,hl,_,rfl,(q0 _ (if_pos rfl)).here B p2⟩
 ·have n:¬ nI k2=nI k3:=fun z=>c (Option.some.inj (p2.symm.trans ((nI_inj.mp z)▸p3)))
  rw[if_pos (by simpa using n)];exact⟨by decide,fun e H' hx=>(q1 (Wb3 c)).here B hx⟩
theorem Xs6 {k:Nat} {A0:BkA} {N:NumT} {aNoKind:Addr} {f_bn0:Addr} {fd_bn0:FuncData} (F_bn0:Fun K "of_fun" "of_fun" (top 32) f_bn0 fd_bn0) (C_noted:Cl P w K mg base k "noted" pq18 (Zg2 A0)) (C_number_of:Cl P w K mg base k "number_of" pq19 (Zg1 A0 N)):FnOk P w K mg base (CXe P w) (k+1) f_bn0 fd_bn0 pq20 (Zg3 K aNoKind A0 N .fn):=by
 refine F_bn0.okX Xp0 (fun vs H Q E h=>?_) (fun cdv A outer s H vs Q E hr h=>?_)
 ·obtain⟨v,lk,t,ws,ks,gs,R,S,rfl,_⟩:=h
  rfl
 obtain⟨v,lk,t,ws,ks,gs,R,S,rfl,tg,B,hv,hk,nk,pk,gl,co,fi,hR,q0,q1⟩:=h;refine⟨_,(Za6 (Zb1 (Zc0 C_noted hr (Za0 (pvM 0) (Za0 (Zb4 (Za0 Za9 (Za0 (Zc0 C_number_of hr (Za0 (pvM 0) (Za0 (pxt (pvM 1) Za2) Za1))) (Za0 (pxl (pvM 2) Za2) Za1)))) Za1))))),?_⟩;walk_at "1";cases Zk1 tg;obtain⟨k1,g1,rfl,rfl,p1⟩:=gs1 pk gl;have hl:=SqL.of (K:=K) hk;obtain⟨pt,x,y,rfl,hs,h1,ha⟩:=hv;exact⟨pt,rfl,_,hs,_,rfl,B.number h1 fi.1.2 (by walk_at "o") fun k H' R' S' f B' z1 z2 zl hk'=>⟨_,SqL.of (f _ _ nk hk),_,rfl,by decide,fun p hp=>((q0 _ rfl).after (m:=1) f z1 z2 (by walk_at "o")).noted B' (Nat.le_refl _) (by walk_at "o") hk' (Ye0 z2 p1) hp⟩⟩
theorem Xs0 {k:Nat} {A0:BkA} {N:NumT} {aNoKind:Addr} {f_bw0:Addr} {fd_bw0:FuncData} (F_bw0:Fun K "of_use" "of_use" (top 33) f_bw0 fd_bw0) {f_bz0:Addr} {fd_bz0:FuncData} (G_bz0:FnOk P w K mg base (CXe P w) k f_bz0 fd_bz0 pq17 (Zn2 aNoKind A0)) (m_bz0:MgI mg "row_of" f_bz0) (k_bz0:KpI K f_bz0) (b_bz0:Binds K fd_bz0 pq17 []) (m_NoKind:MgI mg "NoKind" aNoKind) (x_NoKind:XCls K aNoKind):FnOk P w K mg base (CXe P w) (k+1) f_bw0 fd_bw0 pq20 (Zg3 K aNoKind A0 N .use):=by
 refine F_bw0.okX sc_bw0 (fun vs H Q E h=>?_) (fun cdv A outer s H vs Q E hr h=>?_)
 ·obtain⟨v,lk,t,ws,ks,gs,R,S,rfl,_⟩:=h
  rfl
 obtain⟨v,lk,t,ws,ks,gs,R,S,rfl,tg,B,hv,hk,nk,pk,gl,co,fi,hR,q0,q1⟩:=h
 refine⟨_,(Za3 (pst 3 sc_bw0.nd (Zi1 G_bz0 hr (by exact rfl) m_bz0 k_bz0 b_bz0 .nil (Zv9 Ze7) (Za0 (pvM 0) (Za0 (pxl (pvM 2) Za2) (Za0 Za9 Za1)))))
 (Za3 (Zc4 (ptcM (Zz8) (pxt (pvM 3) Za2) (pxl (pvM 2) Za2))
  (Za6 (Zs3 Ze7 rfl (by exact rfl) m_NoKind x_NoKind (Za0 Za9 Za1)))
  Zb2)
 (Za6 (Zb1 (pxt (pvM 3) Za2))))),?_⟩
 walk_at "1";cases Zk1 tg;obtain⟨k1,g1,k2,g2,rfl,rfl,p1,p2⟩:=gs2 pk gl;have hl:=SqL.of (K:=K) hk;refine⟨_,hl,_,rfl,R,S,_,_,g1,rfl,by decide,B.b,p1,fun c u hu=>?_,fun c e H' hx=>(q1 (Xg6 c)).here B hx⟩;obtain⟨a1,b1,rfl⟩:=Zh9 (k:=.thn) c;obtain⟨i,j,p,rfl,hp,e1,e2⟩:=hu _ _ _ rfl;refine⟨p,rfl,_,.inl (.inl hp),_,rfl,_,hl,_,rfl,rfl,?_⟩
 by_cases c:a1=g2
 ·subst c
  cases B.b.bk.inj _ _ _ e1 p2;rw[if_neg (by simp)];exact⟨p,rfl,_,.inl (.inl hp),_,rfl,(q0 _ (if_pos rfl)).here B e2⟩
 ·have n:¬ nI i=nI k2:=fun z=>c (Option.some.inj (e1.symm.trans ((nI_inj.mp z)▸p2)))
  rw[if_pos (by simpa using n)];exact⟨by decide,fun e H' hx=>(q1 (Yy8 c)).here B hx⟩
theorem Xs4 {k:Nat} {A0:BkA} {N:NumT} {aNoKind:Addr} {f_bp0:Addr} {fd_bp0:FuncData} (F_bp0:Fun K "of_off" "of_off" (top 34) f_bp0 fd_bp0) {f_bz0:Addr} {fd_bz0:FuncData} (G_bz0:FnOk P w K mg base (CXe P w) k f_bz0 fd_bz0 pq17 (Zn2 aNoKind A0)) (m_bz0:MgI mg "row_of" f_bz0) (k_bz0:KpI K f_bz0) (b_bz0:Binds K fd_bz0 pq17 []) (C_number_of:Cl P w K mg base k "number_of" pq19 (Zg1 A0 N)) {aLOW:Addr} (m_LOW:MgI mg "LOW" aLOW) (t_LOW:∀ H,SqT K H aLOW [.str "low"]):FnOk P w K mg base (CXe P w) (k+1) f_bp0 fd_bp0 pq20 (Zg3 K aNoKind A0 N .off):=by
 refine F_bp0.okX Xo8 (fun vs H Q E h=>?_) (fun cdv A outer s H vs Q E hr h=>?_)
 ·obtain⟨v,lk,t,ws,ks,gs,R,S,rfl,_⟩:=h
  rfl
 obtain⟨v,lk,t,ws,ks,gs,R,S,rfl,tg,B,hv,hk,nk,pk,gl,co,fi,hR,q0,q1⟩:=h
 refine⟨_,(Za3 (Zf5 (Zi1 G_bz0 hr (by exact rfl) m_bz0 k_bz0 b_bz0 .nil (Zv9 Ze7) (Za0 (pvM 0) (Za0 (pxl (pvM 2) Za2) (Za0 (pxt (Zf6 (v:=.ref aLOW) (by exact rfl) m_LOW (by exact rfl)) Za2) Za1)))))
 (Za6 (Zb1 (Zc0 C_number_of hr (Za0 (pvM 0) (Za0 (pxt (pvM 1) Za2) Za1)))))),?_⟩
 walk_at "1";cases Zk1 tg;obtain⟨k1,g1,rfl,rfl,p1⟩:=gs1 pk gl;have hl:=SqL.of (K:=K) hk;obtain⟨pt,x,rs,rfl,hs,ha,hq⟩:=hv;obtain⟨sv,s1,rfl,rfl,h1⟩:=ss1 hq fi.2.1;refine⟨_,hl,_,rfl,_,t_LOW H,_,rfl,R,S,_,_,g1,rfl,by decide,B.b,p1,fun c u hu=>?_,fun c e H' hx=>(q1 (Xy4 c)).here B hx⟩
 obtain rfl:g1=.low:=by
  cases g1 with
  | low=>rfl
  | ltr x=>exact absurd (show ("letter":Str)="low" from c) (by decide)
  | nd kk a b=>exact absurd (show kk.str="low" from c) (by cases kk<;>decide)
 exact⟨pt,rfl,_,hs,_,rfl,B.number h1 (fi.2.2 _ (.head _)).2 (by walk_at "o") ((q0 _ rfl).after (m:=60) (fun _ _ _ e=>e) (List.prefix_refl _) (List.prefix_refl _) (by walk_at "o"))⟩
theorem sc_bk0:FnScope ["book","asked","given","k","ahead"] ["book","asked","given"] (Za7 (top 36)):=scm (by decide +kernel)
theorem sc_bf0:FnScope ["book","asked","given","deed"] ["book","asked","given"] (Za7 (top 37)):=scm (by decide +kernel)
theorem Xo4:FnScope ["book","asked"] ["book","asked"] (Za7 (top 38)):=scm (by decide +kernel)
theorem sc_bh0:FnScope ["book","asked","place","more","front"] ["book","asked"] (Za7 (top 39)):=scm (by decide +kernel)
theorem Xs9 {k:Nat} {C0:Addr} {A0:BkA} {N:NumT} {aNoKind:Addr} (CA:ClsA K C0) {f_bk0:Addr} {fd_bk0:FuncData} (F_bk0:Fun K "of_at" "of_at" (top 36) f_bk0 fd_bk0) (C_number_of:Cl P w K mg base k "number_of" pq19 (Zg1 A0 N)) (m_NoKind:MgI mg "NoKind" aNoKind) (x_NoKind:XCls K aNoKind) (m_len:mg "len"=none):FnOk P w K mg base (CXe P w) (k+1) f_bk0 fd_bk0 pq15 (Yk8 K C0 aNoKind A0 N):=by
 refine F_bk0.okX sc_bk0 (fun vs H Q E h=>?_) (fun cdv A outer s H vs Q E hr h=>?_)
 ·obtain⟨f,ga,gs,Γ0,ws,i,R,S,rfl,_⟩:=h
  rfl
 obtain⟨f,ga,gs,Γ0,ws,i,R,S,rfl,et,B,F,G,hl,hR,q0,q1⟩:=h
 refine⟨_,(Za3 (pst 3 sc_bk0.nd (pxt (Ze1 (pvM 1) rfl) Za2))
 (Za3 (pst 4 sc_bk0.nd (Zc5 Zc2 (by exact rfl) m_len Zd4 (Za0 (Ze1 (pvM 1) rfl) Za1)))
 (Za3 (Zc4 (Zz1 (Yl8) (Zr5) Za2 (pvM 3) (pvM 4))
  (Za6 (Zb1 (pxl (Ze1 (pvM 1) rfl) (pvM 3))))
  Zb2)
 (Za3 (Zc4 (Yd8 (Zz1 (Yl8) (Zr5) (pvM 4) (pvM 3) (Zb3 Zd2 (pvM 4) (Zc5 Zc2 (by exact rfl) m_len Zd4 (Za0 (pvM 2) Za1)))))
  (Za6 (Zs3 Ze7 rfl (by exact rfl) m_NoKind x_NoKind (Za0 Za9 Za1)))
  Zb2)
 (Za6 (Zb1 (Zc0 C_number_of hr (Za0 (pvM 0) (Za0 (pxl (pvM 2) (Zb3 Zg9 (pvM 3) (pvM 4))) Za1))))))))),?_⟩
 walk_at "1";have tm:=F.tm;rw[et] at tm q0 q1;obtain⟨p,ev,hp⟩:=tm;have lf:=Paired.length F.fS;have lg:=Paired.length G.p;refine⟨_,_,_,F.ins,CA.c,CA.t,_,rfl,p,ev,_,hp,_,rfl,_,_,_,F.ins,CA.c,CA.f,_,rfl,_,rfl,_,.inl (SqL.of F.fr),_,rfl,?_⟩;rw[List.length_map]
 by_cases c0:0≤i
 ·obtain⟨j,rfl⟩:=Int.eq_ofNat_of_zero_le c0
  have ek:kd (f.Γ++Γ0) (.at (j:Nat))=(f.Γ++Γ0)[j]?:=if_pos c0;rw[ek] at q0 q1;rw[if_pos c0];refine⟨_,rfl,?_⟩
  by_cases c:j < f.fs.length
  ·rw[if_pos (by walk_at "o")]
   obtain⟨g',e1,e2⟩:=paired_get F.fS (List.getElem?_eq_getElem c);refine⟨_,_,_,F.ins,CA.c,CA.f,_,rfl,?_⟩;exact⟨_,rfl,_,_,rfl,SqL.of F.fr,_,Zd0 (by rw[List.getElem?_map,List.getElem?_eq_getElem c];rfl),(q0 g' (by rw[List.getElem?_append_left (by walk_at "o"),e1])).here B e2⟩
  ·rw[if_neg (by walk_at "o")]
   refine⟨_,rfl,?_⟩;rw[if_pos (by walk_at "o")];refine⟨gs,.inl (SqL.of G.l),_,rfl,?_⟩
   by_cases d:j - f.fs.length < gs.length
   ·rw[if_neg (by simp;walk_at "o")]
    obtain⟨g',e1,e2⟩:=paired_get G.p (List.getElem?_eq_getElem d);refine⟨_,rfl,gs,SqL.of G.l,gs[j - f.fs.length],?_,B.number e2 (G.s _ (List.mem_of_getElem? e1)) (by walk_at "o") ((q0 g' (by rw[List.getElem?_append_right (by walk_at "o"),← lf];exact e1)).after (m:=60) (fun _ _ _ e=>e) (List.prefix_refl _) (List.prefix_refl _) (by walk_at "o"))⟩;rw[show (j:Int) - (f.fs.length:Int)=((j - f.fs.length:Nat):Int) by walk_at "o"];exact Zd0 (List.getElem?_eq_getElem d)
   ·rw[if_pos (by simp;walk_at "o")]
    exact⟨by decide,fun e H' hx=>(q1 (by rw[List.getElem?_append_right (by walk_at "o")];exact List.getElem?_eq_none (by walk_at "o"))).here B hx⟩
 ·have ek:kd (f.Γ++Γ0) (.at i)=none:=if_neg c0
  rw[if_neg c0];refine⟨_,rfl,?_⟩;rw[if_neg (by walk_at "o"),if_pos (by simp)];exact⟨by decide,fun e H' hx=>(q1 ek).here B hx⟩
theorem Xt4 {k:Nat} {C0:Addr} {A0:BkA} {N:NumT} {fD:Dd→Addr} {fdD:Dd→FuncData} {aNoKind:Addr} (CA:ClsA K C0) {f_bf0:Addr} {fd_bf0:FuncData} (F_bf0:Fun K "kind_by" "kind_by" (top 37) f_bf0 fd_bf0) {f_bk0:Addr} {fd_bk0:FuncData} (G_bk0:FnOk P w K mg base (CXe P w) k f_bk0 fd_bk0 pq15 (Yk8 K C0 aNoKind A0 N)) (m_bk0:MgI mg "of_at" f_bk0) (k_bk0:KpI K f_bk0) (b_bk0:Binds K fd_bk0 pq15 []) {aDEEDS:Addr} (m_ae0:MgI mg "DEEDS" aDEEDS) (D_DEEDS:KDict K w aDEEDS (tblD fD))
  (G_ae0:∀ r,FnOk P w K mg base (CXe P w) k (fD r) (fdD r) ["book","term","kinds"] (Zg3 K aNoKind A0 N r)) (k_ae0:∀ r,W.keepIn K (.ref (fD r))=true) (b_ae0:∀ r,Binds K (fdD r) ["book","term","kinds"] []):FnOk P w K mg base (CXe P w) (k+1) f_bf0 fd_bf0 pq15 (Zq2 K C0 aNoKind A0 N):=by
 refine F_bf0.okX sc_bf0 (fun vs H Q E h=>?_) (fun cdv A outer s H vs Q E hr h=>?_)
 ·obtain⟨f,ga,gs,Γ0,ws,R,S,rfl,_⟩:=h
  rfl
 obtain⟨f,ga,gs,Γ0,ws,R,S,rfl,el,B,F,G,hl,hR,q0,q1⟩:=h
 refine⟨_,(Za3 (Zc4 (ptcM (Zd8) (pxt (Ze1 (pvM 1) rfl) Za2) Za9)
  (Za6 (Zb1 (Zi1 G_bk0 hr (by exact rfl) m_bk0 k_bk0 b_bk0 .nil (Zv9 Ze7) (Za0 (pvM 0) (Za0 (pvM 1) (Za0 (pvM 2) Za1))))))
  Zb2)
 (Za3 (pst 3 sc_bf0.nd (Zz4 D_DEEDS rfl m_ae0 (pxt (Ze1 (pvM 1) rfl) Za2)))
 (Za6 (Zb1 (Yu0 (i:=3) G_ae0 hr rfl k_ae0 b_ae0 (Zv9 Ze7) (Za0 (pvM 0) (Za0 (Ze1 (pvM 1) rfl) (Za0 (Ze1 (pvM 1) rfl) Za1)))))))),?_⟩
 walk_at "1";simp only[Ys0];walk_at "1";obtain⟨p,xs,ev,hp,h0⟩:=Zu3 F.tm;refine⟨_,_,_,F.ins,CA.c,CA.t,_,rfl,p,ev,_,hp,_,h0,rfl,?_⟩
 by_cases c:f.t.tag="at"
 ·obtain⟨j,ej⟩:=Zx8 c
  rw[if_pos (by rw[c])];exact⟨f,ga,gs,Γ0,ws,j,R,S,rfl,ej,B,F,G,hl,hR,q0,q1⟩
 ·rw[if_neg (fun z=>c (V.str.inj z))]
  have na:∀ k,f.t≠.at k:=fun k z=>c (by rw[z];rfl);obtain⟨d,e1,e2⟩:=Xa5 fD na;rw[Xk1 F.kk el na] at q0 q1;refine⟨_,_,_,F.ins,CA.c,CA.t,_,rfl,p,ev,_,hp,_,h0,_,rfl,_,e2,d,rfl,_,_,_,F.ins,CA.c,CA.t,_,rfl,_,_,_,F.ins,CA.c,CA.k,_,rfl,?_⟩;exact⟨_,f.lk,f.t,ws,f.ks,f.gs,R,S,rfl,e1,B,F.tm,F.kd,F.nk,F.kS,el,.of F.kk el,F.fine,hR,q0,q1⟩
theorem Xr8 {k:Nat} {C0:Addr} {A0:BkA} {N:NumT} {aNoKind:Addr} (CA:ClsA K C0) {f_by0:Addr} {fd_by0:FuncData} (F_by0:Fun K "put_in_front" "put_in_front" (top 38) f_by0 fd_by0) (C_number_of:Cl P w K mg base k "number_of" pq19 (Zg1 A0 N)) {f_bz0:Addr} {fd_bz0:FuncData} (G_bz0:FnOk P w K mg base (CXe P w) k f_bz0 fd_bz0 pq17 (Zn2 aNoKind A0)) (m_bz0:MgI mg "row_of" f_bz0) (k_bz0:KpI K f_bz0) (b_bz0:Binds K fd_bz0 pq17 []) (m_len:mg "len"=none):FnOk P w K mg base (CXe P w) (k+1) f_by0 fd_by0 pq16 (Yc8 K C0 aNoKind A0 N):=by
 refine F_by0.okX Xo4 (fun vs H Q E h=>?_) (fun cdv A outer s H vs Q E hr h=>?_)
 ·obtain⟨f,Γ0,ws,R,S,kid,rfl,_⟩:=h
  rfl
 obtain⟨f,Γ0,ws,R,S,kid,rfl,ek,B,F,hR,q0,q1⟩:=h
 refine⟨_,(Za3 (Zc4 (ptcM (Zd8) (pxt (Ze1 (pvM 1) rfl) Za2) Za9)
  (Za6 (Zb1 (Zc0 C_number_of hr (Za0 (pvM 0) (Za0 (pxt (Ze1 (pvM 1) rfl) Za2) Za1)))))
  Zb2)
 (Za6 (Zb1 (pxt (Zi1 G_bz0 hr (by exact rfl) m_bz0 k_bz0 b_bz0 .nil (Zv9 Ze7) (Za0 (pvM 0) (Za0 (pxl (Ze1 (pvM 1) rfl) Za2) (Za0 Za9 Za1)))) (Zc5 Zc2 (by exact rfl) m_len Zd4 (Za0 (Ze1 (pvM 1) rfl) Za1)))))),?_⟩
 walk_at "1";obtain⟨p,xs,ev,hp,h0⟩:=Zu3 F.tm;refine⟨_,_,_,F.ins,CA.c,CA.t,_,rfl,p,ev,_,hp,_,h0,rfl,?_⟩
 by_cases c:f.t.tag="fun"
 ·rw[if_pos (by rw[c])]
  have tm:=F.tm;have fi:=F.fine;generalize f.t=t at *
  cases t with
  | fn s1 a =>
   obtain⟨p1,x,y,ev',hs,h1,ha⟩:=tm;exact⟨_,_,_,F.ins,CA.c,CA.t,_,rfl,p1,ev',_,hs,_,rfl,B.number h1 fi.1.2 (by walk_at "o") (q0 _ rfl)⟩
  | «at» k=>cases ek
  | one u a ss=>have c:u.str="fun":=c;cases u<;>exact absurd c (by decide)
  | two u a b=>have c:u.str="fun":=c;cases u<;>exact absurd c (by decide)
  | cs a b d=>exact absurd (show ("cases":Str)="fun" from c) (by decide)
 ·rw[if_neg (fun z=>c (V.str.inj z))]
  refine⟨_,_,_,F.ins,CA.c,CA.k,_,rfl,_,rfl,_,SqL.of F.kd,?_⟩;have lk:=Paired.length F.kS;have kS:=F.kS
  obtain⟨g0,gr,e0,e2⟩:∃ g0 gr,f.gs=g0 :: gr∧(g0.tagS≠"one"→cxBy f.t f.gs=none)∧∀ h k,g0=.nd .one h k→(f.gs.length=1∧cxBy f.t f.gs=some [h]∨f.gs.length=2∧cxBy f.t f.gs=some [k]):=by
   generalize f.t=t at *;generalize f.gs=gs at *
   cases t with
   | «at» k=>cases ek
   | one u a ss=>match gs,ek with | [],ek=>cases ek
   | two u a b=>match gs,ek with | [],ek=>cases ek | [_],ek=>cases ek
   | fn s1 a=>exact absurd rfl c
   | cs a b d =>
    match gs,ek with
    | [],ek=>cases ek
    | [x],ek =>
     refine⟨x,[],rfl,fun n=>?_,fun h k e=>.inl ⟨rfl,by rw[e];rfl⟩⟩
     match x,n with
     | .low,_=>rfl
     | .ltr _,_=>rfl
     | .nd .both _ _,_=>rfl
     | .nd .thn _ _,_=>rfl
     | .nd .one h k,n=>exact absurd rfl n
    | [x,y],ek =>
     refine⟨x,[y],rfl,fun n=>?_,fun h k e=>.inr ⟨rfl,by rw[e];rfl⟩⟩
     match x,n with
     | .low,_=>rfl
     | .ltr _,_=>rfl
     | .nd .both _ _,_=>rfl
     | .nd .thn _ _,_=>rfl
     | .nd .one h k,n=>exact absurd rfl n
  obtain⟨en,e3⟩:=e2;rw[e0] at kS;generalize ek':f.ks=ks at kS
  cases kS with
  | cons z1 z2 =>
   rename_i k0 kr;refine⟨_,Zd0 (j:=0) rfl,R,S,k0,_,_,rfl,by decide,B.b,z1,fun ct u hu=>?_,fun ct e H' hx=>(q1 (en ct)).here B hx⟩;obtain⟨h,k2,rfl⟩:=Zh9 (k:=.one) ct;obtain⟨i,j,pp,rfl,hpp,y1,y2⟩:=hu _ _ _ rfl;refine⟨_,_,_,F.ins,CA.c,CA.k,_,rfl,_,rfl,_,.inl (SqL.of F.kd),pp,rfl,_,.inl (.inl hpp),?_⟩;rw[List.length_map,lk];rcases e3 _ _ rfl with ⟨el,ec⟩ | ⟨el,ec⟩
   ·rw[el];exact⟨_,rfl,(q0 _ ec).here B y1⟩
   ·rw[el];exact⟨_,rfl,(q0 _ ec).here B y2⟩
theorem Xt2 {k:Nat} {C0:Addr} {A0:BkA} {N:NumT} {aNoKind:Addr} (CA:ClsA K C0) {f_bh0:Addr} {fd_bh0:FuncData} (F_bh0:Fun K "next_within" "next_within" (top 39) f_bh0 fd_bh0) {f_by0:Addr} {fd_by0:FuncData} (G_by0:FnOk P w K mg base (CXe P w) (k+1) f_by0 fd_by0 pq16 (Yc8 K C0 aNoKind A0 N)) (m_by0:MgI mg "put_in_front" f_by0) (k_by0:KpI K f_by0) (b_by0:Binds K fd_by0 pq16 [])
  {f_ab0:Addr}{fd_ab0:FuncData}(Mk_Asked:Mk K C0 f_ab0)(G_ab0:Fk0 P w K mg base k f_ab0 fd_ab0 pq21 (Zs0 C0))(m_aa0:MgI mg "Asked" C0)(b_ab0:Binds K fd_ab0 pq21 [])
  {aINNER:Addr} {aT:Nat→Addr} (m_af0:MgI mg "INNER" aINNER) (D_INNER:KDict K w aINNER (innV aT)) (hI:Inn K aT) (m_len:mg "len"=none):FnOk P w K mg base (CXe P w) (k+2) f_bh0 fd_bh0 pq16 (Zy0 K C0 aNoKind A0 N):=by
 refine F_bh0.okX sc_bh0 (fun vs H Q E h=>?_) (fun cdv A outer s H vs Q E hr h=>?_)
 ·obtain⟨f,Γ0,ws,R,S,kid,m,rfl,_⟩:=h
  rfl
 obtain⟨f,Γ0,ws,R,S,kid,m,rfl,ek,B,F,hR,hfs,q1,q⟩:=h
 refine⟨_,(Za3 (Zk5 (pxt (Zz4 D_INNER rfl m_af0 (pxt (Ze1 (pvM 1) rfl) Za2)) (Zc5 Zc2 (by exact rfl) m_len Zd4 (Za0 (Ze1 (pvM 1) rfl) Za1))) (Zk6 rfl (Zd1 (Zc8 (i:=2) sc_bh0.nd rfl (Or.inl rfl)) (Zd1 (Zc8 (i:=3) sc_bh0.nd rfl (Or.inl rfl)) Zh6))))
 (Za3 (pst 4 sc_bh0.nd (Ze1 (pvM 1) rfl))
 (Za3 (Zc4 (Zz0 (pvM 3) (fun _=>rfl))
  (Za6 (pst 4 sc_bh0.nd (Zb3 Zu0 (Zc7 (Za0 (Zi1 G_by0 hr (by exact rfl) m_by0 k_by0 b_by0 .nil (Zv9 Ze7) (Za0 (pvM 0) (Za0 (pvM 1) Za1))) Za1)) (pvM 4))))
  Zb2)
 (Za6 (Zb1 (Yt9 Mk_Asked G_ab0 hr (by exact rfl) m_aa0 b_ab0 .nil Yi3 (Za0 (pxt (Ze1 (pvM 1) rfl) (pvM 2)) (Za0 (pvM 4) Za1)))))))),?_⟩
 obtain⟨p,xs,ev,hp,h0⟩:=Zu3 F.tm;obtain⟨a,ha,hr'⟩:=Yv9 hI f.t;obtain⟨p1,xs1,pl,x,ev1,hp1,hi,hx,hk⟩:=Xf9 F.tm ek;refine sqt (fun σ' H'=>σ'=[some (.ref A0.b),some (.ref f.a),some (nI pl),some (nI m),none]∧H'=H) ?_ ?_
 ·intro C hC
  walk_at "1";obtain⟨ys,hy,_,hz⟩:=hr'.sq H;obtain⟨b,hb,hbs⟩:=hz _ _ _ hi;refine⟨_,_,_,F.ins,CA.c,CA.t,_,rfl,p,ev,_,hp,_,h0,_,rfl,_,ha,_,_,_,F.ins,CA.c,CA.k,_,rfl,_,rfl,_,.inl (SqL.of F.kd),a,rfl,ys,hy,?_⟩;rw[List.length_map,Paired.length F.kS];exact⟨_,Zd0 hb,b,rfl,_,hbs,rfl,_,_,rfl,_,_,rfl,rfl,hC _ _ ⟨rfl,rfl⟩⟩
 rintro σ1 H1 ⟨rfl,rfl⟩;refine sqt (fun σ' H'=>σ'=[some (.ref A0.b),some (.ref f.a),some (nI pl),some (nI m),some (.ref f.la)]∧H'=H1) ?_ ?_
 ·intro C hC
  walk_at "1";exact⟨_,_,_,F.ins,CA.c,CA.f,_,rfl,hC _ _ ⟨rfl,rfl⟩⟩
 rintro σ1 H1 ⟨rfl,rfl⟩;have hm:=Xl9 ek;refine sqt (fun σ' H'=>∃ (la:Addr) (fs:List Nat) (R':List Rw) (S':List Tm) (cx:List Tm),σ'=[some (.ref A0.b),some (.ref f.a),some (nI pl),some (nI m),some (.ref la)]∧cxBy f.t f.gs=some cx∧FrB (badT A0 N) H1 H'∧BkT A0 N R' S' H'∧R <+: R'∧S <+: S'∧R'.length≤R.length+60∧H' la=some (.lst (fs.map nI))∧(la=f.la∨H1 la=none)∧Paired (NumS S') fs (cx++f.Γ)) ?_ ?_
 ·intro C hC
  walk_at "1";rcases hm with ⟨rfl,e0⟩ | ⟨rfl,s0⟩
  ·refine⟨false,rfl,?_⟩
   rw[if_neg Bool.false_ne_true];exact hC _ _ ⟨f.la,f.fs,R,S,[],rfl,e0,fun _ _ _ e=>e,B,List.prefix_refl _,List.prefix_refl _,Nat.le_add_right _ _,F.fr,.inl rfl,F.fS⟩
  ·refine⟨true,rfl,?_⟩
   rw[if_pos rfl];refine⟨f,Γ0,ws,R,S,kid,rfl,ek,B,F,hR,fun s0 e0 k H' R' S' fb B' p1 p2 pl' hk'=>⟨by decide,fun p2' h2'=>?_⟩,q1⟩;have s2:=Za5 h2' (.lst [nI k]);refine⟨_,Za4,_,s2 _ _ (fb _ _ F.nl F.fr),Nat.le_of_lt (Zd5 (by show 1+_≤_;rw[List.length_map];walk_at "o")),fun p3 h3=>?_⟩;have s3:=Za5 h3 (.lst ([nI k]++f.fs.map nI));have s23:=s2.trans s3;exact hC _ _ ⟨p3,k :: f.fs,R',S',[s0],rfl,e0,fb.trans (.of s23),B'.keep s23,p1,p2,pl',Za4,.inr (B'.free fb (s2.free h3)),.cons hk' (Zu1 p2 F.fS)⟩
 rintro σ2 H2 ⟨la,fs,R',S',cx,rfl,ec,e2,B2,p1',q2,ql,hla,hn,hfs'⟩;walk_at "1";have F2:=F.mono e2 B.mut q2;obtain⟨p2,xs2,pl2,x2,ev2,hp2,hi2,hx2,hk2⟩:=Xf9 F2.tm ek;rw[hi] at hi2;cases hi2;refine⟨_,_,_,F2.ins,CA.c,CA.t,_,rfl,p2,ev2,_,hp2,_,hx2,fun y dx hy hdx ne=>?_⟩;have sA:Same H2 (upd (upd H2 dx (.own y)) y (.ins C0 dx [])):=(Za5 hdx _).trans (Za5 (by rw[Zb0 ne.symm];exact hy) _);have hyi:upd (upd H2 dx (.own y)) y (.ins C0 dx []) y=some (.ins C0 dx []):=Za4;generalize upd (upd H2 dx (.own y)) y (.ins C0 dx [])=H3 at sA hyi ⊢;refine⟨y,dx,_,_,rfl,hyi,fun lk H' f4 h4 hlk4 nlk=>⟨rfl,?_⟩⟩;have sB:Same H2 H':=fun a o e=>f4 a o (fun z=>by rw[List.mem_singleton.mp z,hy] at e;cases e) (sA _ _ e);have B4:=B2.keep sB;have fr4:FrB (badT A0 N) H1 H':=e2.trans (.of sB);have nlk2:H2 lk=none:=sA.free nlk;have ny:y ∉ badT A0 N:=B2.has hy
 have hlaB:la ∉ badT A0 N:=by
  rcases hn with rfl | hn
  ·exact F.nl
  ·exact B.has hn
 refine q { a:=y,dx:=dx,la:=la,lk:=lk,v:=x2,t:=kid,fs:=fs,Γ:=cx++f.Γ,ks:=[],gs:=[] } cx H' R' S' ec fr4 B4 p1' q2 ql ⟨h4,LZ.keep hk2 sB,sB _ _ hla,hfs',hlk4,.nil,Yf1 _ _,(Xj9 F.fine ek).1,ny,hlaB,B2.has nlk2⟩ rfl rfl rfl (B2.free e2 nlk2) hn (fun z=>?_);rw[show la=lk from z,nlk2] at hla;cases hla
theorem sc_be0:FnScope ["term","given","book","waiting","asked","found"] ["term","given"] (Za7 (top 40)):=scm (by decide +kernel)
theorem Xt5 {k:Nat} {CB C0 aNoKind:Addr} {N:NumT} (CBB:ClsB K CB) (CA:ClsA K C0) {f_be0:Addr} {fd_be0:FuncData} (F_be0:Fun K "kind" "kind" (top 40) f_be0 fd_be0)
  {f_bh0:Addr}{fd_bh0:FuncData}(G_bh0:FnOk P w K mg base (CXe P w) (k+1) f_bh0 fd_bh0 pq16 (fun vs H Q E=>∃ A:{ A:BkA // A.C=CB },Zy0 K C0 aNoKind A.1 N vs H Q E))(m_bh0:MgI mg "next_within" f_bh0)(k_bh0:KpI K f_bh0)(b_bh0:Binds K fd_bh0 pq16 [])
  {f_bf0:Addr}{fd_bf0:FuncData}(G_bf0:FnOk P w K mg base (CXe P w) (k+1) f_bf0 fd_bf0 pq15 (fun vs H Q E=>∃ A:{ A:BkA // A.C=CB },Zq2 K C0 aNoKind A.1 N vs H Q E))(m_bf0:MgI mg "kind_by" f_bf0)(k_bf0:KpI K f_bf0)(b_bf0:Binds K fd_bf0 pq15 [])
  {f_ad0:Addr}{fd_ad0:FuncData}(Mk_Book:Mk K CB f_ad0)(G_ad0:Fk0 P w K mg base k f_ad0 fd_ad0 ["self"] (Zy4 CB))(m_ac0:MgI mg "Book" CB)(b_ad0:Binds K fd_ad0 ["self"] [])
  {f_ab0:Addr}{fd_ab0:FuncData}(Mk_Asked:Mk K C0 f_ab0)(G_ab0:Fk0 P w K mg base k f_ab0 fd_ab0 pq21 (Zs0 C0))(m_aa0:MgI mg "Asked" C0)(b_ab0:Binds K fd_ab0 pq21 [])
  {aINNER:Addr} {aT:Nat→Addr} (m_af0:MgI mg "INNER" aINNER) (D_INNER:KDict K w aINNER (innV aT)) (hI:Inn K aT) (m_len:mg "len"=none):FnOk P w K mg base (CXe P w) (k+2) f_be0 fd_be0 ["term","given"] (Zy3 K aNoKind N):=by
 refine F_be0.okX sc_be0 (fun vs H Q E h=>?_) (fun cdv A outer s H vs Q E hr h=>?_)
 ·obtain⟨v,t,ga,gs,Γ0,ws,rfl,_⟩:=h
  rfl
 obtain⟨v,t,ga,gs,Γ0,ws,rfl,hv,fi,hz,hga,hgs,hs60,hgl,tab,q,q1⟩:=h
 refine⟨_,(Za3 (pst 2 sc_be0.nd (Xc0 Mk_Book G_ad0 hr (by exact rfl) m_ac0 b_ad0 .nil Yi3))
 (Za3 (pst 3 sc_be0.nd (Zc7 (Za0 (Yt9 Mk_Asked G_ab0 hr (by exact rfl) m_aa0 b_ab0 .nil Yi3 (Za0 (pvM 0) (Za0 (Zc7 Za1) Za1))) Za1)))
 (Za6 (Zz2 PassesOwn.leaving (Yd7 Zv8)
  (Za3 (pst 4 sc_be0.nd (pxl (pvM 3) (Xi4 Yr0 Za2)))
 (Za6 (Zc4 (ptcM (Zr5) (Zc5 Zc2 (by exact rfl) m_len Zd4 (Za0 (Ze1 (pvM 4) rfl) Za1)) (Zc5 Zc2 (by exact rfl) m_len Zd4 (Za0 (Zz4 D_INNER rfl m_af0 (pxt (Ze1 (pvM 4) rfl) Za2)) Za1)))
  (Za6 (Zf5 (Zn9 F.plainAttrs_list F.slot_list_append F.type_list_append Ze6 (pvM 3) (Za0 (Zi1 G_bh0 hr (by exact rfl) m_bh0 k_bh0 b_bh0 .nil (Zv9 Ze7) (Za0 (pvM 2) (Za0 (pvM 4) Za1))) Za1))))
  (Za3 (pst 5 sc_be0.nd (Zi1 G_bf0 hr (by exact rfl) m_bf0 k_bf0 b_bf0 .nil (Zv9 Ze7) (Za0 (pvM 2) (Za0 (pvM 4) (Za0 (pvM 1) Za1)))))
 (Za3 (Zf5 (Ye1 F.plainAttrs_list F.slot_list_pop F.type_list_pop Ye3 (pvM 3)))
 (Za3 (Zc4 (Yd8 (Zz0 (pvM 3) (fun _=>rfl)))
  (Za6 (Zb1 (pxl (Ze1 (pvM 2) rfl) (pvM 5))))
  Zb2)
 (Za6 (Zf5 (Zn9 F.plainAttrs_list F.slot_list_append F.type_list_append Ze6 (Ze1 (pxl (pvM 3) (Xi4 Yr0 Za2)) rfl) (Za0 (pvM 5) Za1)))))))))))))),?_⟩
 refine sqt (fun σ' H'=>∃ (A:BkA),σ'=[some v,some (.ref ga),some (.ref A.b),none,none,none]∧A.C=CB∧Same H H'∧BkT A N [] [] H'∧H A.lr=none∧H A.ls=none∧H A.dn=none) ?_ ?_
 ·intro C hC
  walk_at "1";refine fun y dx hy hdx ne=>?_;have sA:Same H (upd (upd H dx (.own y)) y (.ins CB dx [])):=(Za5 hdx _).trans (Za5 (by rw[Zb0 ne.symm];exact hy) _);have hyi:upd (upd H dx (.own y)) y (.ins CB dx []) y=some (.ins CB dx []):=Za4;generalize upd (upd H dx (.own y)) y (.ins CB dx [])=H3 at sA hyi ⊢;refine⟨y,dx,rfl,hyi,fun lr ls dn H' f4 h4 h5 h6 h7 n5 n6 n7 ne'=>⟨rfl,?_⟩⟩;have sB:Same H H':=fun a o e=>f4 a o (fun z=>by rw[List.mem_singleton.mp z,hy] at e;cases e) (sA _ _ e);exact hC _ _ ⟨⟨CB,y,dx,lr,ls,dn⟩,rfl,rfl,sB,Xy6 h4 h5 h6 h7 ne' (tab.keep sB),sA.free n5,sA.free n6,sA.free n7⟩
 rintro σ1 H1 ⟨A0,rfl,eC,e1,B1,n1,n2,n3⟩;refine sqt (fun σ' H'=>∃ (lw:Addr) (f:FrmZ),σ'=[some v,some (.ref ga),some (.ref A0.b),some (.ref lw),none,none]∧LpF A0 N H lw ga∧LpZ K C0 A0 N Γ0 ws t H lw ga gs [] [] [f] H') ?_ ?_
 ·intro C hC
  walk_at "1";refine⟨by decide,fun la hla y dx hy hdx ne=>?_⟩;have s1:=Za5 hla (.lst []);have l1:upd H1 la (.lst []) la=some (.lst []):=Za4;generalize upd H1 la (.lst [])=H2 at s1 l1 hy hdx ⊢;have sA:Same H2 (upd (upd H2 dx (.own y)) y (.ins C0 dx [])):=(Za5 hdx _).trans (Za5 (by rw[Zb0 ne.symm];exact hy) _);have hyi:upd (upd H2 dx (.own y)) y (.ins C0 dx []) y=some (.ins C0 dx []):=Za4;generalize upd (upd H2 dx (.own y)) y (.ins C0 dx [])=H3 at sA hyi ⊢;refine⟨y,dx,_,_,rfl,hyi,fun lk H' f4 h4 hlk4 nlk=>⟨rfl,by decide,fun lw hlw=>?_⟩⟩;have sB:Same H2 H':=fun a o e=>f4 a o (fun z=>by rw[List.mem_singleton.mp z,hy] at e;cases e) (sA _ _ e);have sC:=s1.trans sB;have sD:=Za5 hlw (.lst [.ref y]);have sE:=sC.trans sD;have sF:=e1.trans sE;have nlk2:=sA.free nlk;have nlw:H1 lw=none:=sC.free hlw;have nk1:H1 lk=none:=s1.free nlk2;have ny:H1 y=none:=s1.free hy
  have hgn:ga ∉ badT A0 N:=fun z=>by
   obtain⟨ps,t1,_⟩:=tab;rcases List.mem_cons.mp z with rfl | z
   ·rw[hga] at t1;cases t1
   simp only[List.mem_cons,List.not_mem_nil,or_false] at z;rcases z with rfl | rfl | rfl
   ·rw[n1] at hga;cases hga
   ·rw[n2] at hga;cases hga
   ·rw[n3] at hga;cases hga
  have w0:=Yd0 t;refine hC _ _ ⟨lw,{ a:=y,dx:=dx,la:=la,lk:=lk,v:=v,t:=t,fs:=[],Γ:=[],ks:=[],gs:=[] },rfl,⟨n1,n2,n3,e1.free nlw,B1.has nlw,fun z=>by rw[z,e1.free nlw] at hga;cases hga⟩,⟨fun a o _ e=>sF _ _ e,B1.keep sE,Za4,⟨⟨⟨sD _ _ h4,LZ.keep hv sF,(sB.trans sD) _ _ l1,.nil,sD _ _ hlk4,.nil,Yf1 _ _,fi,B1.has ny,B1.has hla,B1.has nk1⟩,?_,?_,?_,?_,e1.free nk1⟩,(fun q hq=>nomatch hq),⟨rfl,rfl⟩,trivial⟩,⟨sF _ _ hga,Zf1 (Zl2 sF) hgs,hgn,hs60⟩,?_,?_⟩⟩
  ·exact fun z=>by rw[← show la=lw from z,sB _ _ l1] at hlw;cases hlw
  ·exact fun z=>by rw[← show lk=lw from z,hlk4] at hlw;cases hlw
  ·exact fun z=>by rw[← show la=lk from z,l1] at nlk2;cases nlk2
  ·exact fun z=>by rw[show ga=lk from z,e1.free nk1] at hga;cases hga
  ·show 0+100*(1+remZ t 0+0)≤80000
   walk_at "o"
  ·show 1+(1+remZ t 0+0)≤1000
   walk_at "o"
 rintro σ2 H2 ⟨lw,f0,rfl,F,L0⟩;refine⟨fun m σ' H'=>∃ (R:List Rw) (S:List Tm) (f:FrmZ) (fs:List FrmZ) (x4 x5:Option V),m=Zp7 (f :: fs)∧σ'=[some v,some (.ref ga),some (.ref A0.b),some (.ref lw),x4,x5]∧LpZ K C0 A0 N Γ0 ws t H lw ga gs R S (f :: fs) H',⟨_,[],[],f0,[],none,none,rfl,rfl,L0⟩,?_⟩;rintro m σ3 H3 ⟨R,S,f,fs,x4,x5,rfl,rfl,L⟩;have hw3:=L.w;rw[Zg8] at hw3;have FO:=L.st.1.ok;have lf:=Paired.length FO.fS;have lk:=Paired.length FO.kS;have lc:=L.st.ctx;have ll:fs.length+1+Zp7 (f :: fs)≤1000:=L.l;have rr:=L.r;have dead:kd (f.Γ++Γ0) f.t=none→RaiseK aNoKind A0 N H3 E:=fun z R1 S1 H4 e H' fb B' x=>q1 (L.st.dead (fun q z=>z.ok.kk) z) e H4 H' (Yl0 (F.step L.e fb) tab B'.t) B'.t x;obtain⟨p,xs,ev,hp,h0⟩:=Zu3 FO.tm;obtain⟨a,ha,hr'⟩:=Yv9 hI f.t;obtain⟨ys,hy,hyl,_⟩:=hr'.sq H3;rw[Tz.inn_len] at hyl;refine⟨true,rfl,?_⟩;show (if true=true then _ else _);rw[if_pos rfl];refine opq fun Nx hNx=>?_;refine sqt (fun σ' H'=>σ'=[some v,some (.ref ga),some (.ref A0.b),some (.ref lw),some (.ref f.a),x5]∧H'=H3) ?_ ?_
 ·intro C hC
  walk_at "1";exact⟨_,SqL.of hw3,_,Yn7 _ _,hC _ _ ⟨rfl,rfl⟩⟩
 rintro σ4 H4 ⟨rfl,rfl⟩;walk_at "3";refine⟨_,_,_,FO.ins,CA.c,CA.k,_,rfl,_,rfl,_,.inl (SqL.of FO.kd),_,_,_,FO.ins,CA.c,CA.t,_,rfl,p,ev,_,hp,_,h0,_,rfl,_,ha,a,rfl,_,.inr hy,?_⟩;rw[hyl,List.length_map,lk];refine ite2 (fun c=>?_) (fun c=>?_)
 ·have c':f.gs.length < f.t.kids.length:=by walk_at "o"
  obtain⟨⟨kid,mm⟩,ek⟩:∃ x,f.t.kids[f.gs.length]?=some x:=⟨_,List.getElem?_eq_getElem c'⟩;walk_at "1";refine⟨.inl ⟨rfl,_,SqL.of L.w⟩,⟨A0,eC⟩,f,Γ0,ws,R,S,kid,mm,rfl,ek,L.b,FO,by walk_at "o",by walk_at "o",fun hc=>dead (Wa5 FO.kk c' hc),fun n cx H' R' S' hc fb B' p1 p2 rl ok nt ng nΓ fl al ne=>?_⟩;obtain⟨L',lt,hw'⟩:=L.push F ek fb B' p2 rl ok nt ng hc nΓ fl al ne;exact⟨_,hw',Zd5 (by rw[Zg8,List.length_append,List.length_reverse,List.length_map];show fs.length+1≤_;walk_at "o"),hNx _ _ ⟨_,lt,R',S',n,f :: fs,_,_,rfl,rfl,L'⟩⟩
 ·have c':f.gs.length=f.t.kids.length:=by
   have h1:=(fun i g e=>let ⟨kid,m,cx,z,_⟩:=FO.kk i g e;(List.getElem?_eq_some_iff.mp z).1:∀ i g,f.gs[i]?=some g→i < f.t.kids.length);rcases Nat.lt_or_ge f.t.kids.length f.gs.length with z | z
   ·exact absurd (h1 _ _ (List.getElem?_eq_getElem z)) (Nat.lt_irrefl _)
   ·walk_at "o"
  refine sqt (fun σ' H'=>∃ (k:Nat) (R':List Rw) (S':List Tm),σ'=[some v,some (.ref ga),some (.ref A0.b),some (.ref lw),some (.ref f.a),some (nI k)]∧FrB (badT A0 N) H4 H'∧BkT A0 N R' S' H'∧R <+: R'∧S <+: S'∧R'.length≤R.length+100∧∃ g,kd (f.Γ++Γ0) f.t=some g∧S'[k]?=some g) ?_ ?_
  ·intro C hC
   walk_at "1";exact⟨⟨A0,eC⟩,f,ga,gs,Γ0,ws,R,S,rfl,c',L.b,FO,L.g,by walk_at "o",by walk_at "o",fun g hg k H' R' S' fb B' p1 p2 rl hk'=>hC _ _ ⟨k,R',S',rfl,fb,B',p1,p2,rl,g,hg,hk'⟩,dead⟩
  rintro σ5 H5 ⟨k,R',S',rfl,fb,B',p1,p2,rl,g,hg,hk'⟩
  have hw5:H5 lw=some (.lst (Zi7 fs++[.ref f.a])):=by rw[← Zg8];exact fb _ _ F.nw L.w
  refine sqt (fun σ' H'=>σ'=[some v,some (.ref ga),some (.ref A0.b),some (.ref lw),some (.ref f.a),some (nI k)]∧H'=upd H5 lw (.lst (Zi7 fs))) ?_ ?_
  ·intro C hC
   walk_at "1";exact⟨.inl ⟨rfl,_,SqL.of hw5⟩,_,hw5,.ref f.a,by rw[List.length_append,List.length_singleton,Nat.add_sub_cancel,List.getElem?_append_right (Nat.le_refl _),Nat.sub_self];rfl,by rw[List.dropLast_concat];exact hC _ _ ⟨rfl,rfl⟩⟩
  rintro σ6 H6 ⟨rfl,rfl⟩
  cases fs with
  | nil =>
   obtain⟨_,vs,r,g1,g2,g3,g4,g5,gk,g6⟩:=L.last F tab fb B' hg hk';walk_at "1";refine⟨false,.inl ⟨_,SqL.of Za4,rfl⟩,?_⟩;rw[if_pos (by rfl)];exact⟨_,_,_,g1,eC▸CBB.c,eC▸CBB.s,_,rfl,_,rfl,vs,SqL.of g2,r,Zd0 g3,q g r _ gk g4 g5 g6⟩
  | cons pf fs =>
   obtain⟨_,FO',kl,L',lt⟩:=L.pop F c' fb B' p2 rl hg hk';walk_at "1";refine⟨true,.inl ⟨_,SqL.of Za4,by rw[Zg8];simp⟩,?_⟩;rw[if_neg (by decide)];exact⟨_,SqL.of Za4,.ref pf.a,by rw[Zg8];exact Yn7 _ _,_,rfl,_,_,_,FO'.ins,CA.c,CA.k,_,rfl,.inl ⟨rfl,_,SqL.of FO'.kd⟩,_,rfl,_,FO'.kd,Zd5 (by rw[List.length_map];walk_at "o"),hNx _ _ ⟨_,lt,R',S',_,fs,_,_,rfl,rfl,L'⟩⟩
theorem sc_av0:FnScope ["_law_found","_law_due","_law_k"] ["_law_found","_law_due"] (Za7 (top 56)):=scm (by decide +kernel)
theorem Xu3 {k n:Nat} {f_av0:Addr} {fd_av0:FuncData} (F_av0:Fun K "_law_same" "_law_same" (top 56) f_av0 fd_av0) (G_av0:Fk0 P w K mg base k f_av0 fd_av0 pq6 (Zp9 K n)) (m_av0:MgI mg "_law_same" f_av0) (k_av0:KpI K f_av0) (b_av0:Binds K fd_av0 pq6 []) (m_isinstance:mg "isinstance"=none) (m_str:mg "str"=none) (m_range:mg "range"=none) (m_len:mg "len"=none) (m_tuple:mg "tuple"=none):Fk0 P w K mg base (k+1) f_av0 fd_av0 pq6 (Zp9 K (n+1)):=by
 refine F_av0.ok sc_av0 (fun vs H Q E h=>?_) (fun cdv A outer s H vs Q E hr h=>?_)
 ·obtain⟨v,t,i,rfl,_⟩:=h
  rfl
 obtain⟨v,u,i,rfl,h1,h2,hn,q⟩:=h
 refine⟨_,(Za3 (Zc4 (Yd7 (Zc5 Yb3 (by exact rfl) m_isinstance Zd7 (Za0 (pvM 1) (Za0 (Zz6 (v:=.ty "str") (by exact rfl) m_str Yn6 (by exact rfl)) Za1))))
  (Za6 (Zb1 (Yu1 (Zc5 Yb3 (by exact rfl) m_isinstance Zd7 (Za0 (pvM 0) (Za0 (Zz6 (v:=.ty "str") (by exact rfl) m_str Yn6 (by exact rfl)) Za1))) (Yt8 (Zi8 (Zd8) (pvM 0) (pvM 1) (Zk7 _))))))
  Zb2)
 (Za3 (Zc4 ((Yd5 (Yd8 (Yd7 (Zc5 Yb3 (by exact rfl) m_isinstance Zd7 (Za0 (pvM 0) (Za0 (Zz6 (v:=.ty "tuple") (by exact rfl) m_tuple Yq1 (by exact rfl)) Za1))))) (Zr4 (ptcM (Zz8) (Zc5 Zc2 (by exact rfl) m_len Zd4 (Za0 (pvM 0) Za1)) (Zc5 Zc2 (by exact rfl) m_len Zd4 (Za0 (pvM 1) Za1)))))).pt
  (Za6 (Zb1 Zv8))
  Zb2)
 (Za3 (Yd9 PassesOwn.never rfl (Zl8 rfl m_range (Za0 (Zc5 Zc2 (by exact rfl) m_len Zd4 (Za0 (pvM 1) Za1)) Za1)) (Zc8 (i:=2) sc_av0.nd rfl (Or.inl rfl))
  (Za6 (Zc4 (Yd8 (Yd7 (pcl G_av0 hr m_av0 k_av0 b_av0 (Za0 (pxt (pvM 0) (pvM 2)) (Za0 (pxt (pvM 1) (pvM 2)) Za1)))))
  (Za6 (Zb1 Zv8))
  Zb2)))
 (Za6 (Zb1 Zv8))))),?_⟩
 walk_at "1"
 cases i with
 | inl z =>
  have e1:v=.str z:=h1;have e2:u=.str z:=h2;subst e1;subst e2;refine⟨_,.of (.str z),_,Ya6 K "str",?_⟩;rw[if_pos rfl];refine⟨_,.of (.str z),_,Ya6 K "str",?_⟩;rw[if_pos rfl,decide_eq_true rfl];exact⟨Zs1 _ _,q⟩
 | inr t =>
  have h1':IsT K H v t:=h1;have h2':IsT K H u t:=h2;obtain⟨p1,xs1,rfl,s1,d1⟩:=Ym7 h1';obtain⟨p2,xs2,rfl,s2,d2⟩:=Ym7 h2';have l1:=Paired.length d1;have l2:=Paired.length d2;have l3:=Xa9 t;refine⟨_,.tupK s2,_,Xw4 K,?_⟩;rw[if_neg Bool.false_ne_true];refine⟨_,.tupK s1,_,Ya6 K "tuple",?_⟩;rw[if_neg (by decide)];refine⟨p1,rfl,xs1,.inr s1,p2,rfl,xs2,.inr s2,?_⟩;rw[if_neg (by rw[l1,l2];simp)];walk_at "2";refine⟨xs2,.inr s2,by walk_at "o",by walk_at "o",?_⟩;refine Zv1 (D:={ nx:=tRet (tC (.bl true)) { nx:=fun _ H'=>Q .non H',rt:=Q },rt:=Q }) (n:=((xs2.length:Int)).toNat) (lo:=0) (fun i σ' H'=>∃ x2,σ'=[some (.ref p1),some (.ref p2),x2]∧H'=H) ⟨none,rfl,rfl⟩ (fun i σ' H' hi hp=>?_) (fun σ' H' hp=>?_)
  ·obtain⟨x2,rfl,rfl⟩:=hp
   have hi2:i < xs2.length:=by walk_at "o"
   have hi1:i < xs1.length:=by walk_at "o"
   obtain⟨j,hj,dj⟩:=paired_get d1 (List.getElem?_eq_getElem hi1);obtain⟨j',hj',dj'⟩:=paired_get d2 (List.getElem?_eq_getElem hi2);rw[hj] at hj';cases hj';have hin:=Ys3 j (List.mem_of_getElem? hj);have hn':t.deep < n+1:=hn;walk_at "1"
   have a1:atI xs1 (0+(i:Int))=some xs1[i]:=by rw[Int.zero_add];exact Zd0 (List.getElem?_eq_getElem hi1)
   have a2:atI xs2 (0+(i:Int))=some xs2[i]:=by rw[Int.zero_add];exact Zd0 (List.getElem?_eq_getElem hi2)
   refine⟨_,s1,_,a1,_,s2,_,a2,_,_,j,rfl,dj,dj',by walk_at "o",_,rfl,?_⟩;rw[if_neg (by decide)]
  ·obtain⟨x2,rfl,rfl⟩:=hp
   walk_at "1";exact q
theorem Ys8 {f:Addr} {fd:FuncData} {ps:List Str} {k:Nat}:Fk0 P w K mg base k f fd ps (Zp9 K 0):=by
 have no:∀ vs H Q E,¬ Zp9 K 0 vs H Q E:=fun vs H Q E h=>by
  obtain⟨_,_,_,_,_,_,hn,_⟩:=h;exact absurd hn (Nat.not_lt_zero _)
 exact⟨fun vs H Q E h=>absurd h (no vs H Q E),fun A outer s H args us vs Q E _ _ _ _ h=>absurd h (no vs H Q E)⟩
theorem Yz3 {f_av0:Addr} {fd_av0:FuncData} (F_av0:Fun K "_law_same" "_law_same" (top 56) f_av0 fd_av0) (m_av0:MgI mg "_law_same" f_av0) (b_av0:Binds K fd_av0 pq6 []) (m_isinstance:mg "isinstance"=none) (m_str:mg "str"=none) (m_range:mg "range"=none) (m_len:mg "len"=none) (m_tuple:mg "tuple"=none) :
  ∀ n:Nat,Fk0 P w K mg base (n+1) f_av0 fd_av0 pq6 (Zp9 K n)
 | 0=>Ys8
 | n+1=>Xu3 F_av0 (Yz3 F_av0 m_av0 b_av0 m_isinstance m_str m_range m_len m_tuple n) m_av0 F_av0.kp b_av0 m_isinstance m_str m_range m_len m_tuple
theorem sc_ap0:FnScope ["_law_term","_law_given_here","_law_one","_law_other_here"] ["_law_term","_law_given_here"] (Za7 (top 58)):=scm (by decide +kernel)
theorem sc_ao0:FnScope ["_law_term","_law_given_here","_law_shape","_law_one","_law_other_here"] ["_law_term","_law_given_here"] (Za7 (top 57)):=scm (by decide +kernel)
theorem sc_an0:FnScope ["_law_term","_law_given_here","_law_head","_law_inner_here"] ["_law_term","_law_given_here"] (Za7 (top 59)):=scm (by decide +kernel)
theorem Xu6 {k n:Nat} {f_ap0:Addr} {fd_ap0:FuncData} (F_ap0:Fun K "_law_kind_of_two" "_law_kind_of_two" (top 58) f_ap0 fd_ap0) (C__law_kind:Cl P w K mg base k "_law_kind" pq12 (Zi5 K n)):Fk0 P w K mg base (k+1) f_ap0 fd_ap0 pq12 (Yc7 K n):=by
 refine F_ap0.ok sc_ap0 (fun vs H Q E h=>?_) (fun cdv A outer s H vs Q E hr h=>?_)
 ·obtain⟨v,u,a,b,ga,gs,Γ,ws,D,rfl,_⟩:=h
  rfl
 obtain⟨v,u,a,b,ga,gs,Γ,ws,D,rfl,hv,da,db,fi,G,hz,hl,q⟩:=h;obtain⟨p,x,y,rfl,hs,ha,hb⟩:=hv;have hz:D+(1+a.size+b.size)≤200:=hz;have hl:gs.length+(1+a.size+b.size)≤900:=hl
 refine⟨_,(Za3 (pst 2 sc_ap0.nd (Zc0 C__law_kind hr (Za0 (pxt (pvM 0) Za2) (Za0 (pvM 1) Za1))))
 (Za3 (pst 3 sc_ap0.nd (Zc0 C__law_kind hr (Za0 (pxt (pvM 0) Za2) (Za0 (pvM 1) Za1))))
 (Za3 (Zc4 ((Yd5 (ptcM (Zr6) (pvM 2) Zg7) (Zr4 (ptcM (Zr6) (pvM 3) Zg7)))).pt
  (Za6 (Zb1 Zg7))
  Zb2)
 (Za3 (Zc4 (ptcM (Zd8) (pxt (pvM 0) Za2) Za9)
  (Za6 (Zb1 (Zb4 (Za0 Za9 (Za0 (pvM 2) (Za0 (pvM 3) Za1))))))
  Zb2)
 (Za3 (Zc4 ((Yd5 (ptcM (Zz8) (pxt (pvM 2) Za2) Za9) (Zr4 (ptcM (Yu3 (Yw2 hr)) (pxt (pvM 2) Za2) (pvM 3))))).pt
  (Za6 (Zb1 Zg7))
  Zb2)
 (Za6 (Zb1 (pxt (pvM 2) Za2)))))))),?_⟩
 refine sqt (fun σ' H'=>∃ r,σ'=[some (.ref p),some (.ref ga),some r,none]∧Same H H'∧OptK H' r (kd Γ a)) ?_ ?_
 ·intro C hC
  walk_at "1";exact⟨_,hs,_,rfl,x,a,ga,gs,Γ,ws,D,rfl,ha,da,fi.1,G,by walk_at "o",by walk_at "o",fun r H' e o=>hC _ _ ⟨r,rfl,e,o⟩⟩
 rintro σ1 H1 ⟨r1,rfl,e1,o1⟩;refine sqt (fun σ' H'=>∃ r,σ'=[some (.ref p),some (.ref ga),some r1,some r]∧Same H1 H'∧OptK H' r (kd Γ b)) ?_ ?_
 ·intro C hC
  walk_at "1";exact⟨_,e1.sqt hs,_,rfl,y,b,ga,gs,Γ,ws,D,rfl,LZ.keep hb e1,db,fi.2,G.keep e1,by walk_at "o",by walk_at "o",fun r H' e o=>hC _ _ ⟨r,rfl,e,o⟩⟩
 rintro σ2 H2 ⟨r2,rfl,e2,o2⟩;have e02:=e1.trans e2;have o1:=o1.keep e2;have s2:=e02.sqt hs;have ek:kd Γ (.two u a b)=(kd Γ a).bind fun g=>(kd Γ b).bind fun h=>kdBy (.two u a b) [g,h]:=rfl;refine sqt (fun σ' H'=>σ'=[some (.ref p),some (.ref ga),some r1,some r2]∧H'=H2∧∃ g h,kd Γ a=some g∧kd Γ b=some h) ?_ ?_
 ·intro C hC
  walk_at "1"
  by_cases c1:r1=.non
  ·rw[if_pos c1,if_pos trivial]
   rw[o1.non.mp c1] at ek;exact q _ _ e02 (by rw[ek];exact rfl)
  rw[if_neg c1];obtain⟨g,eg⟩:=Option.ne_none_iff_exists'.mp fun z=>c1 (o1.non.mpr z)
  by_cases c2:r2=.non
  ·rw[if_pos c2]
   rw[eg,o2.non.mp c2] at ek;exact q _ _ e02 (by rw[ek];exact rfl)
  rw[if_neg c2];obtain⟨h,eh⟩:=Option.ne_none_iff_exists'.mp fun z=>c2 (o2.non.mpr z);exact hC _ _ ⟨rfl,rfl,g,h,eg,eh⟩
 rintro σ3 H3 ⟨rfl,rfl,g,h,eg,eh⟩;have ig:=Zh0 fi.1 G.d G.s eg;have ih:=Zh0 fi.2 G.d G.s eh;rw[eg] at o1;rw[eh] at o2;rw[eg,eh] at ek;have ek:kd Γ (.two u a b)=kdBy (.two u a b) [g,h]:=ek;rw[ek] at q;refine sqt (fun σ' H'=>σ'=[some (.ref p),some (.ref ga),some r1,some r2]∧H'=H3∧u=.use) ?_ ?_
 ·intro C hC
  walk_at "1";refine⟨_,s2,_,rfl,rfl,?_⟩
  cases u with
  | pair =>
   rw[if_pos (by rfl)];exact⟨by decide,fun p1 h1=>q _ _ (e02.trans (Za5 h1 _)) ⟨p1,r1,r2,rfl,Za4,Lt.keep o1 (Za5 h1 _),Lt.keep o2 (Za5 h1 _)⟩⟩
  | use =>
   rw[if_neg (by decide)];exact hC _ _ ⟨rfl,rfl,rfl⟩
 rintro σ4 H4 ⟨rfl,rfl,rfl⟩;obtain⟨pg,ys,rfl,hg,hv⟩:=Yi7 o1;refine sqt (fun σ' H'=>σ'=[some (.ref p),some (.ref ga),some (.ref pg),some r2]∧H'=H4∧∃ g2,g=.nd .thn h g2) ?_ ?_
 ·intro C hC
  walk_at "1";refine⟨_,.inl (.inl hg),_,Zd0 (j:=0) rfl,rfl,?_⟩
  by_cases c:g.tagS="then"
  ·rw[if_neg (by rw[c];simp)]
   obtain⟨a1,b1,rfl⟩:=Zh9 (k:=.thn) c;obtain⟨x1,y1,rfl,l1,l2⟩:=hv _ _ _ rfl;have ia1:=Yw1 ig;refine⟨_,.inl (.inl hg),_,rfl,a1.data,Lt.isT l1,h.data,Lt.isT o2,a1.lay (ia1.1.ok G.w),h.lay (ih.1.ok G.w),by rw[Tm.depth,Tm.depth];have:=ia1.2;walk_at "o",?_⟩;rw[if_pos trivial,Tm.eqv]
   by_cases d:a1=h
   ·rw[if_neg (by simp[d])]
    exact hC _ _ ⟨rfl,rfl,b1,by rw[d]⟩
   ·rw[if_pos (by simp[d])]
    exact q _ _ e02 (by rw[Yy8 d];exact rfl)
  ·rw[if_pos (by simpa using c),if_pos trivial]
   exact q _ _ e02 (by rw[Xg6 c];exact rfl)
 rintro σ5 H5 ⟨rfl,rfl,g2,rfl⟩;obtain⟨x1,y1,rfl,l1,l2⟩:=hv _ _ _ rfl;walk_at "1";exact⟨_,.inl (.inl hg),_,rfl,q _ _ e02 (by show OptK _ _ (if h=h then some g2 else none);rw[if_pos rfl];exact l2)⟩
theorem Xu7 {k n:Nat} {f_ao0:Addr} {fd_ao0:FuncData} (F_ao0:Fun K "_law_kind_of_cases" "_law_kind_of_cases" (top 57) f_ao0 fd_ao0) (C__law_kind:Cl P w K mg base k "_law_kind" pq12 (Zi5 K n)):Fk0 P w K mg base (k+1) f_ao0 fd_ao0 pq12 (Yc6 K n):=by
 refine F_ao0.ok sc_ao0 (fun vs H Q E h=>?_) (fun cdv A outer s H vs Q E hr h=>?_)
 ·obtain⟨v,a,b,c,ga,gs,Γ,ws,D,rfl,_⟩:=h
  rfl
 obtain⟨v,a,b,c,ga,gs,Γ,ws,D,rfl,hv,da,db,dc,fi,G,hz,hl,q⟩:=h;obtain⟨p,x,y,z,rfl,hs,ha,hb,hc⟩:=hv;have hz:D+(1+a.size+b.size+c.size)≤200:=hz;have hl:gs.length+(1+a.size+b.size+c.size)≤900:=hl
 refine⟨_,(Za3 (pst 2 sc_ao0.nd (Zc0 C__law_kind hr (Za0 (pxt (pvM 0) Za2) (Za0 (pvM 1) Za1))))
 (Za3 (Zc4 ((Yd5 (ptcM (Zr6) (pvM 2) Zg7) (Zr4 (ptcM (Zz8) (pxt (pvM 2) Za2) Za9)))).pt
  (Za6 (Zb1 Zg7))
  Zb2)
 (Za3 (pst 3 sc_ao0.nd (Zc0 C__law_kind hr (Za0 (pxt (pvM 0) Za2) (Za0 (Zb3 Zu0 (Zc7 (Za0 (pxt (pvM 2) Za2) Za1)) (pvM 1)) Za1))))
 (Za3 (pst 4 sc_ao0.nd (Zc0 C__law_kind hr (Za0 (pxt (pvM 0) Za2) (Za0 (Zb3 Zu0 (Zc7 (Za0 (pxt (pvM 2) Za2) Za1)) (pvM 1)) Za1))))
 (Za3 (Zc4 ((Yd5 (ptcM (Zr6) (pvM 3) Zg7) (Zr4 (ptcM (Yu3 (Yw2 hr)) (pvM 3) (pvM 4))))).pt
  (Za6 (Zb1 Zg7))
  Zb2)
 (Za6 (Zb1 (pvM 3)))))))),?_⟩
 refine sqt (fun σ' H'=>∃ r,σ'=[some (.ref p),some (.ref ga),some r,none,none]∧Same H H'∧OptK H' r (kd Γ a)) ?_ ?_
 ·intro C hC
  walk_at "1";exact⟨_,hs,_,rfl,x,a,ga,gs,Γ,ws,D,rfl,ha,da,fi.1,G,by walk_at "o",by walk_at "o",fun r H' e o=>hC _ _ ⟨r,rfl,e,o⟩⟩
 rintro σ1 H1 ⟨r1,rfl,e1,o1⟩
 have ek:kd Γ (.cs a b c)=(kd Γ a).bind fun g=>match g with
  | .nd .one h k=>(kd (h :: Γ) b).bind fun x=>(kd (k :: Γ) c).bind fun y=>kdBy (.cs a b c) [g,x,y]
  | _=>none:=rfl
 refine sqt (fun σ' H'=>σ'=[some (.ref p),some (.ref ga),some r1,none,none]∧H'=H1∧∃ h k,kd Γ a=some (.nd .one h k)) ?_ ?_
 ·intro C hC
  walk_at "1"
  by_cases c1:r1=.non
  ·rw[if_pos c1,if_pos trivial]
   rw[o1.non.mp c1] at ek;exact q _ _ e1 (by rw[ek];exact rfl)
  rw[if_neg c1];obtain⟨g,eg⟩:=Option.ne_none_iff_exists'.mp fun z=>c1 (o1.non.mpr z);rw[eg] at o1 ek;obtain⟨pg,ys,rfl,hg,hv⟩:=Yi7 o1;refine⟨pg,rfl,_,.inl (.inl hg),_,Zd0 (j:=0) rfl,rfl,?_⟩
  by_cases d:g.tagS="one"
  ·rw[if_neg (by rw[d];simp)]
   obtain⟨a1,b1,rfl⟩:=Zh9 (k:=.one) d;exact hC _ _ ⟨rfl,rfl,a1,b1,eg⟩
  ·rw[if_pos (by simpa using d)]
   refine q _ _ e1 ?_;rw[ek]
   match g,d with
   | .low,_=>exact rfl
   | .ltr _,_=>exact rfl
   | .nd .both _ _,_=>exact rfl
   | .nd .thn _ _,_=>exact rfl
   | .nd .one _ _,d=>exact absurd rfl d
 rintro σ2 H2 ⟨rfl,rfl,h,k2,eg⟩;have ig:=Zh0 fi.1 G.d G.s eg;rw[eg] at o1 ek;have ek:kd Γ (.cs a b c)=(kd (h :: Γ) b).bind fun x=>(kd (k2 :: Γ) c).bind fun y=>kdBy (.cs a b c) [.nd .one h k2,x,y]:=ek;obtain⟨pg,x1,y1,rfl,hg,l1,l2⟩:=o1;have G1:=G.keep e1;refine sqt (fun σ' H'=>∃ r,σ'=[some (.ref p),some (.ref ga),some (.ref pg),some r,none]∧Same H2 H'∧OptK H' r (kd (h :: Γ) b)) ?_ ?_
 ·intro C hC
  walk_at "1";refine⟨_,e1.sqt hs,_,rfl,_,.inl (.inl hg),_,rfl,by decide,fun p1 h1=>?_⟩;have s1:=Za5 h1 (.lst [x1]);refine⟨_,Za4,gs,s1 _ _ G1.l,Nat.le_of_lt (Zd5 (by show 1+gs.length≤_;walk_at "o")),fun p2 h2=>?_⟩;have s2:=Za5 h2 (.lst ([x1]++gs));have s12:=s1.trans s2;exact⟨y,b,p2,x1 :: gs,h :: Γ,ws,D+a.size,rfl,LZ.keep hb (e1.trans s12),db,fi.2.1,G1.more s12 Za4 (Lt.keep l1 s12) (Yw1 ig) (Nat.le_add_right _ _),by walk_at "o",by show gs.length+1+b.size≤900;walk_at "o",fun r H' e o=>hC _ _ ⟨r,rfl,s12.trans e,o⟩⟩
 rintro σ3 H3 ⟨r2,rfl,e3,o2⟩;have G3:=G1.keep e3;have e13:=e1.trans e3;refine sqt (fun σ' H'=>∃ r,σ'=[some (.ref p),some (.ref ga),some (.ref pg),some r2,some r]∧Same H3 H'∧OptK H' r (kd (k2 :: Γ) c)) ?_ ?_
 ·intro C hC
  walk_at "1";refine⟨_,e13.sqt hs,_,rfl,_,.inl (.inl (e3 _ _ hg)),_,rfl,by decide,fun p1 h1=>?_⟩;have s1:=Za5 h1 (.lst [y1]);refine⟨_,Za4,gs,s1 _ _ G3.l,Nat.le_of_lt (Zd5 (by show 1+gs.length≤_;walk_at "o")),fun p2 h2=>?_⟩;have s2:=Za5 h2 (.lst ([y1]++gs));have s12:=s1.trans s2;exact⟨z,c,p2,y1 :: gs,k2 :: Γ,ws,D+a.size,rfl,LZ.keep hc (e13.trans s12),dc,fi.2.2,G3.more s12 Za4 (Lt.keep l2 (e3.trans s12)) (Xd0 ig) (Nat.le_add_right _ _),by walk_at "o",by show gs.length+1+c.size≤900;walk_at "o",fun r H' e o=>hC _ _ ⟨r,rfl,s12.trans e,o⟩⟩
 rintro σ4 H4 ⟨r3,rfl,e4,o3⟩;have o2:=o2.keep e4;have e14:=e13.trans e4;have fb:∀ g,kd (h :: Γ) b=some g→inD ws (D+a.size+b.size) g:=fun g e=>Zh0 fi.2.1 (Nat.le_trans G.d (Nat.le_add_right _ _)) (List.forall_mem_cons.mpr ⟨Yw1 ig,fun s hs=>(G.s s hs).mono (Nat.le_add_right _ _)⟩) e;have fc:∀ g,kd (k2 :: Γ) c=some g→inD ws (D+a.size+c.size) g:=fun g e=>Zh0 fi.2.2 (Nat.le_trans G.d (Nat.le_add_right _ _)) (List.forall_mem_cons.mpr ⟨Xd0 ig,fun s hs=>(G.s s hs).mono (Nat.le_add_right _ _)⟩) e;walk_at "1"
 by_cases c1:r2=.non
 ·rw[if_pos c1,if_pos trivial]
  rw[o2.non.mp c1] at ek;exact q _ _ e14 (by rw[ek];exact rfl)
 rw[if_neg c1];obtain⟨g,eg2⟩:=Option.ne_none_iff_exists'.mp fun z=>c1 (o2.non.mpr z);refine⟨_,o2.dn,_,o3.dn,Yx2 G.w fun g e=>(fb g e).1,Yx2 G.w fun g e=>(fc g e).1,Nat.le_trans (Nat.min_le_left _ _) (Nat.le_trans (Yx3 fun g e=>(fb g e).2) (by walk_at "o")),?_⟩;rw[if_pos trivial,Xl7]
 by_cases d:kd (h :: Γ) b=kd (k2 :: Γ) c
 ·rw[if_neg (by simp[d])]
  refine q _ _ e14 ?_;rw[ek,← d,eg2];rw[eg2] at o2;show OptK _ _ (if g=g then some g else none);rw[if_pos rfl];exact o2
 ·rw[if_pos (by simp[d])]
  refine q _ _ e14 ?_;rw[ek,eg2];rw[eg2] at d
  cases e:kd (k2 :: Γ) c with
  | none=>exact rfl
  | some g' =>
   rw[e] at d;show OptK _ _ (if g=g' then some g else none);rw[if_neg fun z=>d (by rw[z])];exact rfl
theorem Xu8 {k n:Nat} {f_an0:Addr} {fd_an0:FuncData} (F_an0:Fun K "_law_kind" "_law_kind" (top 59) f_an0 fd_an0) (G_an0:Fk0 P w K mg base k f_an0 fd_an0 pq12 (Zi5 K n)) (m_an0:MgI mg "_law_kind" f_an0) (k_an0:KpI K f_an0) (b_an0:Binds K fd_an0 pq12 []) (C__law_kind_of_two:Cl P w K mg base k "_law_kind_of_two" pq12 (Yc7 K n)) (C__law_kind_of_cases:Cl P w K mg base k "_law_kind_of_cases" pq12 (Yc6 K n)) (m_len:mg "len"=none) (m_int:mg "int"=none):Fk0 P w K mg base (k+1) f_an0 fd_an0 pq12 (Zi5 K (n+1)):=by
 refine F_an0.ok sc_an0 (fun vs H Q E h=>?_) (fun cdv A outer s H vs Q E hr h=>?_)
 ·obtain⟨v,t,ga,gs,Γ,ws,D,rfl,_⟩:=h
  rfl
 obtain⟨v,t,ga,gs,Γ,ws,D,rfl,hv,dt,fi,G,hz,hl,q⟩:=h
 refine⟨_,(Za3 (pst 2 sc_an0.nd (pxt (pvM 0) Za2))
 (Za3 (Zc4 (ptcM (Zd8) (pvM 2) Za9)
  (Za3 (Zc4 (Zz1 (Yl8) (Zr5) Za2 (pxt (pvM 0) Za2) (Zc5 Zc2 (by exact rfl) m_len Zd4 (Za0 (pvM 1) Za1)))
  (Za6 (Zb1 (pxl (pvM 1) (pxt (pvM 0) Za2))))
  Zb2)
 (Za6 (Zb1 Zg7)))
  Zb2)
 (Za3 (Zc4 (Zg4 (Zg5) (pvM 2) (Zb4 (Za0 Za9 (Za0 Za9 Za1))) (by with_unfolding_all rfl))
  (Za6 (Zb1 (Zc0 C__law_kind_of_two hr (Za0 (pvM 0) (Za0 (pvM 1) Za1)))))
  Zb2)
 (Za3 (Zc4 (ptcM (Zd8) (pvM 2) Za9)
  (Za6 (Zb1 (Zc0 C__law_kind_of_cases hr (Za0 (pvM 0) (Za0 (pvM 1) Za1)))))
  Zb2)
 (Za3 (Zc4 (ptcM (Zd8) (pvM 2) Za9)
  (Za3 (pst 3 sc_an0.nd (pcl G_an0 hr m_an0 k_an0 b_an0 (Za0 (pxt (pvM 0) Za2) (Za0 (Zb3 Zu0 (Zc7 (Za0 (pxt (pvM 0) Za2) Za1)) (pvM 1)) Za1))))
 (Za3 (Zc4 (ptcM (Zr6) (pvM 3) Zg7)
  (Za6 (Zb1 Zg7))
  Zb2)
 (Za6 (Zb1 (Zb4 (Za0 Za9 (Za0 (pxt (pvM 0) Za2) (Za0 (pvM 3) Za1))))))))
  Zb2)
 (Za3 (pst 3 sc_an0.nd (pcl G_an0 hr m_an0 k_an0 b_an0 (Za0 (pxt (pvM 0) Za2) (Za0 (pvM 1) Za1))))
 (Za3 (Zc4 ((Yd5 (ptcM (Zr6) (pvM 3) Zg7) (Zr4 ((Yd6 (Zg4 (Zg5) (pvM 2) (Zb4 (Za0 Za9 (Za0 Za9 Za1))) (by with_unfolding_all rfl)) (Zt7 (ptcM (Zz8) (pxt (pvM 3) Za2) Za9)))).pt))).pt
  (Za6 (Zb1 Zg7))
  Zb2)
 (Za3 (Zc4 (ptcM (Zd8) (pvM 2) Za9)
  (Za6 (Zb1 (pxt (pvM 3) Za2)))
  Zb2)
 (Za3 (Zc4 (ptcM (Zd8) (pvM 2) Za9)
  (Za6 (Zb1 (pxt (pvM 3) Za2)))
  Zb2)
 (Za3 (Zc4 (ptcM (Zd8) (pvM 2) Za9)
  (Za6 (Zb1 (pxl (Zc7 (Za0 Zg7 (Za0 (pxt (pvM 0) Za2) Za1))) (Zh2 Zi3 (by exact rfl) m_int Zk4 (Za0 (Zi8 (Xj0 (Yw2 hr)) (pvM 3) (Zb4 (Za0 Za9 Za1)) (Zk7 _)) Za1)))))
  Zb2)
 (Za6 (Zb1 (pxl (Zc7 (Za0 (Zb4 (Za0 Za9 (Za0 (pvM 3) (Za0 (pxt (pvM 0) Za2) Za1)))) (Za0 (Zb4 (Za0 Za9 (Za0 (pxt (pvM 0) Za2) (Za0 (pvM 3) Za1)))) Za1))) (Zh2 Zi3 (by exact rfl) m_int Zk4 (Za0 (Zi8 (Zd8) (pvM 2) Za9 (Zk7 _)) Za1))))))))))))))),?_⟩
 obtain⟨p,xs,rfl,hp,h0⟩:=Zu3 hv;refine sqt (fun σ' H'=>σ'=[some (.ref p),some (.ref ga),some (.str t.tag),none]∧H'=H) ?_ ?_
 ·intro C hC
  walk_at "1";exact⟨_,hp,_,h0,hC _ _ ⟨rfl,rfl⟩⟩
 rintro σ1 H1 ⟨rfl,rfl⟩;refine sqt (fun σ' H'=>σ'=[some (.ref p),some (.ref ga),some (.str t.tag),none]∧H'=H1∧¬ t.tag="at") ?_ ?_
 ·intro C hC
  walk_at "1"
  by_cases c:t.tag="at"
  ·rw[if_pos c]
   obtain⟨i,rfl⟩:=Zx8 c;obtain⟨p',e,hs⟩:=hv;cases e;have lg:=Paired.length G.p;refine⟨_,hs,_,rfl,_,rfl,?_⟩
   by_cases c0:0≤i
   ·rw[if_pos c0]
    obtain⟨j,rfl⟩:=Int.eq_ofNat_of_zero_le c0;have ek:kd Γ (.at (j:Nat))=Γ[j]?:=if_pos c0;rw[ek] at q;refine⟨gs,.inl (SqL.of G.l),_,rfl,?_⟩
    by_cases d:j < gs.length
    ·rw[if_pos (by walk_at "o")]
     obtain⟨g',z1,z2⟩:=paired_get G.p (List.getElem?_eq_getElem d);exact⟨_,hs,_,rfl,gs,_,rfl,SqL.of G.l,gs[j],Zd0 (List.getElem?_eq_getElem d),q _ _ (Same.refl _) (by rw[z1];exact z2)⟩
    ·rw[if_neg (by walk_at "o")]
     exact q _ _ (Same.refl _) (by rw[List.getElem?_eq_none (by walk_at "o")];exact rfl)
   ·rw[if_neg c0,if_neg Bool.false_ne_true]
    exact q _ _ (Same.refl _) (by rw[show kd Γ (.at i)=none from if_neg c0];exact rfl)
  ·rw[if_neg c]
   exact hC _ _ ⟨rfl,rfl,c⟩
 rintro σ1 H1 ⟨rfl,rfl,n1⟩;refine sqt (fun σ' H'=>σ'=[some (.ref p),some (.ref ga),some (.str t.tag),none]∧Same H1 H'∧¬ inV (V.str t.tag) [.str "pair",.str "use"]=true) ?_ ?_
 ·intro C hC
  walk_at "1";refine⟨by decide,?_⟩;intro p1 h_p1;generalize e_p1:upd H1 p1 (.tup [.str "pair",.str "use"])=J1;have s1:=nw1 h_p1 e_p1;have q1:=nw2 (K:=K) e_p1;refine⟨_,.inr q1,rfl,rfl,?_⟩;rw[if_neg Bool.false_ne_true]
  by_cases c:inV (V.str t.tag) [.str "pair",.str "use"]=true
  ·rw[if_pos c]
   obtain⟨u,a,b,rfl⟩:=Yh0 c;have dt:1+max a.deep b.deep≤n+1:=dt;exact⟨_,u,a,b,ga,gs,Γ,ws,D,rfl,LZ.keep hv s1,by walk_at "o",by walk_at "o",fi,G.keep s1,hz,hl,fun r H' e o=>q _ _ (s1.trans e) o⟩
  ·rw[if_neg c]
   exact hC _ _ ⟨rfl,s1,c⟩
 rintro σ2 H2 ⟨rfl,e2,n2⟩;have hv2:=LZ.keep hv e2;have G2:=G.keep e2;refine sqt (fun σ' H'=>σ'=[some (.ref p),some (.ref ga),some (.str t.tag),none]∧H'=H2∧¬ t.tag="cases") ?_ ?_
 ·intro C hC
  walk_at "1"
  by_cases c:t.tag="cases"
  ·rw[if_pos c]
   obtain⟨a,b,d,rfl⟩:=Yr8 c;have dt:1+max a.deep (max b.deep d.deep)≤n+1:=dt;exact⟨_,a,b,d,ga,gs,Γ,ws,D,rfl,hv2,by walk_at "o",by walk_at "o",by walk_at "o",fi,G2,hz,hl,fun r H' e o=>q _ _ (e2.trans e) o⟩
  ·rw[if_neg c]
   exact hC _ _ ⟨rfl,rfl,c⟩
 rintro σ3 H3 ⟨rfl,rfl,n3⟩;refine sqt (fun σ' H'=>σ'=[some (.ref p),some (.ref ga),some (.str t.tag),none]∧H'=H3∧¬ t.tag="fun") ?_ ?_
 ·intro C hC
  walk_at "3";refine ite2 (fun c=>?_) (fun c=>hC _ _ ⟨rfl,rfl,c⟩);obtain⟨s1,a,rfl⟩:=Yr7 c;obtain⟨p',x,y,e,hs,hx,hy⟩:=hv2;cases e;have dt:1+a.deep≤n+1:=dt;have hz:D+(1+a.size)≤200:=hz;have hl:gs.length+(1+a.size)≤900:=hl;have ek:kd Γ (.fn s1 a)=(kd (s1 :: Γ) a).bind fun g=>kdBy (.fn s1 a) [g]:=rfl;refine sqt (fun σ' H'=>∃ r,σ'=[some (.ref p),some (.ref ga),some (.str "fun"),some r]∧Same H3 H'∧OptK H' r (kd (s1 :: Γ) a)) ?_ ?_
  ·intro C' hC'
   walk_at "1";refine⟨_,hs,_,rfl,_,hs,_,rfl,by decide,fun p1 h1=>?_⟩;have s1':=Za5 h1 (.lst [x]);refine⟨_,Za4,gs,s1' _ _ G2.l,Nat.le_of_lt (Zd5 (by show 1+gs.length≤_;walk_at "o")),fun p2 h2=>?_⟩;have s2:=Za5 h2 (.lst ([x]++gs));have s12:=s1'.trans s2;exact⟨y,a,p2,x :: gs,s1 :: Γ,ws,D,rfl,LZ.keep hy s12,by walk_at "o",fi.2,G2.more s12 Za4 (Lt.keep hx s12) (fi.1.inD G.d) (Nat.le_refl _),by walk_at "o",by show gs.length+1+a.size≤900;walk_at "o",fun r H' e o=>hC' _ _ ⟨r,rfl,s12.trans e,o⟩⟩
  rintro σ4 H4 ⟨r,rfl,e4,o4⟩;have e04:=e2.trans e4;walk_at "1"
  by_cases d:r=.non
  ·rw[if_pos d]
   rw[o4.non.mp d] at ek;exact q _ _ e04 (by rw[ek];exact rfl)
  rw[if_neg d];obtain⟨g,eg⟩:=Option.ne_none_iff_exists'.mp fun z=>d (o4.non.mpr z);rw[eg] at o4 ek;refine⟨_,e4.sqt hs,_,rfl,by decide,fun p1 h1=>q _ _ (e04.trans (Za5 h1 _)) ?_⟩;rw[ek];exact⟨p1,x,r,rfl,Za4,Lt.keep hx (e4.trans (Za5 h1 _)),Lt.keep o4 (Za5 h1 _)⟩
 rintro σ4 H4 ⟨rfl,rfl,n4⟩;obtain⟨u,a,ss,rfl⟩:=Yh1 n1 n2 n3 n4;obtain⟨p',x,rs,e,hs,hx,hrs⟩:=hv2;cases e;have dt:1+a.deep≤n+1:=dt;have hz:D+(1+a.size)≤200:=hz;have hl:gs.length+(1+a.size)≤900:=hl;have ek:kd Γ (.one u a ss)=(kd Γ a).bind fun g=>kdBy (.one u a ss) [g]:=rfl;refine sqt (fun σ' H'=>∃ r,σ'=[some (.ref p),some (.ref ga),some (.str u.str),some r]∧Same H4 H'∧OptK H' r (kd Γ a)) ?_ ?_
 ·intro C hC
  walk_at "1";exact⟨_,hs,_,Zd0 (j:=1) rfl,x,a,ga,gs,Γ,ws,D,rfl,hx,by walk_at "o",fi.1,G2,by walk_at "o",by walk_at "o",fun r H' e o=>hC _ _ ⟨r,rfl,e,o⟩⟩
 rintro σ5 H5 ⟨r,rfl,e5,o5⟩;have e05:=e2.trans e5;have hs5:=e5.sqt hs;have hrs5:Paired (fun r s=>Lt s H5 r) rs ss:=Paired.mapP hrs fun _ _ z=>Lt.keep z e5;refine sqt (fun σ' H'=>σ'=[some (.ref p),some (.ref ga),some (.str u.str),some r]∧Same H5 H'∧∃ g,kd Γ a=some g∧((u=.left∨u=.right)→g.tagS="both")) ?_ ?_
 ·intro C hC
  walk_at "1"
  by_cases d:r=.non
  ·rw[if_pos d,if_pos trivial]
   rw[o5.non.mp d] at ek;exact q _ _ e05 (by rw[ek];exact rfl)
  rw[if_neg d];obtain⟨g,eg⟩:=Option.ne_none_iff_exists'.mp fun z=>d (o5.non.mpr z);rw[eg] at o5 ek;refine⟨by decide,?_⟩;intro p1 h_p1;generalize e_p1:upd H5 p1 (.tup [.str "left",.str "right"])=J1;have s1:=nw1 h_p1 e_p1;have q1:=nw2 (K:=K) e_p1;refine⟨_,.inr q1,rfl,rfl,?_⟩;rw[if_neg Bool.false_ne_true,Xk8]
  by_cases c:u=.left∨u=.right
  ·rw[if_pos (decide_eq_true c)]
   obtain⟨pg,ys,rfl,hg,hv⟩:=Yi7 o5;refine⟨pg,rfl,_,.inl (.inl (s1 _ _ hg)),_,Zd0 (j:=0) rfl,rfl,?_⟩
   by_cases b:g.tagS="both"
   ·rw[if_neg (by rw[b];simp)]
    exact hC _ _ ⟨rfl,s1,g,eg,fun _=>b⟩
   ·rw[if_pos (by simpa using b)]
    refine q _ _ (e05.trans s1) ?_;rw[ek];rcases c with rfl | rfl
    ·exact (show OptK _ _ (kdBy _ [g]) by rw[Yy9 b];exact rfl)
    ·exact (show OptK _ _ (kdBy _ [g]) by rw[Yn5 b];exact rfl)
  ·rw[if_neg (fun z=>c (of_decide_eq_true z))]
   exact hC _ _ ⟨rfl,s1,g,eg,fun z=>absurd z c⟩
 rintro σ6 H6 ⟨rfl,e6,g,eg,hb⟩;have ig:=Zh0 fi.1 G.d G.s eg;rw[eg] at o5 ek;have ek:kd Γ (.one u a ss)=kdBy (.one u a ss) [g]:=ek;rw[ek] at q;have e06:=e05.trans e6;have hs6:=e6.sqt hs5;have o6:Lt g H6 r:=Lt.keep o5 e6;have hrs6:Paired (fun r s=>Lt s H6 r) rs ss:=Paired.mapP hrs5 fun _ _ z=>Lt.keep z e6;refine sqt (fun σ' H'=>σ'=[some (.ref p),some (.ref ga),some (.str u.str),some r]∧H'=H6∧u≠.left) ?_ ?_
 ·intro C hC
  walk_at "1"
  by_cases c:u=.left
  ·subst c
   rw[if_pos (by rfl)];obtain⟨a1,b1,rfl⟩:=Zh9 (k:=.both) (hb (.inl rfl));obtain⟨pg,x1,y1,rfl,hg,l1,l2⟩:=o6;exact⟨pg,rfl,_,.inl (.inl hg),_,rfl,q _ _ e06 l1⟩
  ·rw[if_neg (by cases u<;>first | exact absurd rfl c | decide)]
   exact hC _ _ ⟨rfl,rfl,c⟩
 rintro σ7 H7 ⟨rfl,rfl,n5⟩;refine sqt (fun σ' H'=>σ'=[some (.ref p),some (.ref ga),some (.str u.str),some r]∧H'=H7∧u≠.right) ?_ ?_
 ·intro C hC
  walk_at "1"
  by_cases c:u=.right
  ·subst c
   rw[if_pos (by rfl)];obtain⟨a1,b1,rfl⟩:=Zh9 (k:=.both) (hb (.inr rfl));obtain⟨pg,x1,y1,rfl,hg,l1,l2⟩:=o6;exact⟨pg,rfl,_,.inl (.inl hg),_,rfl,q _ _ e06 l2⟩
  ·rw[if_neg (by cases u<;>first | exact absurd rfl c | decide)]
   exact hC _ _ ⟨rfl,rfl,c⟩
 rintro σ8 H8 ⟨rfl,rfl,n6⟩;obtain⟨sv,s0,rfl,rfl,h1⟩:=ss1 hrs6 (by rw[fi.2.1];cases u<;>first | rfl | exact absurd rfl n5 | exact absurd rfl n6);have s30:=fi.2.2 _ (.head _);refine sqt (fun σ' H'=>σ'=[some (.ref p),some (.ref ga),some (.str u.str),some r]∧H'=H8∧u≠.off) ?_ ?_
 ·intro C hC
  walk_at "1"
  by_cases c:u=.off
  ·subst c
   rw[if_pos (by rfl)];refine⟨_,hs6,_,rfl,by decide,fun p1 h1'=>⟨by decide,fun p2 h2=>?_⟩⟩;have z1:=Za5 h1' (.lst [.non,sv]);have z2:=Za5 h2 (.tup [.str "low"]);have z12:=z1.trans z2;refine⟨_,Lt.isT (Lt.keep o6 z12),Tm.low.data,isT_low.mpr ⟨p2,rfl,.inl (.inl Za4)⟩,g.lay (ig.1.ok G.w),Tm.lay .low trivial,Nat.le_trans (Nat.min_le_right _ _) (by decide),.inr ⟨_,SqL.of (z2 _ _ Za4),?_⟩⟩;rw[if_neg Bool.false_ne_true,Tm.eqv]
   by_cases d:g=.low
   ·subst d
    exact⟨sv,rfl,q _ _ (e06.trans z12) (Lt.keep h1 z12)⟩
   ·rw[decide_eq_false d]
    refine⟨.non,rfl,q _ _ (e06.trans z12) ?_⟩
    rw[show kdBy (.one .off a [s0]) [g]=none by
     match g,d with
     | .low,d=>exact absurd rfl d
     | .ltr _,_=>rfl
     | .nd _ _ _,_=>rfl]
    exact rfl
  ·rw[if_neg (by cases u<;>first | exact absurd rfl c | decide)]
   exact hC _ _ ⟨rfl,rfl,c⟩
 rintro σ9 H9 ⟨rfl,rfl,n7⟩;walk_at "1";refine⟨_,hs6,_,rfl,by decide,?_⟩;intro p1 h_p1;generalize e_p1:upd H9 p1 (.tup [.str "one",r,sv])=J1;have z1:=nw1 h_p1 e_p1;have q1:=nw3 e_p1;refine⟨_,z1.sqt hs6,_,rfl,by decide,?_⟩;intro p2 h_p2;generalize e_p2:upd J1 p2 (.tup [.str "one",sv,r])=J2;have z2:=nw1 h_p2 e_p2;have q2:=nw3 e_p2;refine⟨by decide,fun p3 h3=>.inr ⟨_,SqL.of Za4,?_⟩⟩;have z3:=Za5 h3 (.lst [.ref p1,.ref p2]);have z13:=(z1.trans z2).trans z3;have z23:=z2.trans z3
 cases u with
 | first=>exact⟨_,rfl,q _ _ (e06.trans z13) ⟨p1,r,sv,rfl,z23 _ _ q1,Lt.keep o6 z13,Lt.keep h1 z13⟩⟩
 | second=>exact⟨_,rfl,q _ _ (e06.trans z13) ⟨p2,sv,r,rfl,z3 _ _ q2,Lt.keep h1 z13,Lt.keep o6 z13⟩⟩
 | left=>exact absurd rfl n5
 | right=>exact absurd rfl n6
 | off=>exact absurd rfl n7
theorem sc_ay0:FnScope ["_law_statement_here","_law_many","_law_todo","_law_here"] ["_law_statement_here"] (Za7 (top 48)):=scm (by decide +kernel)
noncomputable def sumP (ts:List Tm):Nat:=(ts.map Tm.parts).sum
theorem Zf2 (t:Tm) (ts:List Tm):sumP (t :: ts)=t.parts+sumP ts:=by unfold sumP;rw[List.map_cons,List.sum_cons]
theorem Ym3:∀ ts:List Tm,ts.length≤sumP ts
 | []=>Nat.le_refl _
 | t :: ts=>by
  rw[Zf2,List.length_cons];have:=Ym3 ts;have:=t.parts_pos;walk_at "o"
theorem Yb1 {K:W.Frag} {H:Hp}:∀ {us:List V} {ts:List Tm},Paired (IsT K H) us ts→DnAll K H us (ts.map Tm.data)
 | _,_,.nil=>dnAll_nil
 | _,_,.cons h t=>dnAll_cons h (Yb1 t)
theorem Zr7 (ds:List PyData):PyData.eqv (.list ds) (.list [])=ds.isEmpty:=by
 cases ds<;>simp[PyData.eqv,PyData.eqvAll]
theorem Xu0 {k:Nat} {f_ay0:Addr} {fd_ay0:FuncData} (F_ay0:Fun K "_law_size" "_law_size" (top 48) f_ay0 fd_ay0) (m_len:mg "len"=none):Fk0 P w K mg base (k+1) f_ay0 fd_ay0 ["_law_statement_here"] (Zy1 K):=by
 refine F_ay0.ok sc_ay0 (fun vs H Q E h=>?_) (fun cdv A outer s H vs Q E hr h=>?_)
 ·obtain⟨v,t,rfl,_⟩:=h
  rfl
 obtain⟨v,t,rfl,hT,hok,hp,q⟩:=h
 refine⟨_,(Za3 (pst 1 sc_ay0.nd Za2)
 (Za3 (pst 2 sc_ay0.nd (Zc7 (Za0 (pvM 0) Za1)))
 (Za3 (Zz2 PassesOwn.never (ptcM (Xf1 (Zm8 hr)) (pvM 2) (Zc7 Za1))
  (Za3 (pst 3 sc_ay0.nd (Ye1 F.plainAttrs_list F.slot_list_pop F.type_list_pop Ye3 (pvM 2)))
 (Za3 (Xq5 (i:=1) sc_ay0.nd rfl (Or.inl rfl) Za2 Xx5)
 (Za6 (Zc4 (ptcM (Zd8) (Zc5 Zc2 (by exact rfl) m_len Zd4 (Za0 (pvM 3) Za1)) Za2)
  (Za6 (Zf5 (Zn9 F.plainAttrs_list F.slot_list_extend F.type_list_extend Ye5 (pvM 2) (Za0 (Zc7 (Za0 (pxt (pvM 3) Za2) (Za0 (pxt (pvM 3) Za2) Za1))) Za1))))
  Zb2)))))
 (Za6 (Zb1 (pvM 1)))))),?_⟩
 refine sqt (fun σ' H'=>σ'=[some v,some (.int 0),none,none]∧H'=H) ?_ ?_
 ·intro C hC
  walk_at "1";exact hC _ _ ⟨rfl,rfl⟩
 rintro σ1 H1 ⟨rfl,rfl⟩;refine sqt (fun σ' H'=>∃ l,σ'=[some v,some (.int 0),some (.ref l),none]∧Same H1 H'∧H1 l=none∧H' l=some (.lst [v])) ?_ ?_
 ·intro C hC
  walk_at "1";exact⟨by decide,fun l hl=>hC _ _ ⟨l,rfl,Za5 hl _,hl,Za4⟩⟩
 rintro σ2 H2 ⟨l,rfl,e2,f2,h2⟩;refine sqt (fun σ' H'=>∃ x3,σ'=[some v,some (.int (t.parts:Nat)),some (.ref l),x3]∧Same H1 H') ?_ ?_
 ·intro C hC
  refine⟨fun m σ' H'=>∃ st ts n x3,m=sumP ts∧n+m=t.parts∧σ'=[some v,some (.int (n:Nat)),some (.ref l),x3]∧Same H1 H'∧H' l=some (.lst st.reverse)∧Paired (IsT K H') st ts∧∀ s∈ts,s.ok,
   ⟨_,[v],[t],0,none,rfl,by rw[Zf2];show 0+(t.parts+0)=_;walk_at "o",rfl,e2,h2,.cons (IsT.keep hT e2.keepT) .nil,fun s hs=>by rw[List.mem_singleton.mp hs];exact hok⟩,?_⟩
  rintro m σ' H' ⟨st,ts,n,x3,rfl,hn,rfl,e,hl,hd,ho⟩;walk_at "3";refine⟨by decide,fun p hp'=>?_⟩
  have hl':upd H' p (.lst []) l=some (.lst st.reverse):=by rw[Zb0 (Zb6 hl hp')];exact hl
  have kA:=Yf3 (K:=K) (o:=.lst []) hp';have hd':Paired (IsT K (upd H' p (.lst []))) st ts:=Paired.mapP hd fun _ _ z=>IsT.keep z kA;refine⟨.list (ts.reverse.map Tm.data),by rw[Dn];exact⟨l,_,rfl,SqL.of hl',Yb1 (Zw7 hd')⟩,.list [],by rw[Dn];exact⟨p,_,rfl,SqL.of Za4,dnAll_nil⟩,Yi9 (fun s hs=>ho s (List.mem_reverse.mp hs)),rfl,Nat.le_trans (Nat.min_le_right _ _) (by decide),?_⟩;rw[if_pos trivial,Zr7]
  cases hd' with
  | nil =>
   rw[if_neg (by decide)];refine hC _ _ ⟨x3,?_,e.trans (Za5 hp' _)⟩
   have:n=t.parts:=by rw[← hn];rfl
   rw[this]
  | @cons u i st is hi hst =>
   have hrev:(u :: st).reverse=st.reverse++[u]:=List.reverse_cons;rw[if_pos (by rw[List.reverse_cons,List.map_append];simp)];refine opq fun N hN=>?_;rw[hrev] at hl';rw[Zf2] at hn;have f1:∀ {b:Addr} {o:HO},H1 b=some o→H' b=some o:=fun h=>e _ _ h;refine sqt (fun σ' H2=>σ'=[some v,some (.int (n:Nat)),some (.ref l),some u]∧Same H1 H2∧KeepT K (upd H' p (.lst [])) H2∧H2 l=some (.lst st.reverse)) ?_ ?_
   ·intro C' hC'
    walk_at "1";refine⟨.inl ⟨rfl,_,SqL.of hl'⟩,_,hl',u,by simp,?_⟩;rw[List.dropLast_concat];exact hC' _ _ ⟨rfl,(e.trans (Za5 hp' _)).write f2,Zj4 hl',Za4⟩
   rintro σ4 H4 ⟨rfl,e4,k4,h4⟩;refine sqt (fun σ' H2=>σ'=[some v,some (.int ((n+1:Nat):Int)),some (.ref l),some u]∧H2=H4) ?_ ?_
   ·intro C' hC'
    walk_at "1";exact hC' _ _ ⟨rfl,rfl⟩
   rintro σ5 H5 ⟨rfl,rfl⟩;have hi4:=IsT.keep hi k4;have hst4:Paired (IsT K H5) st is:=Paired.mapP hst fun _ _ z=>IsT.keep z k4;have oi:=ho i List.mem_cons_self;have ois:∀ s∈is,s.ok:=fun s hs=>ho s (List.mem_cons_of_mem _ hs);have l3:=Paired.length hst4;have l4:=Ym3 is;walk_at "1"
   cases i with
   | low =>
    obtain⟨a,rfl,hs⟩:=isT_low.mp hi4;refine⟨_,rfl,_,.inr hs,?_⟩;rw[if_neg (by decide)];exact hN _ _ ⟨sumP is,by rw[Zf2];show _ < 1+_;walk_at "o",st,is,rfl,n+1,by have:Tm.low.parts=1:=rfl;walk_at "o",_,rfl,e4,h4,hst4,ois⟩
   | ltr x =>
    obtain⟨a,rfl,hs⟩:=isT_ltr.mp hi4;refine⟨_,rfl,_,.inr hs,?_⟩;rw[if_neg (by simp)];exact hN _ _ ⟨sumP is,by rw[Zf2];show _ < 1+_;walk_at "o",st,is,rfl,n+1,by have:(Tm.ltr x).parts=1:=rfl;walk_at "o",_,rfl,e4,h4,hst4,ois⟩
   | nd kd a b =>
    obtain⟨pt,vx,vy,rfl,hs,hx,hy⟩:=isT_nd.mp hi4;refine⟨_,rfl,_,.inr hs,?_⟩;rw[if_pos (by rfl)];have pe:(Tm.nd kd a b).parts=1+a.parts+b.parts:=rfl;refine⟨.inl ⟨rfl,_,SqL.of h4⟩,pt,rfl,_,hs,_,rfl,pt,rfl,_,hs,_,rfl,by decide,fun p2 hp2=>?_⟩
    have h4':upd H5 p2 (.lst [vx,vy]) l=some (.lst st.reverse):=by rw[Zb0 (Zb6 h4 hp2)];exact h4
    have kB:=(Yf3 (K:=K) (o:=.lst [vx,vy]) hp2).trans (Zj4 (o:=.lst (st.reverse++[vx,vy])) h4');refine⟨_,h4',_,Za4,?_,hN _ _ ⟨sumP (b :: a :: is),?_,vy :: vx :: st,b :: a :: is,rfl,n+1,?_,_,rfl,(e4.trans (Za5 hp2 _)).write f2,?_,?_,?_⟩⟩
    ·rw[List.length_reverse];exact Nat.le_of_lt (Zd5 (by show st.length+2≤_;walk_at "o"))
    ·rw[Zf2,Zf2,Zf2];walk_at "o"
    ·rw[Zf2,Zf2];walk_at "o"
    ·rw[Za4,List.reverse_cons,List.reverse_cons,List.append_assoc];rfl
    ·exact .cons (IsT.keep hy kB) (.cons (IsT.keep hx kB) (Paired.mapP hst4 fun _ _ z=>IsT.keep z kB))
    ·intro s hs'
     rcases List.mem_cons.mp hs' with rfl | hs'
     ·exact oi.2
     ·rcases List.mem_cons.mp hs' with rfl | hs'
      ·exact oi.1
      ·exact ois s hs'
 rintro σ3 H3 ⟨x3,rfl,e3⟩;walk_at "1";exact q _ e3
theorem sc_ax0:FnScope ["_law_cell_here","_law_given_here","_law_words_here","_law_here"] ["_law_cell_here","_law_given_here","_law_words_here"] (Za7 (top 49)):=scm (by decide +kernel)
theorem Yj5 {H:Hp} {l:Addr} {us:List V} {ts:List Tm} (h:SqL K H l us) (p:Paired (IsT K H) us ts):Dn K H (.ref l) (.list (ts.map Tm.data)):=by rw[Dn];exact⟨l,us,rfl,h,Yb1 p⟩
theorem Xu1 {k:Nat} {f_ax0:Addr} {fd_ax0:FuncData} (F_ax0:Fun K "_law_simple" "_law_simple" (top 49) f_ax0 fd_ax0) (C__law_statement:Cl P w K mg base k "_law_statement" pq4 (Zg0 K 12)) (m_len:mg "len"=none):Fk0 P w K mg base (k+1) f_ax0 fd_ax0 pq0 (Zj6 K):=by
 refine F_ax0.ok sc_ax0 (fun vs H Q E h=>?_) (fun cdv A outer s H vs Q E hr h=>?_)
 ·obtain⟨c,ga,wa,ws,gs,ts,rfl,_⟩:=h
  rfl
 obtain⟨c,ga,wa,ws,gs,ts,rfl,hc,G,hl,q⟩:=h;have lg:=Paired.length G.p
 refine⟨_,(Za3 (Zc4 ((Yd5 (ptcM (Yl9 (Zm8 hr)) (pvM 1) (Zc7 Za1)) (Zr4 (ptcM (Zd8) (Zb3 Zb8 (pvM 0) Za2) Za2)))).pt
  (Za3 (pst 3 sc_ax0.nd (Zc0 C__law_statement hr (Za0 (Zb3 Zc3 (pvM 0) Za2) (Za0 (Zb3 Zd2 Za2 (Zb3 Zb8 (Zb3 Zc3 (pvM 0) Za2) Za2)) (Za0 (pvM 2) Za1)))))
 (Za6 (Zb1 (Zb4 (Za0 (Zb4 (Za0 Za9 (Za0 (pvM 3) (Za0 (Zb4 (Za0 Za9 (Za0 Za2 Za1))) Za1)))) (Za0 (Zb4 (Za0 Za9 (Za0 (pvM 3) (Za0 (pvM 3) Za1)))) Za1))))))
  Zb2)
 (Za6 (Zb1 (Zb4 (Za0 (Zb4 (Za0 Za9 (Za0 (Zb3 Zb8 (Zb3 Zc3 (pvM 0) Za2) (Zc5 Zc2 (by exact rfl) m_len Zd4 (Za0 (pvM 1) Za1))) Za1))) (Za0 (pxl (pvM 1) (Zb3 Zb8 (Zb3 Zc3 (pvM 0) Za2) (Zc5 Zc2 (by exact rfl) m_len Zd4 (Za0 (pvM 1) Za1)))) Za1)))))),?_⟩
 refine sqt (fun σ' H'=>∃ x3,σ'=[some (.int c),some (.ref ga),some (.ref wa),x3]∧Same H H'∧ts≠[]) ?_ ?_
 ·intro C hC
  walk_at "1";refine⟨by decide,fun p1 h1=>?_⟩;have s1:=Za5 h1 (.lst []);have G1:=G.keep s1;refine⟨_,Yj5 (SqL.of G1.g) G1.pT,.list [],by rw[Dn];exact⟨p1,_,rfl,SqL.of Za4,dnAll_nil⟩,Yi9 (fun s hs=>(G.o s hs).1.ok G.wo.2.2),rfl,Nat.le_trans (Nat.min_le_right _ _) (by decide),?_⟩;rw[if_neg Bool.false_ne_true,Zr7];have a0:=Int.emod_nonneg (c / 7) (show (4:Int)≠0 by decide);have a1:=Int.emod_lt_of_pos (c / 7) (show (0:Int) < 4 by decide)
  have fin:Zg0 K 12 [.int (c / 7),.int (1+c / 7 % 4),.ref wa] (upd H p1 (.lst [])) (fun x H1=>2≤sizeLine∧∀ p,H1 p=none→3≤sizeLine∧∀ p_1,upd H1 p (.tup [.str "at",.int 0]) p_1=none→3≤sizeLine∧∀ p_2,upd (upd H1 p (.tup [.str "at",.int 0])) p_1 (.tup [.str "fun",x,.ref p]) p_2=none→2≤sizeLine ∧
    ∀ p_3,upd (upd (upd H1 p (.tup [.str "at",.int 0])) p_1 (.tup [.str "fun",x,.ref p])) p_2 (.tup [.str "then",x,x]) p_3=none→Q (.ref p_3) (upd (upd (upd (upd H1 p (.tup [.str "at",.int 0])) p_1 (.tup [.str "fun",x,.ref p])) p_2 (.tup [.str "then",x,x])) p_3 (.tup [.ref p_1,.ref p_2]))) E0:=by
   refine Zh7 (by walk_at "o") (by walk_at "o") (by walk_at "o") G1.w G.wo fun r H2 t e2 ht hw hp=>⟨by decide,fun p2 h2=>⟨by decide,fun p3 h3=>⟨by decide,fun p4 h4=>⟨by decide,fun p5 h5=>?_⟩⟩⟩⟩;have s2:=Za5 h2 (.tup [.str "at",.int 0]);have s3:=Za5 h3 (.tup [.str "fun",r,.ref p2]);have s4:=Za5 h4 (.tup [.str "then",r,r]);have s5:=Za5 h5 (.tup [.ref p3,.ref p4])
   have pt:t.parts≤4:=by walk_at "o"
   refine q _ _ ((((s1.trans e2).trans s2).trans s3).trans (s4.trans s5)) (Ze4 (t:=.fn t (.at 0)) (g:=.nd .thn t t) (.inl (.inl Za4)) ?_ ?_ ⟨⟨hw,by walk_at "o"⟩,trivial⟩ (Nat.le_refl _) (Nat.le_refl _) ⟨hw,hw⟩ (by show 1+t.parts+t.parts≤60;walk_at "o") ⟨t,rfl,rfl⟩)
   ·exact leK_fnV.mpr ⟨p3,r,.ref p2,rfl,(s4.trans s5).sqt (.inl (.inl Za4)),LtK.keep ht (((s2.trans s3).trans s4).trans s5).keepL,leK_atV.mpr ⟨p2,rfl,((s3.trans s4).trans s5).sqt (.inl (.inl Za4))⟩⟩
   ·exact ltK_nd.mpr ⟨p4,r,r,rfl,s5 _ _ Za4,LtK.keep ht (((s2.trans s3).trans s4).trans s5).keepL,LtK.keep ht (((s2.trans s3).trans s4).trans s5).keepL⟩
  by_cases ce:ts=[]
  ·rw[if_pos (by rw[ce];rfl),if_pos trivial]
   exact⟨⟨by decide,by decide⟩,⟨by decide,by decide⟩,by decide,fin⟩
  ·rw[if_neg (by cases ts with | nil=>exact absurd rfl ce | cons _ _=>simp)]
   refine⟨by decide,ite2 (fun _=>⟨⟨by decide,by decide⟩,⟨by decide,by decide⟩,by decide,fin⟩) fun _=>hC _ _ ⟨_,rfl,s1,ce⟩⟩
 rintro σ1 H1 ⟨x3,rfl,e1,hne⟩;walk_at "1";have G1:=G.keep e1
 have lp:0 < gs.length:=by
  rw[lg]
  cases ts with
  | nil=>exact absurd rfl hne
  | cons _ _=>simp
 have b0:=Int.emod_nonneg (c / 7) (show (gs.length:Int)≠0 by walk_at "o");have b1:=Int.emod_lt_of_pos (c / 7) (show (0:Int) < (gs.length:Int) by walk_at "o");refine⟨⟨by decide,by decide⟩,gs,.inl (SqL.of G1.g),by walk_at "o",by decide,?_⟩;generalize ejj:c / 7 % (gs.length:Int)=jj at b0 b1 ⊢;obtain⟨j,rfl⟩:=Int.eq_ofNat_of_zero_le b0;intro p2 h2;have s2:=Za5 h2 (.tup [.str "at",.int (j:Nat)])
 have jl:j < gs.length:=by walk_at "o"
 obtain⟨g,hg,hgT⟩:=paired_get G1.p (List.getElem?_eq_getElem jl);have og:=G.o g (List.mem_of_getElem? hg);refine⟨⟨by decide,by decide⟩,gs,.inl (SqL.of (s2 _ _ G1.g)),by walk_at "o",gs,SqL.of (s2 _ _ G1.g),gs[j],by rw[ejj];exact Zd0 (List.getElem?_eq_getElem jl),by decide,fun p3 h3=>?_⟩;have s3:=Za5 h3 (.tup [.ref p2,gs[j]]);refine q _ _ ((e1.trans s2).trans s3) (Ze4 (t:=.at j) (g:=g) (.inl (.inl Za4)) ?_ (LtK.keep hgT (s2.trans s3).keepL) trivial (by show 1≤2;walk_at "o") (by show 1≤2;walk_at "o") og.1 og.2 hg);exact leK_atV.mpr ⟨p2,rfl,(Zf4 h3).k _ _ (.inl (.inl Za4))⟩
theorem sc_ai0:FnScope ["_law_term","_law_given_here","_law_handed","_law_found","_law_told","error","_law_one","_law_other_here","_law_due"] ["_law_term","_law_given_here"] (Za7 (top 63)):=scm (by decide +kernel)
theorem Xv3 {k:Nat} {N:NumT} {f_ai0:Addr} {fd_ai0:FuncData} (F_ai0:Fun K "_law_asked" "_law_asked" (top 63) f_ai0 fd_ai0) {aKenError aLarge aNoKind aNoLine aNoRow aNoWorlds aNoTurning aNoWish aNoRule aNotShown aTwice aNoText:Addr} {f_be0:Addr} {fd_be0:FuncData} (G_be0:FnOk P w K mg base (CXe P w) k f_be0 fd_be0 ["term","given"] (Zy3 K aNoKind N)) (m_be0:MgI mg "kind" f_be0) (k_be0:KpI K f_be0) (b_be0:Binds K fd_be0 ["term","given"] []) (C__law_kind:Cl P w K mg base k "_law_kind" pq12 (Zi5 K 60)) (C__law_same:Cl P w K mg base k "_law_same" pq6 (Zp9 K 180)) (m_NoTurning:MgI mg "NoTurning" aNoTurning) (xc_NoKind:XC K aNoKind) (z_NoKind:XIsi K aNoKind)
  (m_KenError:MgI mg "KenError" aKenError) (m_Large:MgI mg "Large" aLarge) (m_NoKind:MgI mg "NoKind" aNoKind) (m_NoLine:MgI mg "NoLine" aNoLine) (m_NoRow:MgI mg "NoRow" aNoRow) (m_NoWorlds:MgI mg "NoWorlds" aNoWorlds) (m_NoWish:MgI mg "NoWish" aNoWish) (m_NoRule:MgI mg "NoRule" aNoRule) (m_NotShown:MgI mg "NotShown" aNotShown) (m_Twice:MgI mg "Twice" aTwice) (m_NoText:MgI mg "NoText" aNoText)
  (i_1:W.kitOne K (.ref aNoKind) (.ref aKenError)=some true) (i_2:W.kitOne K (.ref aNoKind) (.type "ValueError")=some true) (i_3:W.kitAny K (.ref aNoKind) [.ref aLarge,.ref aNoText,.ref aNoLine,.ref aNoRow,.ref aNoRule,.ref aNotShown]=some false) (i_4:W.kitAny K (.ref aNoKind) [.ref aNoTurning,.ref aNoWish,.ref aNoWorlds,.ref aTwice]=some false) (m_isinstance:mg "isinstance"=none) (m_ValueError:mg "ValueError"=none) (m_list:mg "list"=none):Fk0 P w K mg base (k+1) f_ai0 fd_ai0 pq12 (Zq1 K N):=by
 refine F_ai0.ok sc_ai0 (fun vs H Q E h=>?_) (fun cdv A outer s H vs Q E hr h=>?_)
 ·obtain⟨v,t,ga,gs,Γ,ws,rfl,_⟩:=h
  rfl
 obtain⟨v,t,ga,gs,Γ,ws,rfl,hv,hW,hz,hd,hga,hp,hg,hl,tab,q⟩:=h
 refine⟨_,(Za3 (pst 2 sc_ai0.nd (Zh2 Yg4 (by exact rfl) m_list Yz0 (Za0 (pvM 1) Za1)))
 (Za3 (pst 3 sc_ai0.nd Zg7)
 (Za3 (pst 4 sc_ai0.nd Zg7)
 (Za3 (Xb7 (j:=3) (i:=5) rfl rfl rfl (by exact rfl) m_NoKind xc_NoKind sc_ai0.nd rfl (Or.inl rfl) rfl rfl (Xi1 G_be0 hr (by exact rfl) m_be0 k_be0 b_be0 .nil (Za0 (pvM 0) (Za0 (pvM 2) Za1)))
  (fun ea=>(Za3 (pst 6 sc_ai0.nd (Zc5 (Zx5 (K:=K) rfl) (by exact rfl) m_isinstance Zd7 (Za0 (pvM 5) (Za0 (Zb4 (Za0 (Zf6 (v:=.ref aLarge) (by exact rfl) m_Large (by exact rfl)) (Za0 (Zf6 (v:=.ref aNoText) (by exact rfl) m_NoText (by exact rfl)) (Za0 (Zf6 (v:=.ref aNoLine) (by exact rfl) m_NoLine (by exact rfl)) (Za0 (Zf6 (v:=.ref aNoRow) (by exact rfl) m_NoRow (by exact rfl)) (Za0 (Zf6 (v:=.ref aNoRule) (by exact rfl) m_NoRule (by exact rfl)) (Za0 (Zf6 (v:=.ref aNotShown) (by exact rfl) m_NotShown (by exact rfl)) Za1))))))) Za1))))
 (Za3 (pst 7 sc_ai0.nd (Zc5 (Zx5 (K:=K) rfl) (by exact rfl) m_isinstance Zd7 (Za0 (pvM 5) (Za0 (Zb4 (Za0 (Zf6 (v:=.ref aNoTurning) (by exact rfl) m_NoTurning (by exact rfl)) (Za0 (Zf6 (v:=.ref aNoWish) (by exact rfl) m_NoWish (by exact rfl)) (Za0 (Zf6 (v:=.ref aNoWorlds) (by exact rfl) m_NoWorlds (by exact rfl)) (Za0 (Zf6 (v:=.ref aTwice) (by exact rfl) m_Twice (by exact rfl)) Za1))))) Za1))))
 (Za6 (pst 4 sc_ai0.nd (Zc7 (Za0 (Zc5 (Yp9 (K:=K) rfl) (by exact rfl) m_isinstance Zd7 (Za0 (pvM 5) (Za0 (Zf6 (v:=.ref aKenError) (by exact rfl) m_KenError (by exact rfl)) Za1))) (Za0 (Zc5 (Yq0 (K:=K) rfl) (by exact rfl) m_isinstance Zd7 (Za0 (pvM 5) (Za0 (Zz6 (v:=.ty "ValueError") (by exact rfl) m_ValueError Zv5 (by exact rfl)) Za1))) (Za0 (pvM 6) (Za0 (pvM 7) Za1)))))))))))
 (Za3 (pst 8 sc_ai0.nd (Zc0 C__law_kind hr (Za0 (pvM 0) (Za0 (pvM 1) Za1))))
 (Za3 (Zc4 (ptcM (Xf1 (Zm8 hr)) (pvM 2) (pvM 1))
  (Za6 (Zb1 Zv8))
  Zb2)
 (Za3 (Zc4 (ptcM (Zr6) (pvM 8) Zg7)
  (Za6 (Zb1 (Zi8 (Yl9 (Zm8 hr)) (pvM 4) (Zc7 (Za0 Zv8 (Za0 Zv8 (Za0 Zv8 (Za0 Zv8 Za1))))) (Zk7 _))))
  Zb2)
 (Za6 (Zb1 (Yu1 (Zi8 (Zr6) (pvM 4) Zg7 (Zk7 _)) (Yt8 (Zc0 C__law_same hr (Za0 (pvM 3) (Za0 (pvM 8) Za1)))))))))))))),?_⟩
 have hgs:∀ s∈Γ,inD ws 30 s:=fun s z=>(hg s z).inD (Nat.le_refl _);refine sqt (fun σ' H'=>∃ l,σ'=[some v,some (.ref ga),some (.ref l),none,none,none,none,none,none]∧Same H H'∧H' l=some (.lst gs)) ?_ ?_
 ·intro C hC
  walk_at "1";exact⟨gs,.inl (SqL.of hga),fun l hl=>hC _ _ ⟨l,rfl,Za5 hl _,Za4⟩⟩
 rintro σ1 H1 ⟨l,rfl,e1,h1⟩;refine sqt (fun σ' H'=>σ'=[some v,some (.ref ga),some (.ref l),some .non,none,none,none,none,none]∧H'=H1) ?_ ?_
 ·intro C hC
  walk_at "1";exact hC _ _ ⟨rfl,rfl⟩
 rintro σ1 H1 ⟨rfl,rfl⟩;refine sqt (fun σ' H'=>σ'=[some v,some (.ref ga),some (.ref l),some .non,some .non,none,none,none,none]∧H'=H1) ?_ ?_
 ·intro C hC
  walk_at "1";exact hC _ _ ⟨rfl,rfl⟩
 rintro σ1 H1 ⟨rfl,rfl⟩;refine sqt (fun σ' H'=>∃ r r4 x5 x6 x7,σ'=[some v,some (.ref ga),some (.ref l),some r,some r4,x5,x6,x7,none]∧SameV [N.T] H H'∧TabOk H' N.T N.ds∧H' l=some (.lst gs)∧((kd Γ t=none∧∃ p,r4=.ref p∧H' p=some (.lst Yr3))∨∃ g,kd Γ t=some g∧r4=.non∧Lt g H' r)) ?_ ?_
 ·intro C hC
  walk_at "1";refine⟨v,t,l,gs,Γ,ws,rfl,LZ.keep hv.l e1,hv.f,by walk_at "o",h1,Zf1 (Zl2 e1) hp,fun s hs=>(hg s hs).2,by walk_at "o",tab.keep e1,fun g r H' ek sv tb lt=>?_,fun ek e J1 J2 sv tj xt=>?_⟩
  ·exact hC _ _ ⟨r,.non,none,none,none,rfl,(e1.toV (ts:=[N.T])).trans sv,tb,sv.toT _ _ (fun _ z=>nomatch z) h1,.inr ⟨g,ek,rfl,lt⟩⟩
  ·obtain⟨x1,x2,T,hF⟩:=xt
   refine⟨e,T,rfl,hF,?_⟩;have D:∀ J3:Hp,Yz5 J3 none:=fun _ _ z=>nomatch z;have hl2:J2 l=some (.lst gs):=x2 _ _ (sv.toT _ _ (fun _ z=>nomatch z) h1);walk_at "1";refine⟨by decide,fun p hp=>?_⟩;have s1:=Za5 hp (HO.tup [V.ref aLarge,V.ref aNoText,V.ref aNoLine,V.ref aNoRow,V.ref aNoRule,V.ref aNotShown]);refine⟨aNoKind,none,T,s1 _ _ hF.1,D _,z_NoKind,[aLarge,aNoText,aNoLine,aNoRow,aNoRule,aNotShown],Za4,false,i_3,by decide,fun p2 hp2=>?_⟩;have s2:=s1.trans (Za5 hp2 (HO.tup [V.ref aNoTurning,V.ref aNoWish,V.ref aNoWorlds,V.ref aTwice]));refine⟨aNoKind,none,T,s2 _ _ hF.1,D _,z_NoKind,[aNoTurning,aNoWish,aNoWorlds,aTwice],Za4,false,i_4,?_⟩;have he2:=s2 _ _ hF.1;generalize upd (upd J2 p _) p2 _=H6 at s2 he2 ⊢;refine⟨aNoKind,none,T,he2,D _,z_NoKind,true,i_1,aNoKind,none,T,he2,D _,z_NoKind,true,i_2,by decide,fun t ht=>?_⟩;have s3:=(x2.trans s2).trans (Za5 ht (.lst Yr3));exact hC _ _ ⟨.non,.ref t,_,_,_,rfl,(e1.toV (ts:=[N.T])).trans (sv.trans s3.toV),tj.keep s3,(s2.trans (Za5 ht (.lst Yr3))) _ _ hl2,.inl ⟨ek,t,rfl,Za4⟩⟩
 rintro σ3 H3 ⟨r,r4,x5,x6,x7,rfl,sv,tj,hl3,hk⟩;have kt:TKp H H3:=fun a xs e=>sv.toT _ _ (fun _ z=>nomatch z) e;have hga3:H3 ga=some (.lst gs):=sv.toT _ _ (fun _ z=>nomatch z) hga;have G3:LkIn H3 ws 30 ga gs Γ:=⟨hga3,Zf1 kt hp,hgs,hW,Nat.le_refl _⟩;refine sqt (fun σ' H'=>∃ d,σ'=[some v,some (.ref ga),some (.ref l),some r,some r4,x5,x6,x7,some d]∧Same H3 H'∧OptK H' d (kd Γ t)) ?_ ?_
 ·intro C hC
  walk_at "1";exact⟨v,t,ga,gs,Γ,ws,30,rfl,LZ.keepT kt (SameT.keepT sv.toT) hv.l,hd,hv.f,G3,by walk_at "o",by walk_at "o",fun r H' e o=>hC _ _ ⟨r,rfl,e,o⟩⟩
 rintro σ4 H4 ⟨d,rfl,e4,hdv⟩;have G4:=G3.keep e4;refine sqt (fun σ' H'=>σ'=[some v,some (.ref ga),some (.ref l),some r,some r4,x5,x6,x7,some d]∧H'=H4) ?_ ?_
 ·intro C hC
  walk_at "1";have pT:Paired (IsT K H4) gs Γ:=Paired.mapP G4.p fun _ _ z=>Lt.isT z;have lay:(PyData.list (Γ.map Tm.data)).canLay0=true:=Yr4 (fun s hs=>(hgs s hs).1.ok hW);refine⟨_,Yj5 (SqL.of (e4 _ _ hl3)) pT,_,Yj5 (SqL.of G4.l) pT,lay,lay,?_,?_⟩
  ·have:=Yr5 (ts:=Γ) (n:=30) fun s hs=>(hgs s hs).2
   walk_at "o"
  ·rw[if_pos trivial,Xa3,if_neg (by decide)]
   exact hC _ _ ⟨rfl,rfl⟩
 rintro σ5 H5 ⟨rfl,rfl⟩;walk_at "1";have e5:SameV [N.T] H H5:=sv.trans e4.toV;rcases hk with ⟨ek,p,rfl,ht⟩ | ⟨g,ek,rfl,lt⟩
 ·rw[if_pos (hdv.non.mpr ek)]
  refine⟨by decide,fun p2 hp2=>?_⟩;have s2:=Za5 hp2 (.lst Yr3);refine⟨_,Yr2 (s2 _ _ (e4 _ _ ht)),_,Yr2 Za4,rfl,rfl,Nat.le_trans (Nat.min_le_left _ _) (by decide),?_⟩;rw[if_neg Bool.false_ne_true,show (PyData.list [.bool true,.bool true,.bool false,.bool false]).eqv (.list [.bool true,.bool true,.bool false,.bool false])=true from rfl];exact q _ (e5.trans s2.toV) ((tj.keep e4).keep s2)
 ·rw[if_neg (fun z=>by have:=hdv.non.mp z;rw[ek] at this;cases this),if_pos rfl]
  rw[ek] at hdv;have ig:=Zh0 hv.f (Nat.le_refl 30) hgs ek;exact⟨r,d,.inr g,rfl,Lt.isT (Lt.keep lt e4),Lt.isT hdv,by show g.deep < 180;have:=ig.2;walk_at "o",q _ e5 (tj.keep e4)⟩
theorem sc_au0:FnScope ["_law_term","_law_cell_here","_law_given_here","_law_words_here","_law_head","_law_some","_law_far"] ["_law_term","_law_cell_here","_law_given_here","_law_words_here"] (Za7 (top 60)):=scm (by decide +kernel)
theorem Xp5:FnScope ["_law_term"] ["_law_term"] (Za7 (top 61)):=scm (by decide +kernel)
theorem sc_az0:FnScope ["_law_term","_law_cell_here","_law_given_here","_law_words_here","_law_inner_here","_law_k","_law_bad"] ["_law_term","_law_cell_here","_law_given_here","_law_words_here"] (Za7 (top 62)):=scm (by decide +kernel)
theorem Xu9 {k:Nat} {f_am0:Addr} {fd_am0:FuncData} (F_am0:Fun K "_law_inner" "_law_inner" (top 61) f_am0 fd_am0):Fk0 P w K mg base (k+1) f_am0 fd_am0 ["_law_term"] (Zq0 K):=by
 refine F_am0.ok Xp5 (fun vs H Q E h=>?_) (fun cdv A outer s H vs Q E hr h=>?_)
 ·obtain⟨v,t,rfl,_⟩:=h
  rfl
 obtain⟨v,t,rfl,hv,q⟩:=h
 refine⟨_,(Za3 (Zc4 (ptcM (Zd8) (pxt (pvM 0) Za2) Za9)
  (Za6 (Zb1 (Zc7 Za1)))
  Zb2)
 (Za3 (Zc4 (ptcM (Zd8) (pxt (pvM 0) Za2) Za9)
  (Za6 (Zb1 (Zc7 (Za0 Za2 Za1))))
  Zb2)
 (Za3 (Zc4 (ptcM (Zd8) (pxt (pvM 0) Za2) Za9)
  (Za6 (Zb1 (Zc7 (Za0 Za2 (Za0 Za2 (Za0 Za2 Za1))))))
  Zb2)
 (Za3 (Zc4 (Zg4 (Zg5) (pxt (pvM 0) Za2) (Zb4 (Za0 Za9 (Za0 Za9 Za1))) (by with_unfolding_all rfl))
  (Za6 (Zb1 (Zc7 (Za0 Za2 (Za0 Za2 Za1)))))
  Zb2)
 (Za6 (Zb1 (Zc7 (Za0 Za2 Za1)))))))),?_⟩
 obtain⟨p,xs,rfl,hp,h0⟩:=Zu3 hv;refine sqt (fun σ' H'=>σ'=[some (.ref p)]∧H'=H∧¬ t.tag="at") ?_ ?_
 ·intro C hC
  walk_at "1";refine⟨_,hp,_,h0,rfl,?_⟩
  by_cases c:t.tag="at"
  ·rw[if_pos (by rw[c])]
   obtain⟨i,rfl⟩:=Zx8 c;exact⟨by decide,fun l hl=>q _ _ (Za5 hl _) Za4⟩
  ·rw[if_neg (fun z=>c (V.str.inj z))]
   exact hC _ _ ⟨rfl,rfl,c⟩
 rintro σ1 H1 ⟨rfl,rfl,n1⟩;refine sqt (fun σ' H'=>σ'=[some (.ref p)]∧H'=H1∧¬ t.tag="fun") ?_ ?_
 ·intro C hC
  walk_at "1";refine⟨_,hp,_,h0,rfl,?_⟩
  by_cases c:t.tag="fun"
  ·rw[if_pos (by rw[c])]
   obtain⟨s,a,rfl⟩:=Yr7 c;exact⟨by decide,fun l hl=>q _ _ (Za5 hl _) Za4⟩
  ·rw[if_neg (fun z=>c (V.str.inj z))]
   exact hC _ _ ⟨rfl,rfl,c⟩
 rintro σ1 H1 ⟨rfl,rfl,n2⟩;refine sqt (fun σ' H'=>σ'=[some (.ref p)]∧H'=H1∧¬ t.tag="cases") ?_ ?_
 ·intro C hC
  walk_at "1";refine⟨_,hp,_,h0,rfl,?_⟩
  by_cases c:t.tag="cases"
  ·rw[if_pos (by rw[c])]
   obtain⟨a,b,d,rfl⟩:=Yr8 c;exact⟨by decide,fun l hl=>q _ _ (Za5 hl _) Za4⟩
  ·rw[if_neg (fun z=>c (V.str.inj z))]
   exact hC _ _ ⟨rfl,rfl,c⟩
 rintro σ1 H1 ⟨rfl,rfl,n3⟩;walk_at "1";refine⟨_,hp,_,h0,by decide,?_⟩;intro p1 h_p1;generalize e_p1:upd H1 p1 (.tup [.str "pair",.str "use"])=J1;have s1:=nw1 h_p1 e_p1;have q1:=nw2 (K:=K) e_p1;refine⟨_,.inr q1,rfl,rfl,?_⟩;rw[if_neg Bool.false_ne_true]
 by_cases c:inV (V.str t.tag) [.str "pair",.str "use"]=true
 ·rw[if_pos c]
  obtain⟨u,a,b,rfl⟩:=Yh0 c;exact⟨by decide,fun l hl=>q _ _ (s1.trans (Za5 hl _)) Za4⟩
 ·rw[if_neg c]
  obtain⟨u,a,ss,rfl⟩:=Yh1 n1 c n3 n2;exact⟨by decide,fun l hl=>q _ _ (s1.trans (Za5 hl _)) Za4⟩
theorem Xu4 {k:Nat} {f_au0:Addr} {fd_au0:FuncData} (F_au0:Fun K "_law_other" "_law_other" (top 60) f_au0 fd_au0) (C__law_mix:Cl P w K mg base k "_law_mix" pq1 (Zh1)) (C__law_statement:Cl P w K mg base k "_law_statement" pq4 (Zg0 K 12)) (m_len:mg "len"=none) (m_int:mg "int"=none):Fk0 P w K mg base (k+1) f_au0 fd_au0 pq11 (Zm0 K):=by
 refine F_au0.ok sc_au0 (fun vs H Q E h=>?_) (fun cdv A outer s H vs Q E hr h=>?_)
 ·obtain⟨v,t,c,ga,wa,ws,gs,rfl,_⟩:=h
  rfl
 obtain⟨v,t,c,ga,wa,ws,gs,rfl,hc,hv,hw,hW,hga,q⟩:=h
 refine⟨_,(Za3 (pst 4 sc_au0.nd (pxt (pvM 0) Za2))
 (Za3 (pst 5 sc_au0.nd (Zc0 C__law_statement hr (Za0 (Zc0 C__law_mix hr (Za0 (pvM 1) (Za0 Za2 Za1))) (Za0 (Zb3 Zd2 Za2 (Zb3 Zb8 (Zb3 Zc3 (pvM 1) Za2) Za2)) (Za0 (pvM 3) Za1)))))
 (Za3 (Zc4 (ptcM (Zd8) (Zb3 Zb8 (pvM 1) Za2) Za2)
  (Za6 (Zb1 (Zb4 (Za0 Za9 (Za0 (Zb3 Zb8 (Zb3 Zc3 (pvM 1) Za2) (Zb3 Zd2 (Zc5 Zc2 (by exact rfl) m_len Zd4 (Za0 (pvM 2) Za1)) Za2)) Za1)))))
  Zb2)
 (Za3 (Zc4 (ptcM (Zd8) (pvM 4) Za9)
  (Za3 (pst 6 sc_au0.nd (Zb3 Zb8 (Zb3 Zc3 (pvM 1) Za2) Za2))
 (Za6 (Zb1 (Zb4 (Za0 Za9 (Za0 (pxl (Zc7 (Za0 (Zb3 Zd2 (Zc5 Zc2 (by exact rfl) m_len Zd4 (Za0 (pvM 2) Za1)) (pvM 6)) (Za0 (Zb3 Zg9 (Zb3 Zg9 Za2 Za2) (pvM 6)) (Za0 (Zb3 Xr2 Za2 Za2) (Za0 (Zb3 Zd2 (pxt (pvM 0) Za2) Za2) Za1))))) (Zb3 Zb8 (pvM 1) Za2)) Za1))))))
  Zb2)
 (Za3 (Zc4 (Zg4 (Zg5) (pvM 4) (Zb4 (Za0 Za9 (Za0 Za9 Za1))) (by with_unfolding_all rfl))
  (Za6 (Zb1 (pxl (Zc7 (Za0 (Zb4 (Za0 Za9 (Za0 (pxt (pvM 0) Za2) Za1))) (Za0 (Zb4 (Za0 Za9 (Za0 (pxt (pvM 0) Za2) Za1))) Za1))) (Zh2 Zi3 (by exact rfl) m_int Zk4 (Za0 (Zi8 (Zd8) (pvM 4) Za9 (Zk7 _)) Za1)))))
  Zb2)
 (Za3 (Zc4 (Zg4 (Zg5) (pvM 4) (Zb4 (Za0 Za9 (Za0 Za9 Za1))) (by with_unfolding_all rfl))
  (Za3 (Zc4 (ptcM (Zd8) (Zb3 Zb8 (Zb3 Zc3 (pvM 1) Za2) Za2) Za2)
  (Za6 (Zb1 (Zb4 (Za0 (pvM 4) (Za0 (pxt (pvM 0) Za2) (Za0 (pxt (pvM 0) Za2) Za1))))))
  Zb2)
 (Za6 (Zb1 (Zb4 (Za0 (pxl (Zc7 (Za0 Za9 (Za0 Za9 Za1))) (Zh2 Zi3 (by exact rfl) m_int Zk4 (Za0 (Zi8 (Zd8) (pvM 4) Za9 (Zk7 _)) Za1))) (Za0 (pxt (pvM 0) Za2) (Za0 (pxt (pvM 0) Za2) Za1)))))))
  Zb2)
 (Za3 (Zc4 (ptcM (Zd8) (pvM 4) Za9)
  (Za3 (Zc4 (ptcM (Zd8) (Zb3 Zb8 (Zb3 Zc3 (pvM 1) Za2) Za2) Za2)
  (Za6 (Zb1 (Zb4 (Za0 Za9 (Za0 (pxt (pvM 0) Za2) (Za0 (pxt (pvM 0) Za2) (Za0 (pxt (pvM 0) Za2) Za1)))))))
  Zb2)
 (Za6 (Zb1 (Zb4 (Za0 Za9 (Za0 (pxt (pvM 0) Za2) (Za0 (pxt (pvM 0) Za2) (Za0 (pxt (pvM 0) Za2) Za1))))))))
  Zb2)
 (Za3 (Zc4 (ptcM (Zd8) (pvM 4) Za9)
  (Za6 (Zb1 (Zb4 (Za0 Za9 (Za0 (pvM 5) (Za0 (pxt (pvM 0) Za2) Za1))))))
  Zb2)
 (Za3 (Zc4 ((Yd6 (ptcM (Zd8) (Zb3 Zb8 (Zb3 Zc3 (pvM 1) Za2) Za2) Za2) (Zt7 (ptcM (Zz8) (pvM 4) Za9)))).pt
  (Za6 (Zb1 (Zb4 (Za0 (pxl (Zc7 (Za0 Za9 (Za0 Za9 Za1))) (Zh2 Zi3 (by exact rfl) m_int Zk4 (Za0 (Zi8 (Zd8) (pvM 4) Za9 (Zk7 _)) Za1))) (Za0 (pxt (pvM 0) Za2) (Za0 (pxt (pvM 0) Za2) Za1))))))
  Zb2)
 (Za6 (Zb1 (Zb4 (Za0 (pvM 4) (Za0 (pxt (pvM 0) Za2) (Za0 (pvM 5) Za1))))))))))))))),?_⟩
 obtain⟨p,xs,rfl,hp,h0⟩:=Zu3 hv.l;have a8:=Int.emod_nonneg (c / 8) (show (9:Int)≠0 by decide);refine sqt (fun σ' H'=>σ'=[some (.ref p),some (.int c),some (.ref ga),some (.ref wa),some (.str t.tag),none,none]∧H'=H) ?_ ?_
 ·intro C hC
  walk_at "1";exact⟨_,hp,_,h0,hC _ _ ⟨rfl,rfl⟩⟩
 rintro σ1 H1 ⟨rfl,rfl⟩;refine sqt (fun σ' H'=>∃ r s,σ'=[some (.ref p),some (.int c),some (.ref ga),some (.ref wa),some (.str t.tag),some r,none]∧Same H1 H'∧Lt s H' r∧okW ws s) ?_ ?_
 ·intro C hC
  have a0:=Int.emod_nonneg (c / 8) (show (5:Int)≠0 by decide);have a1:=Int.emod_lt_of_pos (c / 8) (show (0:Int) < 5 by decide);walk_at "1";exact⟨_,_,rfl,by decide,by decide,⟨by decide,by decide⟩,by decide,Zh7 (Zf0 _ _) (by walk_at "o") (by walk_at "o") hw hW fun r H' u e hu uw up=>hC _ _ ⟨r,u,rfl,e,hu,uw,by walk_at "o"⟩⟩
 rintro σ2 H2 ⟨r,s0,rfl,e2,hr0,s60⟩;have v2:=hv.keep e2;have g2:=e2 _ _ hga;have p2:=e2.sqt hp;refine sqt (fun σ' H'=>σ'=[some (.ref p),some (.int c),some (.ref ga),some (.ref wa),some (.str t.tag),some r,none]∧H'=H2) ?_ ?_
 ·intro C hC
  walk_at "1";refine⟨by decide,ite2 (fun _=>⟨⟨by decide,by decide⟩,gs,.inl (SqL.of g2),by walk_at "o",by decide,fun p1 h1=>q _ _ (.at _) (e2.trans (Za5 h1 _)) ⟨⟨p1,rfl,.inl (.inl Za4)⟩,trivial⟩ (Xv8 _ _)⟩) (fun _=>hC _ _ ⟨rfl,rfl⟩)⟩
 rintro σ3 H3 ⟨rfl,rfl⟩;refine sqt (fun σ' H'=>σ'=[some (.ref p),some (.int c),some (.ref ga),some (.ref wa),some (.str t.tag),some r,none]∧H'=H3∧¬ t.tag="at") ?_ ?_
 ·intro C hC
  walk_at "1";refine ite2 (fun d=>?_) (fun d=>hC _ _ ⟨rfl,rfl,d⟩);obtain⟨i,rfl⟩:=Zx8 d;obtain⟨p',e,hs⟩:=v2.l;cases e;have b0:=Int.emod_nonneg c (show (4:Int)≠0 by decide);have b1:=Int.emod_lt_of_pos c (show (0:Int) < 4 by decide);refine⟨⟨by decide,by decide⟩,by decide,gs,.inl (SqL.of g2),⟨by decide,by decide,by decide⟩,_,hs,_,rfl,_,rfl,by decide,fun p1 h1=>⟨by decide,_,SqL.of Za4,?_⟩⟩;have s1:=Za5 h1 (.lst [.int ((gs.length:Int)+c / 8 % 9),.int (0 - 1 - c / 8 % 9),.int (10 ^ Int.toNat 12),.int (i+1)])
  obtain⟨z,ez⟩:∃ z:Int,atI [V.int ((gs.length:Int)+c / 8 % 9),V.int (0 - 1 - c / 8 % 9),V.int (10 ^ Int.toNat 12),V.int (i+1)] (c % 4)=some (.int z):=by
   generalize c % 4=m at b0 b1;obtain⟨m,rfl⟩:=Int.eq_ofNat_of_zero_le b0
   match m,b1 with
   | 0,_=>exact⟨_,rfl⟩
   | 1,_=>exact⟨_,rfl⟩
   | 2,_=>exact⟨_,rfl⟩
   | 3,_=>exact⟨_,rfl⟩
  exact⟨_,ez,by decide,fun p3 h3=>q _ _ (.at z) (e2.trans (s1.trans (Za5 h3 _))) ⟨⟨p3,rfl,.inl (.inl Za4)⟩,trivial⟩ (Xv8 _ _)⟩
 rintro σ4 H4 ⟨rfl,rfl,n1⟩;refine sqt (fun σ' H'=>σ'=[some (.ref p),some (.int c),some (.ref ga),some (.ref wa),some (.str t.tag),some r,none]∧Same H4 H'∧¬ inV (V.str t.tag) [.str "left",.str "right"]=true) ?_ ?_
 ·intro C hC
  walk_at "1";refine⟨by decide,?_⟩;intro p1 h_p1;generalize e_p1:upd H4 p1 (.tup [.str "left",.str "right"])=J1;have s1:=nw1 h_p1 e_p1;have q1:=nw2 (K:=K) e_p1;refine⟨_,.inr q1,rfl,rfl,?_⟩;rw[if_neg Bool.false_ne_true];refine ite2 (fun d=>?_) (fun d=>hC _ _ ⟨rfl,s1,d⟩);obtain⟨u,a,ss,rfl,hu⟩:=Xn6 d;obtain⟨p',x,rs,e,hs,hx,hrs⟩:=v2.l;cases e;have hs1:=s1.sqt hs;have f2:=v2.f;refine⟨_,hs1,_,Zd0 (j:=1) rfl,by decide,?_⟩;intro p2 h_p2;generalize e_p2:upd J1 p2 (.tup [.str "right",x])=J2;have s2:=nw1 h_p2 e_p2;have q2:=nw2 (K:=K) e_p2;refine⟨_,s2.sqt hs1,_,Zd0 (j:=1) rfl,by decide,?_⟩;intro p3 h_p3;generalize e_p3:upd J2 p3 (.tup [.str "left",x])=J3;have s3:=nw1 h_p3 e_p3;have q3:=nw2 (K:=K) e_p3;refine⟨by decide,fun p4 h4=>.inr ⟨_,SqL.of Za4,?_⟩⟩;have s4:=Za5 h4 (.lst [.ref p2,.ref p3]);have sA:=((s1.trans s2).trans s3).trans s4;have hx4:=LZ.keep hx sA;rcases hu with rfl | rfl
  ·cases len0 f2.2.1
   exact⟨_,rfl,q _ _ (.one .right a []) (e2.trans sA) ⟨⟨p2,x,[],rfl,s4.sqt (s3.sqt q2),hx4,.nil⟩,f2.1,rfl,fun _ z=>nomatch z⟩ Ym1⟩
  ·cases len0 f2.2.1
   exact⟨_,rfl,q _ _ (.one .left a []) (e2.trans sA) ⟨⟨p3,x,[],rfl,s4.sqt q3,hx4,.nil⟩,f2.1,rfl,fun _ z=>nomatch z⟩ Ym1⟩
 rintro σ5 H5 ⟨rfl,e5,n2⟩;have e25:=e2.trans e5;have v5:=v2.keep e5;have hr5:=Lt.keep hr0 e5;refine sqt (fun σ' H'=>σ'=[some (.ref p),some (.int c),some (.ref ga),some (.ref wa),some (.str t.tag),some r,none]∧Same H5 H'∧¬ inV (V.str t.tag) [.str "pair",.str "use"]=true) ?_ ?_
 ·intro C hC
  walk_at "3";refine⟨by decide,?_⟩;intro p1 h_p1;generalize e_p1:upd H5 p1 (.tup [.str "pair",.str "use"])=J1;have s1:=nw1 h_p1 e_p1;have q1:=nw2 (K:=K) e_p1;refine⟨_,.inr q1,rfl,rfl,?_⟩;rw[if_neg Bool.false_ne_true];refine ite2 (fun d=>?_) (fun d=>hC _ _ ⟨rfl,s1,d⟩);obtain⟨u,a,b,rfl⟩:=Yh0 d;obtain⟨p',x,y,e,hs,hx,hy⟩:=v5.l;cases e;have f2:=v5.f;have hs1:=s1.sqt hs;have hx1:=LZ.keep hx s1;have hy1:=LZ.keep hy s1;walk_at "1";refine⟨⟨by decide,by decide⟩,by decide,ite2 (fun _=>?_) (fun _=>?_)⟩
  ·exact⟨_,hs1,_,rfl,_,hs1,_,rfl,by decide,fun p2 h2=>q _ _ (.two u b a) (e25.trans (s1.trans (Za5 h2 _))) ⟨⟨p2,y,x,rfl,.inl (.inl Za4),LZ.keep hy1 (Za5 h2 _),LZ.keep hx1 (Za5 h2 _)⟩,f2.2,f2.1⟩ Xj4⟩
  ·refine⟨by decide,fun p2 h2=>.inr ⟨_,SqL.of Za4,?_⟩⟩
   have s2:=Za5 h2 (.lst [.str "pair",.str "use"])
   obtain⟨u',eu⟩:∃ u':U2,atI [V.str "pair",V.str "use"] (if (Tz.two u a b).tag="pair" then 1 else 0)=some (.str u'.str):=by
    cases u
    ·exact⟨.use,rfl⟩
    ·exact⟨.pair,rfl⟩
   have s12:=s1.trans s2;exact⟨_,eu,_,s2.sqt hs1,_,rfl,_,s2.sqt hs1,_,rfl,by decide,fun p3 h3=>q _ _ (.two u' a b) (e25.trans (s12.trans (Za5 h3 _))) ⟨⟨p3,x,y,rfl,.inl (.inl Za4),LZ.keep hx (s12.trans (Za5 h3 _)),LZ.keep hy (s12.trans (Za5 h3 _))⟩,f2⟩ Xv9⟩
 rintro σ6 H6 ⟨rfl,e6,n3⟩;have e26:=e25.trans e6;have v6:=v5.keep e6;have hr6:=Lt.keep hr5 e6;refine sqt (fun σ' H'=>σ'=[some (.ref p),some (.int c),some (.ref ga),some (.ref wa),some (.str t.tag),some r,none]∧H'=H6∧¬ t.tag="cases") ?_ ?_
 ·intro C hC
  walk_at "3";refine ite2 (fun n=>?_) (fun d=>hC _ _ ⟨rfl,rfl,d⟩);obtain⟨a,b,d,rfl⟩:=Yr8 n;obtain⟨p',x,y,z,e,hs,hx,hy,hz⟩:=v6.l;cases e;have f2:=v6.f;walk_at "1";refine⟨⟨by decide,by decide⟩,by decide,ite2 (fun _=>?_) (fun _=>?_)⟩
  ·exact⟨_,hs,_,rfl,_,hs,_,rfl,_,hs,_,rfl,by decide,fun p2 h2=>q _ _ (.cs a d b) (e26.trans (Za5 h2 _)) ⟨⟨p2,x,z,y,rfl,.inl (.inl Za4),LZ.keep hx (Za5 h2 _),LZ.keep hz (Za5 h2 _),LZ.keep hy (Za5 h2 _)⟩,f2.1,f2.2.2,f2.2.1⟩ Xw1⟩
  ·exact⟨_,hs,_,rfl,_,hs,_,rfl,_,hs,_,rfl,by decide,fun p2 h2=>q _ _ (.cs b a d) (e26.trans (Za5 h2 _)) ⟨⟨p2,y,x,z,rfl,.inl (.inl Za4),LZ.keep hy (Za5 h2 _),LZ.keep hx (Za5 h2 _),LZ.keep hz (Za5 h2 _)⟩,f2.2.1,f2.1,f2.2.2⟩ Xw0⟩
 rintro σ7 H7 ⟨rfl,rfl,n4⟩;refine sqt (fun σ' H'=>σ'=[some (.ref p),some (.int c),some (.ref ga),some (.ref wa),some (.str t.tag),some r,none]∧H'=H7∧¬ t.tag="fun") ?_ ?_
 ·intro C hC
  walk_at "1";refine ite2 (fun d=>?_) (fun d=>hC _ _ ⟨rfl,rfl,d⟩);obtain⟨s1,a,rfl⟩:=Yr7 d;obtain⟨p',x,y,e,hs,hx,hy⟩:=v6.l;cases e;exact⟨_,hs,_,rfl,by decide,fun p2 h2=>q _ _ (.fn s0 a) (e26.trans (Za5 h2 _)) ⟨⟨p2,r,y,rfl,.inl (.inl Za4),Lt.keep hr6 (Za5 h2 _),LZ.keep hy (Za5 h2 _)⟩,s60,v6.f.2⟩ Wa3⟩
 rintro σ8 H8 ⟨rfl,rfl,n5⟩;obtain⟨u,a,ss,rfl⟩:=Yh1 n1 n3 n4 n5;have nu:¬ (u=.left∨u=.right):=fun z=>n2 (by show inV (.str u.str) _=true;rw[Xk8];exact decide_eq_true z);obtain⟨p',x,rs,e,hs,hx,hrs⟩:=v6.l;cases e;have f2:=v6.f;obtain⟨sv,s1,rfl,rfl,h1'⟩:=ss1 hrs (by rw[f2.2.1];cases u<;>first | rfl | exact absurd (.inl rfl) nu | exact absurd (.inr rfl) nu);refine sqt (fun σ' H'=>σ'=[some (.ref p),some (.int c),some (.ref ga),some (.ref wa),some (.str u.str),some r,none]∧H'=H8) ?_ ?_
 ·intro C hC
  walk_at "1";refine⟨⟨by decide,by decide⟩,by decide,ite2 (fun _=>ite2 (fun d=>?_) (fun _=>hC _ _ ⟨rfl,rfl⟩)) (fun _=>hC _ _ ⟨rfl,rfl⟩)⟩;refine⟨by decide,fun p1 h1=>.inr ⟨_,SqL.of Za4,?_⟩⟩;have s2:=Za5 h1 (.lst [.str "first",.str "second"])
  obtain⟨u',eu,ar⟩:∃ u':U5,atI [V.str "first",V.str "second"] (if (Tz.one u a [s1]).tag="first" then 1 else 0)=some (.str u'.str)∧u'.ar=1:=by
   cases u with
   | first=>exact⟨.second,rfl,rfl⟩
   | second=>exact⟨.first,rfl,rfl⟩
   | off=>exact⟨.first,rfl,rfl⟩
   | left=>exact absurd (.inl rfl) nu
   | right=>exact absurd (.inr rfl) nu
  exact⟨_,eu,_,s2.sqt hs,_,rfl,_,s2.sqt hs,_,rfl,by decide,fun p3 h3=>q _ _ (.one u' a [s1]) (e26.trans (s2.trans (Za5 h3 _))) ⟨⟨p3,x,[sv],rfl,.inl (.inl Za4),LZ.keep hx (s2.trans (Za5 h3 _)),.cons (Lt.keep h1' (s2.trans (Za5 h3 _))) .nil⟩,f2.1,ar.symm,f2.2.2⟩ Ym1⟩
 rintro σ9 H9 ⟨rfl,rfl⟩;walk_at "1";exact⟨_,hs,_,rfl,by decide,fun p2 h2=>q _ _ (.one u a [s0]) (e26.trans (Za5 h2 _)) ⟨⟨p2,x,[r],rfl,.inl (.inl Za4),LZ.keep hx (Za5 h2 _),.cons (Lt.keep hr6 (Za5 h2 _)) .nil⟩,f2.1,f2.2.1,fun z hz=>by rw[List.mem_singleton.mp hz];exact s60⟩ Ym1⟩
theorem Xt9 {k n:Nat} {f_az0:Addr} {fd_az0:FuncData} (F_az0:Fun K "_law_spoiled" "_law_spoiled" (top 62) f_az0 fd_az0) (G_az0:Fk0 P w K mg base k f_az0 fd_az0 pq11 (Zh8 K n)) (m_az0:MgI mg "_law_spoiled" f_az0) (k_az0:KpI K f_az0) (b_az0:Binds K fd_az0 pq11 []) (C__law_mix:Cl P w K mg base k "_law_mix" pq1 (Zh1)) (C__law_inner:Cl P w K mg base k "_law_inner" ["_law_term"] (Zq0 K)) (C__law_other:Cl P w K mg base k "_law_other" pq11 (Zm0 K)) (m_len:mg "len"=none):Fk0 P w K mg base (k+1) f_az0 fd_az0 pq11 (Zh8 K (n+1)):=by
 refine F_az0.ok sc_az0 (fun vs H Q E h=>?_) (fun cdv A outer s H vs Q E hr h=>?_)
 ·obtain⟨v,t,c,ga,wa,ws,gs,rfl,_⟩:=h
  rfl
 obtain⟨v,t,c,ga,wa,ws,gs,rfl,hc,hd,hv,hw,hW,hga,q⟩:=h
 refine⟨_,(Za3 (pst 4 sc_az0.nd (Zc0 C__law_inner hr (Za0 (pvM 0) Za1)))
 (Za3 (Zc4 ((Yd5 (ptcM (Yl9 (Zm8 hr)) (pvM 4) (Zc7 Za1)) (Zr4 (ptcM (Zd8) (Zb3 Zb8 (pvM 1) Za2) Za2)))).pt
  (Za6 (Zb1 (Zc0 C__law_other hr (Za0 (pvM 0) (Za0 (Zb3 Zc3 (pvM 1) Za2) (Za0 (pvM 2) (Za0 (pvM 3) Za1)))))))
  Zb2)
 (Za3 (pst 5 sc_az0.nd (pxl (pvM 4) (Zb3 Zb8 (Zb3 Zc3 (pvM 1) Za2) (Zc5 Zc2 (by exact rfl) m_len Zd4 (Za0 (pvM 4) Za1)))))
 (Za3 (pst 6 sc_az0.nd (pcl G_az0 hr m_az0 k_az0 b_az0 (Za0 (pxt (pvM 0) (pvM 5)) (Za0 (Zc0 C__law_mix hr (Za0 (pvM 1) (Za0 Za2 Za1))) (Za0 (pvM 2) (Za0 (pvM 3) Za1))))))
 (Za6 (Zb1 (Zb3 Zz9 (Zb3 Zz9 (Zj8 Ys6 (pvM 0) Zn8 (Zn7 (pvM 5))) (Zb4 (Za0 (pvM 6) Za1))) (Zj8 Ys6 (pvM 0) (Zn7 (Zb3 Zd2 (pvM 5) Za2)) Zn8)))))))),?_⟩
 refine sqt (fun σ' H'=>∃ l,σ'=[some v,some (.int c),some (.ref ga),some (.ref wa),some (.ref l),none,none]∧Same H H'∧H' l=some (.lst (t.plc.map nI))) ?_ ?_
 ·intro C hC
  walk_at "1";exact⟨v,t,rfl,hv.l,fun r H' e h=>hC _ _ ⟨r,rfl,e,h⟩⟩
 rintro σ1 H1 ⟨l,rfl,e1,hl⟩
 have p3:t.plc.length≤3:=by cases t<;>exact Nat.le_of_ble_eq_true rfl
 refine sqt (fun σ' H'=>σ'=[some v,some (.int c),some (.ref ga),some (.ref wa),some (.ref l),none,none]∧Same H1 H'∧0 < t.plc.length) ?_ ?_
 ·intro C hC
  walk_at "1";refine⟨by decide,fun p1 h1=>?_⟩;have s1:=Za5 h1 (.lst []);have oth:Zm0 K [v,.int (c / 4),.ref ga,.ref wa] (upd H1 p1 (.lst [])) Q E0:=⟨v,t,c / 4,ga,wa,ws,gs,rfl,Int.ediv_nonneg hc (by decide),hv.keep (e1.trans s1),(e1.trans s1).seq hw,hW,(e1.trans s1) _ _ hga,fun r H' t' e o n=>q _ _ t' ((e1.trans s1).trans e) o n⟩;refine⟨.list (Xc6 t.plc),by rw[Dn];exact⟨l,_,rfl,SqL.of (s1 _ _ hl),Yu6 _⟩,.list [],by rw[Dn];exact⟨p1,_,rfl,SqL.of Za4,dnAll_nil⟩,Xc5 _,rfl,Nat.le_trans (Nat.min_le_right _ _) (by decide),?_⟩;rw[if_neg Bool.false_ne_true]
  cases ep:t.plc with
  | nil=>rw[if_pos (by rfl),if_pos trivial];exact⟨⟨by decide,by decide⟩,oth⟩
  | cons a0 ar =>
   rw[if_neg (by show ¬ false=true;decide)];exact⟨by decide,ite2 (fun _=>⟨⟨by decide,by decide⟩,oth⟩) (fun _=>hC _ _ ⟨rfl,s1,by rw[ep];exact Nat.succ_pos _⟩)⟩
 rintro σ2 H2 ⟨rfl,e2,hp⟩;have e02:=e1.trans e2;refine sqt (fun σ' H'=>∃ (j k0:Nat),σ'=[some v,some (.int c),some (.ref ga),some (.ref wa),some (.ref l),some (nI k0),none]∧H'=H2∧t.plc[j]?=some k0) ?_ ?_
 ·intro C hC
  walk_at "1";have hl2:=e2 _ _ hl;have b0:0≤c / 4 % ((t.plc.length:Nat):Int):=Int.emod_nonneg _ (by walk_at "o");have b1:=Int.emod_lt_of_pos (c / 4) (show (0:Int) < ((t.plc.length:Nat):Int) by walk_at "o");refine⟨⟨by decide,by decide⟩,_,.inl (SqL.of hl2),by rw[List.length_map];walk_at "o",_,SqL.of hl2,?_⟩;rw[List.length_map];generalize c / 4 % ((t.plc.length:Nat):Int)=m at b0 b1 ⊢;obtain⟨j,rfl⟩:=Int.eq_ofNat_of_zero_le b0
  have hj:j < t.plc.length:=by walk_at "o"
  exact⟨nI t.plc[j],Zd0 (by rw[List.getElem?_map,List.getElem?_eq_getElem hj];rfl),hC _ _ ⟨j,t.plc[j],rfl,rfl,List.getElem?_eq_getElem hj⟩⟩
 rintro σ3 H3 ⟨j,k0,rfl,rfl,ej⟩;obtain⟨p,xs,kid,x,rfl,hs,hx,hk,hkd,x4,k1,fin⟩:=Xw3 (hv.keep e02) ej;have kl:=(List.getElem?_eq_some_iff.mp hx).1;refine sqt (fun σ' H'=>∃ b t',σ'=[some (.ref p),some (.int c),some (.ref ga),some (.ref wa),some (.ref l),some (nI k0),some b]∧Same H3 H'∧OkZ K H' ws b t'∧NoMore t' kid) ?_ ?_
 ·intro C hC
  walk_at "1";exact⟨_,hs,x,Zd0 hx,_,_,rfl,by decide,by decide,x,kid,_,ga,wa,ws,gs,rfl,Zf0 _ _,by walk_at "o",hk,e02.seq hw,hW,e02 _ _ hga,fun r H' t' e o n=>hC _ _ ⟨r,t',rfl,e,o,n⟩⟩
 rintro σ4 H4 ⟨b,t',rfl,e4,hb,nm⟩;walk_at "1";have hs4:=e4.sqt hs;have lt:(xs.take k0).length=k0:=List.length_take_of_le (Nat.le_of_lt kl);refine⟨_,hs4,Xe0 kl,fun p1 h1=>⟨by decide,?_⟩⟩;rw[Yn2 (Nat.le_of_lt kl)];generalize e1':upd H4 p1 (.tup (xs.take k0))=J1;have s1:=nw1 h1 e1';have q1:=nw3 e1';intro p2 h_p2;generalize e_p2:upd J1 p2 (.tup [b])=J2;have s2:=nw1 h_p2 e_p2;have q2:=nw3 e_p2;refine⟨_,.inl (.inl (s2 _ _ q1)),_,.inl (.inl q2),fun z=>by rw[z] at lt;exact absurd lt (by show ¬ 0=k0;walk_at "o"),Nat.le_of_lt (Zd5 (by rw[lt];show k0+1≤_;walk_at "o")),fun z=>(nomatch z),fun _ p3 h3=>?_⟩;generalize e3':upd J2 p3 (.tup (xs.take k0++[b]))=J3;have s3:=nw1 h3 e3';have q3:=nw3 e3';have s13:=(s1.trans s2).trans s3;refine⟨_,s13.sqt hs4,Xe1 kl,fun p4 h4=>?_⟩;rw[Xd9 kl];generalize e4':upd J3 p4 (.tup (xs.drop (k0+1)))=J4;have s4:=nw1 h4 e4';have q4:=nw3 e4';have s14:=s13.trans s4;refine⟨_,.inl (.inl (s4 _ _ q3)),_,.inl (.inl q4),by simp,Nat.le_of_lt (Zd5 (by rw[List.length_append,lt,List.length_drop];show k0+1+_≤_;walk_at "o")),fun z=>?_,fun _ p5 h5=>?_⟩
 ·obtain⟨t2,o2,n2⟩:=fin b t' J4 p3 (e4.trans s14) (by rw[z,List.append_nil];exact .inl (.inl (s4 _ _ q3))) (hb.keep s14) nm
  exact q _ _ t2 (e02.trans (e4.trans s14)) o2 n2
 ·have s5:=Za5 h5 (.tup (xs.take k0++[b]++xs.drop (k0+1)))
  obtain⟨t2,o2,n2⟩:=fin b t' _ p5 (e4.trans (s14.trans s5)) (.inl (.inl Za4)) (hb.keep (s14.trans s5)) nm;exact q _ _ t2 (e02.trans (e4.trans (s14.trans s5))) o2 n2
theorem sc_aw0:FnScope ["_law_cell_here","_law_size_here","_law_given_here","_law_words_here","_law_term","_law_shape","_law_other_here"] ["_law_cell_here","_law_size_here","_law_given_here","_law_words_here"] (Za7 (top 50)):=scm (by decide +kernel)
theorem sc_as0:FnScope ["_law_cell_here","_law_size_here","_law_given_here","_law_words_here","_law_found","_law_more"] ["_law_cell_here","_law_size_here","_law_given_here","_law_words_here"] (Za7 (top 54)):=scm (by decide +kernel)
theorem sc_ah0:FnScope ["_law_cell_here","_law_size_here","_law_given_here","_law_words_here","_law_form","_law_seed","_law_one","_law_shape","_law_other_here","_law_more","_law_term","_law_here"] ["_law_cell_here","_law_size_here","_law_given_here","_law_words_here"] (Za7 (top 53)):=scm (by decide +kernel)
theorem at2 {a b:V} {c:Int} (h0:0≤c) (h1:c < 2) {p:V→Prop} (ha:c=0→p a) (hb:c=1→p b):∃ x,atI [a,b] c=some x∧p x:=by
 have:c=0∨c=1:=by walk_at "o"
 rcases this with rfl | rfl
 ·exact⟨a,rfl,ha rfl⟩
 ·exact⟨b,rfl,hb rfl⟩
theorem Xu2 {k n:Nat} {f_aw0:Addr} {fd_aw0:FuncData} (F_aw0:Fun K "_law_sided" "_law_sided" (top 50) f_aw0 fd_aw0) (C__law_made:Cl P w K mg base k "_law_made" pq3 (Zd9 K 0 n 60)) (C__law_simple:Cl P w K mg base k "_law_simple" pq0 (Zj6 K)) (C__law_mix:Cl P w K mg base k "_law_mix" pq1 (Zh1)):Fk0 P w K mg base (k+1) f_aw0 fd_aw0 pq3 (Zd9 K 2 (n+1) 60):=by
 refine F_aw0.ok sc_aw0 (fun vs H Q E h=>?_) (fun cdv A outer s H vs Q E hr h=>?_)
 ·obtain⟨c,m,ga,wa,ws,gs,ts,rfl,_⟩:=h
  rfl
 obtain⟨c,m,ga,wa,ws,gs,ts,rfl,hc,lo,hn,h10,G,hl,q⟩:=h;have c0:=Int.emod_nonneg c (show (2:Int)≠0 by decide);have c1:=Int.emod_lt_of_pos c (show (0:Int) < 2 by decide);obtain⟨d1,d2,d3,d4,d5,d6,d7⟩:=Zs6 m h10 lo;obtain⟨z1,z2,z3,z4⟩:=Zs2 m h10 lo
 refine⟨_,(Za3 (Zk5 (Zc0 C__law_made hr (Za0 (Zc0 C__law_mix hr (Za8 (pvM 0) (Zb5 Za2 Za1))) (Za0 (Zb3 Zg9 (pvM 1) Za2) (Za8 (pvM 2) (Za8 (pvM 3) Za1))))) (Zk6 rfl (Zd1 (Zc8 (i:=4) sc_aw0.nd rfl (Or.inl rfl)) (Zd1 (Zc8 (i:=5) sc_aw0.nd rfl (Or.inl rfl)) Zh6))))
 (Za3 (Zc4 (ptcM (Zd8) (pxt (pvM 5) Za2) Za9)
  (Za6 (Zb1 (pxl (Zc7 (Zc1 (Zb4 (Zc1 (Zb4 (Zb5 Za9 (Za8 (pvM 4) Za1))) (Zm2 (pxt (pvM 5) Za2) Za1))) (Zc1 (Zb4 (Zc1 (Zb4 (Zb5 Za9 (Za8 (pvM 4) Za1))) (Zm2 (pxt (pvM 5) Za2) Za1))) Za1))) (Zb3 Zb8 (pvM 0) Za2))))
  Zb2)
 (Za3 (pst 6 sc_aw0.nd (pxt (Zc0 C__law_simple hr (Za0 (Zc0 C__law_mix hr (Za8 (pvM 0) (Zb5 Za2 Za1))) (Za8 (pvM 2) (Za8 (pvM 3) Za1)))) Za2))
 (Za6 (Zb1 (Zb4 (Zm2 (pxl (Zc7 (Zc1 (Zb4 (Zb5 Za9 (Zc1 (Zb4 (Zb5 Za9 (Za8 (pvM 4) (Za8 (pvM 6) Za1)))) Za1))) (Zc1 (Zb4 (Zb5 Za9 (Zc1 (Zb4 (Zb5 Za9 (Za8 (pvM 6) (Za8 (pvM 4) Za1)))) Za1))) Za1))) (Zb3 Zb8 (pvM 0) Za2)) (Za8 (pvM 5) Za1)))))))),?_⟩
 refine sqt (fun σ' H'=>∃ x y t g,σ'=[some (.int c),some (.int (m:Nat)),some (.ref ga),some (.ref wa),some x,some y,none]∧Same H H'∧LEK K H' x t∧LtK K H' y g∧HasK ts t g∧t.fine ws∧t.deep≤dB (m - 1)∧t.size≤sB (m - 1)∧g.inW ws∧g.parts≤60) ?_ ?_
 ·intro C hC
  walk_at "1";refine⟨_,_,rfl,by walk_at "o",by walk_at "o",_,m - 1,ga,wa,ws,gs,ts,by rw[show (m:Int) - 1=((m - 1:Nat):Int) by walk_at "o"],Zf0 _ _,by walk_at "o",by walk_at "o",by walk_at "o",G,by walk_at "o",fun r H1 e1 hm=>?_⟩;obtain⟨p,x,y,t,g,rfl,h1,h2,h3,hk,h4,h5,h6,h7,h8⟩:=hm;exact⟨p,rfl,_,h1,rfl,_,_,rfl,_,_,rfl,rfl,hC _ _ ⟨x,y,t,g,rfl,e1,h2,h3,hk,h4,h5,h6,h7,h8⟩⟩
 rintro σ1 H1 ⟨x,y,t,g,rfl,e1,hx,hy,tk,tf,td,tz,gw,gp⟩;obtain⟨py,ys,rfl,hsy,hy0⟩:=Ya7 (LtK.isT hy);refine sqt (fun σ' H'=>σ'=[some (.int c),some (.int (m:Nat)),some (.ref ga),some (.ref wa),some x,some (.ref py),none]∧H'=H1) ?_ ?_
 ·intro C hC
  walk_at "1";refine⟨_,hsy,_,hy0,rfl,?_⟩
  by_cases ca:g.tagS="both"
  ·obtain⟨ga1,gb1,rfl⟩:=Zh9 (k:=.both) ca
   obtain⟨p,u1,u2,e,hs,hu1,hu2⟩:=ltK_nd.mp hy;cases e;rw[if_pos (by rfl)];have gp':1+ga1.parts+gb1.parts≤60:=gp;refine⟨by decide,?_⟩;intro p1 h_p1;generalize e_p1:upd H1 p1 (.tup [.str "left",x])=J1;have s1:=nw1 h_p1 e_p1;have q1:=nw2 (K:=K) e_p1;refine⟨_,s1.sqt (.inl (.inl hs)),u1,rfl,by decide,?_⟩;intro p2 h_p2;generalize e_p2:upd J1 p2 (.tup [.ref p1,u1])=J2;have s2:=nw1 h_p2 e_p2;have q2:=nw2 (K:=K) e_p2;refine⟨by decide,?_⟩;intro p3 h_p3;generalize e_p3:upd J2 p3 (.tup [.str "right",x])=J3;have s3:=nw1 h_p3 e_p3;have q3:=nw2 (K:=K) e_p3;refine⟨_,((s1.trans s2).trans s3).sqt (.inl (.inl hs)),u2,rfl,by decide,?_⟩;intro p4 h_p4;generalize e_p4:upd J3 p4 (.tup [.ref p3,u2])=J4;have s4:=nw1 h_p4 e_p4;have q4:=nw2 (K:=K) e_p4;refine⟨by decide,fun p5 h5=>⟨by decide,_,SqL.of Za4,?_⟩⟩;have s5:=Za5 h5 (.lst [.ref p2,.ref p4]);generalize upd J4 p5 (.lst [.ref p2,.ref p4])=J5 at s5 ⊢;have s45:=s4.trans s5;have s35:=s3.trans s45;have s25:=s2.trans s35;have sA:=s1.trans s25;refine at2 c0 c1 (fun _=>q _ _ (e1.trans sA) (Ze4 (t:=.one .left t []) (g:=ga1) (s35.sqt q2) (Zm4 (u:=.left) (s25.sqt q1) (LEK.keep hx sA.keepL)) (LtK.keep hu1 sA.keepL) ⟨tf,rfl,fun _ h=>nomatch h⟩ (by show 1+t.deep≤_;walk_at "o") (by show 1+t.size≤_;walk_at "o") gw.1 (by walk_at "o") ⟨_,tk⟩))
    (fun _=>q _ _ (e1.trans sA) (Ze4 (t:=.one .right t []) (g:=gb1) (s5.sqt q4) (Zm4 (u:=.right) (s45.sqt q3) (LEK.keep hx sA.keepL)) (LtK.keep hu2 sA.keepL) ⟨tf,rfl,fun _ h=>nomatch h⟩ (by show 1+t.deep≤_;walk_at "o") (by show 1+t.size≤_;walk_at "o") gw.2 (by walk_at "o") ⟨_,tk⟩))
  ·rw[if_neg (fun z=>ca (V.str.inj z))]
   exact hC _ _ ⟨rfl,rfl⟩
 rintro σ2 H2 ⟨rfl,rfl⟩;walk_at "1";refine⟨_,_,rfl,by walk_at "o",by walk_at "o",_,ga,wa,ws,gs,ts,rfl,Zf0 _ _,G.keep e1,by walk_at "o",fun r H3 e3 hm=>?_⟩;obtain⟨p,x',y',t',g',rfl,a1,a2,a3,ak,a4,a5,a6,a7,a8⟩:=hm;refine⟨p,rfl,_,a1,_,rfl,by decide,?_⟩;intro p1 h_p1;generalize e_p1:upd H3 p1 (.tup [.str "pair",x,x'])=J1;have s1:=nw1 h_p1 e_p1;have q1:=nw2 (K:=K) e_p1;refine⟨by decide,?_⟩;intro p2 h_p2;generalize e_p2:upd J1 p2 (.tup [.str "left",.ref p1])=J2;have s2:=nw1 h_p2 e_p2;have q2:=nw2 (K:=K) e_p2;refine⟨by decide,?_⟩;intro p3 h_p3;generalize e_p3:upd J2 p3 (.tup [.str "pair",x',x])=J3;have s3:=nw1 h_p3 e_p3;have q3:=nw2 (K:=K) e_p3;refine⟨by decide,?_⟩;intro p4 h_p4;generalize e_p4:upd J3 p4 (.tup [.str "right",.ref p3])=J4;have s4:=nw1 h_p4 e_p4;have q4:=nw2 (K:=K) e_p4;refine⟨by decide,fun p5 h5=>⟨by decide,_,SqL.of Za4,?_⟩⟩;have s5:=Za5 h5 (.lst [.ref p2,.ref p4]);generalize upd J4 p5 (.lst [.ref p2,.ref p4])=J5 at s5 ⊢;have s45:=s4.trans s5;have s35:=s3.trans s45;have s25:=s2.trans s35;have sA:=s1.trans s25;have eA:=e3.trans sA;refine at2 c0 c1 (fun _=>⟨by decide,?_⟩) (fun _=>⟨by decide,?_⟩)
 ·intro p6 h_p6;generalize e_p6:upd J5 p6 (.tup [.ref p2,.ref py])=J6;have s6:=nw1 h_p6 e_p6;have q6:=nw2 (K:=K) e_p6
  refine q _ _ (e1.trans (eA.trans s6)) (Ze4 (t:=.one .left (.two .pair t t') []) (g:=g) q6 (Zm4 (u:=.left) ((s35.trans s6).sqt q2) (Zi6 (u:=.pair) ((s25.trans s6).sqt q1) (LEK.keep hx (eA.trans s6).keepL) (LEK.keep a2 (sA.trans s6).keepL))) (LtK.keep hy (eA.trans s6).keepL) ⟨⟨tf,a4⟩,rfl,fun _ h=>nomatch h⟩ (by show 1+(1+max t.deep t'.deep)≤_;walk_at "o") (by show 1+(1+t.size+t'.size)≤_;walk_at "o") gw gp ⟨_,_,_,tk,ak,rfl⟩)
 ·intro p6 h_p6;generalize e_p6:upd J5 p6 (.tup [.ref p4,.ref py])=J6;have s6:=nw1 h_p6 e_p6;have q6:=nw2 (K:=K) e_p6
  refine q _ _ (e1.trans (eA.trans s6)) (Ze4 (t:=.one .right (.two .pair t' t) []) (g:=g) q6 (Zm4 (u:=.right) ((s5.trans s6).sqt q4) (Zi6 (u:=.pair) ((s45.trans s6).sqt q3) (LEK.keep a2 (sA.trans s6).keepL) (LEK.keep hx (eA.trans s6).keepL))) (LtK.keep hy (eA.trans s6).keepL) ⟨⟨a4,tf⟩,rfl,fun _ h=>nomatch h⟩ (by show 1+(1+max t'.deep t.deep)≤_;walk_at "o") (by show 1+(1+t'.size+t.size)≤_;walk_at "o") gw gp ⟨_,_,_,ak,tk,rfl⟩)
theorem sc_al0:FnScope ["_law_script","_law_words_here","_law_given_here","_law_k","_law_cell_here"] ["_law_script","_law_words_here"] (Za7 (top 55)):=scm (by decide +kernel)
def Zw4 (K:W.Frag):Sp:=fun vs H Q _=>∃ (sa wa:Addr) (ns:List Int) (ws:List Str),vs=[.ref sa,.ref wa]∧SqL K H sa (ns.map V.int)∧ns.length≤63∧SqL K H wa (ws.map V.str)∧Yb5 ws∧∀ (r:Addr) (H':Hp) (gs:List V) (ts:List Tm),Same H H'→H' r=some (.lst gs)→Paired (LtK K H') gs ts→(∀ s∈ts,okW ws s)→ts.length≤4→Q (.ref r) H'
theorem Xv0 {k:Nat} {f_al0:Addr} {fd_al0:FuncData} (F_al0:Fun K "_law_given" "_law_given" (top 55) f_al0 fd_al0) (C__law_cell:Cl P w K mg base k "_law_cell" ["_law_script","_law_k"] (Yh7 K)) (C__law_mix:Cl P w K mg base k "_law_mix" pq1 (Zh1)) (C__law_statement:Cl P w K mg base k "_law_statement" pq4 (Zg0 K 12)) (m_range:mg "range"=none) (m_max:mg "max"=none) (m_len:mg "len"=none):Fk0 P w K mg base (k+1) f_al0 fd_al0 ["_law_script","_law_words_here"] (Zw4 K):=by
 refine F_al0.ok sc_al0 (fun vs H Q E h=>?_) (fun cdv A outer s H vs Q E hr h=>?_)
 ·obtain⟨sa,wa,ns,ws,rfl,_⟩:=h
  rfl
 obtain⟨sa,wa,ns,ws,rfl,hS,h63,hW,hw,q⟩:=h
 refine⟨_,(Za3 (pst 2 sc_al0.nd (Zc7 Za1))
 (Za3 (Yd9 PassesOwn.never rfl (Zl8 rfl m_range (Za0 (Zb3 Zb8 (Zb3 Zc3 (Zc0 C__law_cell hr (Za0 (pvM 0) (Za0 Za2 Za1))) Za2) Za2) Za1)) (Zc8 (i:=3) sc_al0.nd rfl (Or.inl rfl))
  (Za3 (pst 4 sc_al0.nd (Zc0 C__law_mix hr (Za0 (Zc0 C__law_cell hr (Za0 (pvM 0) (Za0 (Zb3 Zd2 Za2 (Zb3 Zb8 (pvM 3) (Zc5 (Yy4 rfl) (by exact rfl) m_max Xe4 (Za0 Za2 (Za0 (Zc5 Zc2 (by exact rfl) m_len Zd4 (Za0 (pvM 0) Za1)) Za1))))) Za1))) (Za0 (Zb3 Zd2 (pvM 3) Za2) Za1))))
 (Za6 (Zc4 (ptcM (Zd8) (Zb3 Zb8 (pvM 4) Za2) Za2)
  (Za6 (Zf5 (Zn9 F.plainAttrs_list F.slot_list_append F.type_list_append Ze6 (pvM 2) (Za0 (Zb4 (Za0 Za9 Za1)) Za1))))
  (Za6 (Zf5 (Zn9 F.plainAttrs_list F.slot_list_append F.type_list_append Ze6 (pvM 2) (Za0 (Zc0 C__law_statement hr (Za0 (Zb3 Zc3 (pvM 4) Za2) (Za0 (Zb3 Zd2 Za2 (Zb3 Zb8 (pvM 4) Za2)) (Za0 (pvM 1) Za1)))) Za1))))))))
 (Za6 (Zb1 (pvM 2))))),?_⟩
 refine sqt (fun σ' H'=>∃ l,σ'=[some (.ref sa),some (.ref wa),some (.ref l),none,none]∧Same H H'∧H l=none∧H' l=some (.lst [])) ?_ ?_
 ·intro C hC
  walk_at "1";exact⟨by decide,fun l hl=>hC _ _ ⟨l,rfl,Za5 hl _,hl,Za4⟩⟩
 rintro σ1 H1 ⟨l,rfl,e1,f1,h1⟩;refine sqt (fun σ' H'=>∃ x3 x4 gs ts,σ'=[some (.ref sa),some (.ref wa),some (.ref l),x3,x4]∧Same H H'∧H' l=some (.lst gs)∧Paired (LtK K H') gs ts∧(∀ s∈ts,okW ws s)∧ts.length≤4) ?_ ?_
 ·intro C hC
  walk_at "2";have b0:=Int.emod_nonneg (cellOf ns 1 / 5) (show (5:Int)≠0 by decide);have b1:=Int.emod_lt_of_pos (cellOf ns 1 / 5) (show (0:Int) < 5 by decide);refine⟨_,ns,_,rfl,e1.seq hS,h63,by decide,by decide,_,rfl,⟨by decide,by decide⟩,by decide,by walk_at "o",by walk_at "o",?_⟩;generalize cellOf ns 1 / 5 % 5=cnt at b0 b1 ⊢;refine Zv1 (D:={ nx:=C,rt:=Q }) (n:=cnt.toNat) (lo:=0) (fun i σ' H'=>∃ x3 x4 gs ts,σ'=[some (.ref sa),some (.ref wa),some (.ref l),x3,x4]∧Same H H'∧H' l=some (.lst gs)∧Paired (LtK K H') gs ts∧(∀ s∈ts,okW ws s)∧ts.length=i) ⟨none,none,[],[],rfl,e1,h1,.nil,fun s hs=>absurd hs (by simp),rfl⟩ (fun i σ' H' hi hp=>?_) (fun σ' H' ⟨x3,x4,gs,ts,e0,e,h,hp,ho,hl⟩=>hC _ _ ⟨x3,x4,gs,ts,e0,e,h,hp,ho,by walk_at "o"⟩);obtain⟨x3,x4,gs,ts,rfl,e,h,hp,ho,hl⟩:=hp;unfold Ya9;refine sqt (fun σ' J=>∃ x:Int,σ'=[some (.ref sa),some (.ref wa),some (.ref l),some (.int (0+(i:Int))),some (.int x)]∧J=H'∧0≤x) ?_ ?_
  ·intro C' hC'
   walk_at "1";refine⟨ns.map V.int,.inl (e.seq hS),?_⟩
   have m0:0 < (if ((ns.map V.int).length:Int) > 1 then ((ns.map V.int).length:Int) else 1):=by split<;>walk_at "o"
   have m1:(if ((ns.map V.int).length:Int) > 1 then ((ns.map V.int).length:Int) else 1)≤63:=by rw[List.length_map];split<;>walk_at "o"
   generalize (if ((ns.map V.int).length:Int) > 1 then ((ns.map V.int).length:Int) else 1)=M at m0 m1 ⊢;have a0:=Int.emod_nonneg (0+(i:Int)) (show M≠0 by walk_at "o");have a1:=Int.emod_lt_of_pos (0+(i:Int)) m0;exact⟨m0,_,ns,_,rfl,e.seq hS,h63,by walk_at "o",by walk_at "o",_,_,rfl,by walk_at "o",by walk_at "o",hC' _ _ ⟨_,rfl,rfl,Zf0 _ _⟩⟩
  rintro σ2 J2 ⟨x,rfl,rfl,hx⟩;have lg:=Paired.length hp;have c0:=Int.emod_nonneg x (show (7:Int)≠0 by decide);have c1:=Int.emod_lt_of_pos x (show (0:Int) < 7 by decide)
  have fin:∀ {J:Hp} {v:V} {u:Tm},Same J2 J→LtK K J v u→okW ws u→J l=some (.lst gs)∧gs.length < sizeLine∧Same H (upd J l (.lst (gs++[v])))∧∃ x_1,upd J l (.lst (gs++[v])) l=some (.lst x_1)∧∃ x_2,Paired (LtK K (upd J l (.lst (gs++[v])))) x_1 x_2∧(∀ s∈x_2,okW ws s)∧x_2.length=i+1:=fun {J v u} ej hv hu=>by
   have hJ:=ej _ _ h;have kl:=Yf4 (K:=K) (o:=.lst (gs++[v])) hJ;refine⟨hJ,Zd5 (by walk_at "o"),(e.trans ej).write f1,_,Za4,ts++[u],Zj3 (Paired.mapP hp fun _ _ z=>LtK.keep z (ej.keepL.trans kl)) (.cons (LtK.keep hv kl) .nil),fun s hs=>?_,by rw[List.length_append,hl];rfl⟩;rcases List.mem_append.mp hs with hs | hs
   ·exact ho s hs
   ·rw[List.mem_singleton.mp hs];exact hu
  walk_at "1";refine⟨by decide,ite2 (fun _=>⟨.inl ⟨rfl,_,SqL.of h⟩,by decide,fun p1 h1=>?_⟩) (fun _=>⟨.inl ⟨rfl,_,SqL.of h⟩,⟨by decide,by decide⟩,by decide,Zh7 (by walk_at "o") (by walk_at "o") (by walk_at "o") (e.seq hW) hw fun r J u ej hu uw up=>?_⟩)⟩
  ·exact⟨gs,fin (Za5 h1 _) (ltK_low.mpr ⟨p1,rfl,Za4⟩) ⟨trivial,by decide⟩⟩
  ·exact⟨gs,fin ej hu ⟨uw,by walk_at "o"⟩⟩
 rintro σ2 H2 ⟨x3,x4,gs,ts,rfl,e2,h2,hp,ho,hl⟩;walk_at "1";exact q _ _ gs ts e2 h2 hp ho hl
theorem Xf6 {k n:Nat} {f_as0:Addr} {fd_as0:FuncData} (F_as0:Fun K "_law_made" "_law_made" (top 54) f_as0 fd_as0) (C__law_any:Cl P w K mg base k "_law_any" pq3 (Zd9 K 2 n 150)) (C__law_simple:Cl P w K mg base k "_law_simple" pq0 (Zj6 K)) (C__law_mix:Cl P w K mg base k "_law_mix" pq1 (Zh1)) (C__law_size:Cl P w K mg base k "_law_size" ["_law_statement_here"] (Zy1 K)):Fk0 P w K mg base (k+1) f_as0 fd_as0 pq3 (Zd9 K 0 n 60):=by
 refine F_as0.ok sc_as0 (fun vs H Q E h=>?_) (fun cdv A outer s H vs Q E hr h=>?_)
 ·obtain⟨c,m,ga,wa,ws,gs,ts,rfl,_⟩:=h
  rfl
 obtain⟨c,m,ga,wa,ws,gs,ts,rfl,hc,lo,hn,h10,G,hl,q⟩:=h;have b2:=Xy2 m h10
 refine⟨_,(Za3 (pst 4 sc_as0.nd (Zc0 C__law_simple hr (Za0 (Zc0 C__law_mix hr (Za0 (pvM 0) (Za0 Za2 Za1))) (Za0 (pvM 2) (Za0 (pvM 3) Za1)))))
 (Za3 (Zc4 (ptcM (Xf3) (pvM 1) Za2)
  (Za3 (pst 5 sc_as0.nd (Zc0 C__law_any hr (Za0 (Zc0 C__law_mix hr (Za0 (pvM 0) (Za0 Za2 Za1))) (Za0 (pvM 1) (Za0 (pvM 2) (Za0 (pvM 3) Za1))))))
 (Za6 (Zc4 (ptcM (Yl8) (Zc0 C__law_size hr (Za0 (pxt (pvM 5) Za2) Za1)) Za2)
  (Za6 (pst 4 sc_as0.nd (pvM 5)))
  Zb2)))
  Zb2)
 (Za6 (Zb1 (pvM 4))))),?_⟩
 refine sqt (fun σ' H'=>∃ r,σ'=[some (.int c),some (.int (m:Nat)),some (.ref ga),some (.ref wa),some r,none]∧Same H H'∧MadeK K H' ts ws 2 2 60 r) ?_ ?_
 ·intro C hC
  walk_at "1";exact⟨_,_,rfl,by walk_at "o",by walk_at "o",_,ga,wa,ws,gs,ts,rfl,Zf0 _ _,G,by walk_at "o",fun r H1 e1 hm=>hC _ _ ⟨r,rfl,e1,hm⟩⟩
 rintro σ1 H1 ⟨r,rfl,e1,hm⟩;refine sqt (fun σ' H'=>∃ r x5,σ'=[some (.int c),some (.int (m:Nat)),some (.ref ga),some (.ref wa),some r,x5]∧Same H H'∧MadeK K H' ts ws (dB m) (sB m) 60 r) ?_ ?_
 ·intro C hC
  walk_at "1";refine ite2 (fun h1=>?_) (fun h1=>hC _ _ ⟨r,none,rfl,e1,hm.mono (KeepL.refl _) b2.1 b2.2 (Nat.le_refl _)⟩);refine⟨_,_,rfl,by walk_at "o",by walk_at "o",_,m,ga,wa,ws,gs,ts,rfl,Zf0 _ _,by walk_at "o",hn,h10,G.keep e1,hl,fun r2 H2 e2 hm2=>?_⟩;obtain⟨p,x,y,t,g,rfl,a1,a2,a3,ak,a4,a5,a6,a7,a8⟩:=hm2;refine⟨p,rfl,_,a1,_,rfl,_,g,rfl,LtK.isT a3,a7.ok G.wo.2.2,by walk_at "o",fun H3 e3=>?_⟩;refine⟨_,rfl,ite2 (fun h2=>hC _ _ ⟨.ref p,_,rfl,(e1.trans e2).trans e3,Ze4 (e3.sqt a1) (LEK.keep a2 e3.keepL) (LtK.keep a3 e3.keepL) a4 a5 a6 a7 (by walk_at "o") ak⟩) (fun h2=>hC _ _ ⟨r,_,rfl,(e1.trans e2).trans e3,hm.mono (e2.trans e3).keepL b2.1 b2.2 (Nat.le_refl _)⟩)⟩
 rintro σ2 H2 ⟨r2,x5,rfl,e2,hm2⟩;walk_at "1";exact q _ _ e2 hm2
theorem sc_bb0:FnScope ["_law_cell_here","_law_size_here","_law_given_here","_law_words_here","_law_term","_law_shape","_law_other_here","_law_here"] ["_law_cell_here","_law_size_here","_law_given_here","_law_words_here"] (Za7 (top 52)):=scm (by decide +kernel)
theorem Xt7 {k n:Nat} {f_bb0:Addr} {fd_bb0:FuncData} (F_bb0:Fun K "_law_used" "_law_used" (top 52) f_bb0 fd_bb0) (C__law_made:Cl P w K mg base k "_law_made" pq3 (Zd9 K 0 n 60)) (C__law_mix:Cl P w K mg base k "_law_mix" pq1 (Zh1)):Fk0 P w K mg base (k+1) f_bb0 fd_bb0 pq3 (Zd9 K 2 (n+1) 60):=by
 refine F_bb0.ok sc_bb0 (fun vs H Q E h=>?_) (fun cdv A outer s H vs Q E hr h=>?_)
 ·obtain⟨c,m,ga,wa,ws,gs,ts,rfl,_⟩:=h
  rfl
 obtain⟨c,m,ga,wa,ws,gs,ts,rfl,hc,lo,hn,h10,G,hl,q⟩:=h;obtain⟨d1,d2,d3,d4,d5,d6,d7⟩:=Zs6 m h10 lo;obtain⟨z1,z2,z3,z4⟩:=Zs2 m h10 lo;have lg:=Paired.length G.p
 refine⟨_,(Za3 (Zc4 (ptcM (Zd8) (Zb3 Zb8 (pvM 0) Za2) Za2)
  (Za3 (Zk5 (Zc0 C__law_made hr (Za0 (Zc0 C__law_mix hr (Za8 (pvM 0) (Zb5 Za2 Za1))) (Za0 (Zb3 Zg9 (pvM 1) Za2) (Za8 (pvM 2) (Za8 (pvM 3) Za1))))) (Zk6 rfl (Zd1 (Zc8 (i:=4) sc_bb0.nd rfl (Or.inl rfl)) (Zd1 (Zc8 (i:=5) sc_bb0.nd rfl (Or.inl rfl)) Zh6))))
 (Za6 (Zc4 ((Yd6 (ptcM (Zd8) (pxt (pvM 5) Za2) Za9) (Zt7 (Zg4 (Xf2 (Zm8 hr)) (pxt (pvM 5) Za2) (pvM 2) (by with_unfolding_all rfl))))).pt
  (Za6 (Zb1 (Zb4 (Zc1 (Zb4 (Zb5 Za9 (Za8 (pvM 4) (Zc1 (Zb4 (Zb5 Za9 (Za0 (Zn9 F.plainAttrs_list F.slot_list_index F.type_list_index (Ye4 (K:=K) rfl (Zm8 hr)) (pvM 2) (Zm2 (pxt (pvM 5) Za2) Za1)) Za1))) Za1)))) (Zm2 (pxt (pvM 5) Za2) Za1)))))
  Zb2)))
  Zb2)
 (Za3 (Zk5 (Zc0 C__law_made hr (Za0 (Zc0 C__law_mix hr (Za8 (pvM 0) (Zb5 Za2 Za1))) (Za0 (Zb3 Zc3 (pvM 1) Za2) (Za8 (pvM 2) (Za8 (pvM 3) Za1))))) (Zk6 rfl (Zd1 (Zc8 (i:=6) sc_bb0.nd rfl (Or.inl rfl)) (Zd1 (Zc8 (i:=7) sc_bb0.nd rfl (Or.inl rfl)) Zh6))))
 (Za3 (Zk5 (Zc0 C__law_made hr (Za0 (Zc0 C__law_mix hr (Za8 (pvM 0) (Zb5 Za2 Za1))) (Za0 (Zb3 Zc3 (pvM 1) Za2) (Za0 (Zb3 Zu0 (Zc7 (Za8 (pvM 7) Za1)) (pvM 2)) (Za8 (pvM 3) Za1))))) (Zk6 rfl (Zd1 (Zc8 (i:=4) sc_bb0.nd rfl (Or.inl rfl)) (Zd1 (Zc8 (i:=5) sc_bb0.nd rfl (Or.inl rfl)) Zh6))))
 (Za6 (Zb1 (Zb4 (Zc1 (Zb4 (Zb5 Za9 (Zc1 (Zb4 (Zb5 Za9 (Za8 (pvM 7) (Za8 (pvM 4) Za1)))) (Za8 (pvM 6) Za1)))) (Za8 (pvM 5) Za1)))))))),?_⟩
 refine sqt (fun σ' H'=>∃ x4 x5,σ'=[some (.int c),some (.int (m:Nat)),some (.ref ga),some (.ref wa),x4,x5,none,none]∧Same H H') ?_ ?_
 ·intro C hC
  walk_at "3";refine⟨by decide,ite2 (fun _=>?_) (fun _=>hC _ _ ⟨none,none,rfl,Same.refl _⟩)⟩;refine sqt (fun σ' H'=>∃ x y t g,σ'=[some (.int c),some (.int (m:Nat)),some (.ref ga),some (.ref wa),some x,some y,none,none]∧Same H H'∧LEK K H' x t∧LtK K H' y g∧HasK ts t g∧t.fine ws∧t.deep≤dB (m - 1)∧t.size≤sB (m - 1)∧g.inW ws∧g.parts≤60) ?_ ?_
  ·intro C' hC'
   walk_at "1";refine⟨_,_,rfl,by walk_at "o",by walk_at "o",_,m - 1,ga,wa,ws,gs,ts,by rw[show (m:Int) - 1=((m - 1:Nat):Int) by walk_at "o"],Zf0 _ _,by walk_at "o",by walk_at "o",by walk_at "o",G,by walk_at "o",fun r H1 e1 hm=>?_⟩;obtain⟨p,x,y,t,g,rfl,h1,h2,h3,hk,h4,h5,h6,h7,h8⟩:=hm;exact⟨p,rfl,_,h1,rfl,_,_,rfl,_,_,rfl,rfl,hC' _ _ ⟨x,y,t,g,rfl,e1,h2,h3,hk,h4,h5,h6,h7,h8⟩⟩
  rintro σ1 H1 ⟨x,y,t,g,rfl,e1,hx,hy,tk,tf,td,tz,gw,gp⟩;obtain⟨py,ys,rfl,hsy,hy0⟩:=Ya7 (LtK.isT hy);have G1:=G.keep e1;walk_at "1";refine⟨_,hsy,_,hy0,rfl,?_⟩
  by_cases ca:g.tagS="then"
  ·obtain⟨ga1,gb1,rfl⟩:=Zh9 (k:=.thn) ca
   obtain⟨p,u1,u2,e,hs,hu1,hu2⟩:=ltK_nd.mp hy;cases e;have gp':1+ga1.parts+gb1.parts≤60:=gp;rw[if_pos (by rfl)];have oks:∀ s∈ts,s.ok:=fun s hs=>(G.o s hs).1.ok G.wo.2.2;have dq:ga1.deep≤140:=Nat.le_trans (Zm5 ga1) (by walk_at "o");refine⟨_,.inl (.inl hs),_,rfl,ga1,LtK.isT hu1,_,SqL.of G1.g,ts,G1.pT,gw.1.ok G.wo.2.2,oks,dq,?_⟩;rw[if_neg Bool.false_ne_true]
   by_cases cm:ga1∈ts
   ·rw[if_pos (decide_eq_true cm)]
    refine⟨.inl ⟨rfl,_,SqL.of G1.g⟩,_,.inl (.inl hs),_,rfl,ga1,LtK.isT hu1,_,SqL.of G1.g,ts,G1.pT,gw.1.ok G.wo.2.2,oks,dq,cm,fun j hj=>⟨by decide,?_⟩⟩;intro p1 h_p1;generalize e_p1:upd H1 p1 (.tup [.str "at",.int (j:Nat)])=J1;have s1:=nw1 h_p1 e_p1;have q1:=nw2 (K:=K) e_p1;refine⟨by decide,?_⟩;intro p2 h_p2;generalize e_p2:upd J1 p2 (.tup [.str "use",x,.ref p1])=J2;have s2:=nw1 h_p2 e_p2;have q2:=nw2 (K:=K) e_p2;refine⟨_,(s1.trans s2).sqt (.inl (.inl hs)),_,rfl,by decide,?_⟩;intro p3 h_p3;generalize e_p3:upd J2 p3 (.tup [.ref p2,u2])=J3;have s3:=nw1 h_p3 e_p3;have q3:=nw2 (K:=K) e_p3;have s13:=(s1.trans s2).trans s3;exact q _ _ (e1.trans s13) (Ze4 (t:=.two .use t (.at j)) (g:=gb1) q3 (Zi6 (u:=.use) (s3.sqt q2) (LEK.keep hx s13.keepL) (Zq6 ((s2.trans s3).sqt q1))) (LtK.keep hu2 s13.keepL) ⟨tf,trivial⟩ (by show 1+max t.deep 1≤_;walk_at "o") (by show 1+t.size+1≤_;walk_at "o") gw.2 (by walk_at "o") ⟨_,tk,hj⟩)
   ·rw[if_neg (by simpa using cm)]
    exact hC _ _ ⟨_,_,rfl,e1⟩
  ·rw[if_neg (fun z=>ca (V.str.inj z))]
   exact hC _ _ ⟨_,_,rfl,e1⟩
 rintro σ1 H1 ⟨x4,x5,rfl,e1⟩;refine sqt (fun σ' H'=>∃ x y t g,σ'=[some (.int c),some (.int (m:Nat)),some (.ref ga),some (.ref wa),x4,x5,some x,some y]∧Same H H'∧LEK K H' x t∧LtK K H' y g∧HasK ts t g∧t.fine ws∧t.deep≤dB (m / 2)∧t.size≤sB (m / 2)∧g.inW ws∧g.parts≤60) ?_ ?_
 ·intro C' hC'
  walk_at "1";refine⟨_,_,rfl,by walk_at "o",by walk_at "o",⟨by decide,by decide⟩,_,m / 2,ga,wa,ws,gs,ts,rfl,Zf0 _ _,by walk_at "o",by walk_at "o",by walk_at "o",G.keep e1,by walk_at "o",fun r H2 e2 hm=>?_⟩;obtain⟨p,x,y,t,g,rfl,h1,h2,h3,hk,h4,h5,h6,h7,h8⟩:=hm;exact⟨p,rfl,_,h1,rfl,_,_,rfl,_,_,rfl,rfl,hC' _ _ ⟨x,y,t,g,rfl,e1.trans e2,h2,h3,hk,h4,h5,h6,h7,h8⟩⟩
 rintro σ2 H2 ⟨x6,x7,t6,g7,rfl,e2,hx6,hx7,t6k,t6f,t6d,t6z,g7w,g7p⟩;refine sqt (fun σ' H'=>∃ x y t g,σ'=[some (.int c),some (.int (m:Nat)),some (.ref ga),some (.ref wa),some x,some y,some x6,some x7]∧Same H2 H'∧LEK K H' x t∧LtK K H' y g∧HasK (g7 :: ts) t g∧t.fine ws∧t.deep≤dB (m / 2)∧t.size≤sB (m / 2)∧g.inW ws∧g.parts≤60) ?_ ?_
 ·intro C' hC'
  walk_at "1";have G2:=G.keep e2;refine⟨_,_,rfl,by walk_at "o",by walk_at "o",⟨by decide,by decide⟩,by decide,fun p1 h1=>?_⟩;have s1:=Za5 h1 (.lst [x7]);refine⟨_,Za4,gs,s1 _ _ G2.g,Nat.le_of_lt (Zd5 (by show 1+gs.length≤_;walk_at "o")),fun p2 h2=>?_⟩;have s2:=Za5 h2 (.lst ([x7]++gs));have k12:=(s1.trans s2).keepL (K:=K);refine⟨_,m / 2,p2,wa,ws,x7 :: gs,g7 :: ts,rfl,Zf0 _ _,by walk_at "o",by walk_at "o",by walk_at "o",⟨(s1.trans s2).seq G2.w,G.wo,Za4,.cons (LtK.keep hx7 k12) (Paired.mapP G2.p fun _ _ z=>LtK.keep z k12),fun s hs=>?_⟩,by rw[List.length_cons];walk_at "o",fun r H3 e3 hm=>?_⟩
  ·rcases List.mem_cons.mp hs with rfl | hs
   ·exact⟨g7w,g7p⟩
   ·exact G.o s hs
  obtain⟨p,x,y,t,g,rfl,h1,h2,h3,hk,h4,h5,h6,h7,h8⟩:=hm;exact⟨p,rfl,_,h1,rfl,_,_,rfl,_,_,rfl,rfl,hC' _ _ ⟨x,y,t,g,rfl,(s1.trans s2).trans e3,h2,h3,hk,h4,h5,h6,h7,h8⟩⟩
 rintro σ3 H3 ⟨x,y,t,g,rfl,e3,hx,hy,tk,tf,td,tz,gw,gp⟩;walk_at "1";refine⟨by decide,?_⟩;intro p1 h_p1;generalize e_p1:upd H3 p1 (.tup [.str "fun",x7,x])=J1;have s1:=nw1 h_p1 e_p1;have q1:=nw2 (K:=K) e_p1;refine⟨by decide,?_⟩;intro p2 h_p2;generalize e_p2:upd J1 p2 (.tup [.str "use",.ref p1,x6])=J2;have s2:=nw1 h_p2 e_p2;have q2:=nw2 (K:=K) e_p2;refine⟨by decide,?_⟩;intro p3 h_p3;generalize e_p3:upd J2 p3 (.tup [.ref p2,y])=J3;have s3:=nw1 h_p3 e_p3;have q3:=nw2 (K:=K) e_p3;have s13:=(s1.trans s2).trans s3;have e33:=e3.trans s13;refine q _ _ (e2.trans e33) (Ze4 (t:=.two .use (.fn g7 t) t6) (g:=g) q3 (Zi6 (u:=.use) (s3.sqt q2) (Yi8 ((s2.trans s3).sqt q1) (LtK.keep hx7 e33.keepL) (LEK.keep hx s13.keepL)) (LEK.keep hx6 e33.keepL)) (LtK.keep hy s13.keepL) ⟨⟨⟨g7w,g7p⟩,tf⟩,t6f⟩ (by show 1+max (1+t.deep) t6.deep≤_;walk_at "o") (by show 1+(1+t.size)+t6.size≤_;walk_at "o") gw gp ⟨_,⟨_,tk,rfl⟩,t6k⟩)
theorem Xv4 {k n:Nat} {f_ah0:Addr} {fd_ah0:FuncData} (F_ah0:Fun K "_law_any" "_law_any" (top 53) f_ah0 fd_ah0) (C__law_made:Cl P w K mg base k "_law_made" pq3 (Zd9 K 0 n 60)) (C__law_sided:Cl P w K mg base k "_law_sided" pq3 (Zd9 K 2 (n+1) 60)) (C__law_chosen:Cl P w K mg base k "_law_chosen" pq3 (Zd9 K 2 (n+1) 60)) (C__law_used:Cl P w K mg base k "_law_used" pq3 (Zd9 K 2 (n+1) 60)) (C__law_mix:Cl P w K mg base k "_law_mix" pq1 (Zh1)) (C__law_statement:Cl P w K mg base k "_law_statement" pq4 (Zg0 K 12)):Fk0 P w K mg base (k+1) f_ah0 fd_ah0 pq3 (Zd9 K 2 (n+1) 150):=by
 refine F_ah0.ok sc_ah0 (fun vs H Q E h=>?_) (fun cdv A outer s H vs Q E hr h=>?_)
 ·obtain⟨c,m,ga,wa,ws,gs,ts,rfl,_⟩:=h
  rfl
 obtain⟨c,m,ga,wa,ws,gs,ts,rfl,hc,lo,hn,h10,G,hl,q⟩:=h;obtain⟨d1,d2,d3,d4,d5,d6,d7⟩:=Zs6 m h10 lo;obtain⟨z1,z2,z3,z4⟩:=Zs2 m h10 lo;have lg:=Paired.length G.p
 have sd:0≤c / 8:=by walk_at "o"
 have qm:∀ (r:V) (H':Hp),Same H H'→MadeK K H' ts ws (dB m) (sB m) 60 r→Q r H':=fun r H' e hm=>q r H' e (hm.mono (KeepL.refl _) (Nat.le_refl _) (Nat.le_refl _) (by walk_at "o"))
 refine⟨_,(Za3 (pst 4 sc_ah0.nd (Zb3 Zb8 (pvM 0) Za2))
 (Za3 (pst 5 sc_ah0.nd (Zb3 Zc3 (pvM 0) Za2))
 (Za3 (Zc4 (ptcM (Zd8) (pvM 4) Za2)
  (Za3 (Zk5 (Zc0 C__law_made hr (Za0 (Zc0 C__law_mix hr (Za8 (pvM 5) (Zb5 Za2 Za1))) (Za0 (Zb3 Zc3 (pvM 1) Za2) (Za8 (pvM 2) (Za8 (pvM 3) Za1))))) (Zk6 rfl (Zd1 (Zc8 (i:=6) sc_ah0.nd rfl (Or.inl rfl)) (Zd1 (Zc8 (i:=7) sc_ah0.nd rfl (Or.inl rfl)) Zh6))))
 (Za3 (Zk5 (Zc0 C__law_made hr (Za0 (Zc0 C__law_mix hr (Za8 (pvM 5) (Zb5 Za2 Za1))) (Za0 (Zb3 Zc3 (pvM 1) Za2) (Za8 (pvM 2) (Za8 (pvM 3) Za1))))) (Zk6 rfl (Zd1 (Zc8 (i:=8) sc_ah0.nd rfl (Or.inl rfl)) (Zd1 (Zc8 (i:=9) sc_ah0.nd rfl (Or.inl rfl)) Zh6))))
 (Za6 (Zb1 (Zb4 (Zc1 (Zb4 (Zb5 Za9 (Za8 (pvM 6) (Za8 (pvM 8) Za1)))) (Zc1 (Zb4 (Zb5 Za9 (Za8 (pvM 7) (Za8 (pvM 9) Za1)))) Za1)))))))
  Zb2)
 (Za3 (Zc4 (ptcM (Zd8) (pvM 4) Za2)
  (Za6 (Zb1 (Zc0 C__law_sided hr (Za8 (pvM 5) (Za8 (pvM 1) (Za8 (pvM 2) (Za8 (pvM 3) Za1)))))))
  Zb2)
 (Za3 (Zc4 (ptcM (Zd8) (pvM 4) Za2)
  (Za3 (Zk5 (Zc0 C__law_made hr (Za0 (Zc0 C__law_mix hr (Za8 (pvM 5) (Zb5 Za2 Za1))) (Za0 (Zb3 Zg9 (pvM 1) Za2) (Za8 (pvM 2) (Za8 (pvM 3) Za1))))) (Zk6 rfl (Zd1 (Zc8 (i:=10) sc_ah0.nd rfl (Or.inl rfl)) (Zd1 (Zc8 (i:=7) sc_ah0.nd rfl (Or.inl rfl)) Zh6))))
 (Za3 (pst 9 sc_ah0.nd (Zc0 C__law_statement hr (Za0 (Zc0 C__law_mix hr (Za8 (pvM 5) (Zb5 Za2 Za1))) (Za0 (Zb3 Zd2 Za2 (Zb3 Zb8 (pvM 5) Za2)) (Za8 (pvM 3) Za1)))))
 (Za3 (Zc4 (ptcM (Zd8) (Zb3 Zb8 (Zb3 Zc3 (pvM 5) Za2) Za2) Za2)
  (Za6 (Zb1 (Zb4 (Zc1 (Zb4 (Zb5 Za9 (Za8 (pvM 10) (Za8 (pvM 9) Za1)))) (Zc1 (Zb4 (Zb5 Za9 (Za8 (pvM 7) (Za8 (pvM 9) Za1)))) Za1)))))
  Zb2)
 (Za6 (Zb1 (Zb4 (Zc1 (Zb4 (Zb5 Za9 (Za8 (pvM 10) (Za8 (pvM 9) Za1)))) (Zc1 (Zb4 (Zb5 Za9 (Za8 (pvM 9) (Za8 (pvM 7) Za1)))) Za1))))))))
  Zb2)
 (Za3 (Zc4 (ptcM (Zd8) (pvM 4) Za2)
  (Za6 (Zb1 (Zc0 C__law_chosen hr (Za8 (pvM 5) (Za8 (pvM 1) (Za8 (pvM 2) (Za8 (pvM 3) Za1)))))))
  Zb2)
 (Za3 (Zc4 ((Yd6 (ptcM (Zd8) (pvM 4) Za2) (Zt7 (Zg4 (Xf2 (Zm8 hr)) (Zb4 (Zb5 Za9 Za1)) (pvM 2) (by with_unfolding_all rfl))))).pt
  (Za3 (pst 11 sc_ah0.nd (Zc0 C__law_statement hr (Za0 (Zc0 C__law_mix hr (Za8 (pvM 5) (Zb5 Za2 Za1))) (Za0 (Zb3 Zd2 Za2 (Zb3 Zb8 (pvM 5) Za2)) (Za8 (pvM 3) Za1)))))
 (Za6 (Zb1 (Zb4 (Zc1 (Zb4 (Zb5 Za9 (Zc1 (Zb4 (Zb5 Za9 (Za0 (Zn9 F.plainAttrs_list F.slot_list_index F.type_list_index (Ye4 (K:=K) rfl (Zm8 hr)) (pvM 2) (Zc1 (Zb4 (Zb5 Za9 Za1)) Za1)) Za1))) (Za8 (pvM 11) Za1)))) (Za8 (pvM 11) Za1))))))
  Zb2)
 (Za3 (Zc4 (ptcM (Zr5) (pvM 4) Za2)
  (Za3 (pst 11 sc_ah0.nd (Zc0 C__law_statement hr (Za0 (Zc0 C__law_mix hr (Za8 (pvM 5) (Zb5 Za2 Za1))) (Za0 (Zb3 Zd2 Za2 (Zb3 Zb8 (pvM 5) Za2)) (Za8 (pvM 3) Za1)))))
 (Za3 (Zk5 (Zc0 C__law_made hr (Za0 (Zc0 C__law_mix hr (Za8 (pvM 5) (Zb5 Za2 Za1))) (Za0 (Zb3 Zg9 (pvM 1) Za2) (Za0 (Zb3 Zu0 (Zc7 (Za8 (pvM 11) Za1)) (pvM 2)) (Za8 (pvM 3) Za1))))) (Zk6 rfl (Zd1 (Zc8 (i:=10) sc_ah0.nd rfl (Or.inl rfl)) (Zd1 (Zc8 (i:=7) sc_ah0.nd rfl (Or.inl rfl)) Zh6))))
 (Za6 (Zb1 (Zb4 (Zc1 (Zb4 (Zb5 Za9 (Za8 (pvM 11) (Za8 (pvM 10) Za1)))) (Zc1 (Zb4 (Zb5 Za9 (Za8 (pvM 11) (Za8 (pvM 7) Za1)))) Za1)))))))
  Zb2)
 (Za6 (Zb1 (Zc0 C__law_used hr (Za8 (pvM 5) (Za8 (pvM 1) (Za8 (pvM 2) (Za8 (pvM 3) Za1))))))))))))))),?_⟩
 refine sqt (fun σ' H'=>σ'=[some (.int c),some (.int (m:Nat)),some (.ref ga),some (.ref wa),some (.int (c % 8)),none,none,none,none,none,none,none]∧H'=H) ?_ ?_
 ·intro C hC
  walk_at "1";exact⟨by decide,hC _ _ ⟨rfl,rfl⟩⟩
 rintro σ0 H0 ⟨rfl,rfl⟩;refine sqt (fun σ' H'=>σ'=[some (.int c),some (.int (m:Nat)),some (.ref ga),some (.ref wa),some (.int (c % 8)),some (.int (c / 8)),none,none,none,none,none,none]∧H'=H0) ?_ ?_
 ·intro C hC
  walk_at "1";exact⟨⟨by decide,by decide⟩,hC _ _ ⟨rfl,rfl⟩⟩
 rintro σ1 H1 ⟨rfl,rfl⟩;generalize c / 8=sdv at sd ⊢;generalize c % 8=fm;refine sqt (fun σ' H'=>σ'=[some (.int c),some (.int (m:Nat)),some (.ref ga),some (.ref wa),some (.int fm),some (.int sdv),none,none,none,none,none,none]∧H'=H1) ?_ ?_
 ·intro C hC
  walk_at "3";refine ite2 (fun _=>?_) (fun _=>hC _ _ ⟨rfl,rfl⟩);refine sqt (fun σ' H'=>∃ x y t g,σ'=[some (.int c),some (.int (m:Nat)),some (.ref ga),some (.ref wa),some (.int fm),some (.int sdv),some x,some y,none,none,none,none]∧Same H1 H'∧LEK K H' x t∧LtK K H' y g∧HasK ts t g∧t.fine ws∧t.deep≤dB (m / 2)∧t.size≤sB (m / 2)∧g.inW ws∧g.parts≤60) ?_ ?_
  ·intro C' hC'
   walk_at "1";refine⟨_,_,rfl,by walk_at "o",by walk_at "o",⟨by decide,by decide⟩,_,m / 2,ga,wa,ws,gs,ts,rfl,Zf0 _ _,by walk_at "o",by walk_at "o",by walk_at "o",G,by walk_at "o",fun r J ej hm=>?_⟩;obtain⟨p,x,y,t,g,rfl,h1,h2,h3,hk,h4,h5,h6,h7,h8⟩:=hm;exact⟨p,rfl,_,h1,rfl,_,_,rfl,_,_,rfl,rfl,hC' _ _ ⟨x,y,t,g,rfl,ej,h2,h3,hk,h4,h5,h6,h7,h8⟩⟩
  rintro σ2 H2 ⟨x,y,t,g,rfl,e2,hx,hy,tk,tf,td,tz,gw,gp⟩;refine sqt (fun σ' H'=>∃ x9 y9 t g,σ'=[some (.int c),some (.int (m:Nat)),some (.ref ga),some (.ref wa),some (.int fm),some (.int sdv),some x,some y,some x9,some y9,none,none]∧Same H2 H'∧LEK K H' x9 t∧LtK K H' y9 g∧HasK ts t g∧t.fine ws∧t.deep≤dB (m / 2)∧t.size≤sB (m / 2)∧g.inW ws∧g.parts≤60) ?_ ?_
  ·intro C' hC'
   walk_at "1";refine⟨_,_,rfl,by walk_at "o",by walk_at "o",⟨by decide,by decide⟩,_,m / 2,ga,wa,ws,gs,ts,rfl,Zf0 _ _,by walk_at "o",by walk_at "o",by walk_at "o",G.keep e2,by walk_at "o",fun r J ej hm=>?_⟩;obtain⟨p,x',y',t',g',rfl,h1,h2,h3,hk,h4,h5,h6,h7,h8⟩:=hm;exact⟨p,rfl,_,h1,rfl,_,_,rfl,_,_,rfl,rfl,hC' _ _ ⟨x',y',t',g',rfl,ej,h2,h3,hk,h4,h5,h6,h7,h8⟩⟩
  rintro σ3 H3 ⟨x',y',t',g',rfl,e3,hx',hy',tk',tf',td',tz',gw',gp'⟩;walk_at "1";refine⟨by decide,?_⟩;intro p1 h_p1;generalize e_p1:upd H3 p1 (.tup [.str "pair",x,x'])=J1;have s1:=nw1 h_p1 e_p1;have q1:=nw2 (K:=K) e_p1;refine⟨by decide,?_⟩;intro p2 h_p2;generalize e_p2:upd J1 p2 (.tup [.str "both",y,y'])=J2;have s2:=nw1 h_p2 e_p2;have q2:=nw3 e_p2;refine⟨by decide,?_⟩;intro p3 h_p3;generalize e_p3:upd J2 p3 (.tup [.ref p1,.ref p2])=J3;have s3:=nw1 h_p3 e_p3;have q3:=nw2 (K:=K) e_p3;have s13:=(s1.trans s2).trans s3;have e33:=e3.trans s13;exact q _ _ (e2.trans e33) (Ze4 (t:=.two .pair t t') (g:=.nd .both g g') q3 (Zi6 (u:=.pair) ((s2.trans s3).sqt q1) (LEK.keep hx e33.keepL) (LEK.keep hx' s13.keepL)) (ltK_nd.mpr ⟨p2,y,y',rfl,s3 _ _ q2,LtK.keep hy e33.keepL,LtK.keep hy' s13.keepL⟩) ⟨tf,tf'⟩ (by show 1+max t.deep t'.deep≤_;walk_at "o") (by show 1+t.size+t'.size≤_;walk_at "o") ⟨gw,gw'⟩ (by show 1+g.parts+g'.parts≤_;walk_at "o") ⟨_,_,tk,tk',rfl⟩)
 rintro σ2 H2 ⟨rfl,rfl⟩;refine sqt (fun σ' H'=>σ'=[some (.int c),some (.int (m:Nat)),some (.ref ga),some (.ref wa),some (.int fm),some (.int sdv),none,none,none,none,none,none]∧H'=H2) ?_ ?_
 ·intro C hC
  walk_at "1";refine ite2 (fun _=>?_) (fun _=>hC _ _ ⟨rfl,rfl⟩);exact⟨_,m,ga,wa,ws,gs,ts,rfl,sd,lo,hn,h10,G,hl,qm⟩
 rintro σ3 H3 ⟨rfl,rfl⟩;refine sqt (fun σ' H'=>σ'=[some (.int c),some (.int (m:Nat)),some (.ref ga),some (.ref wa),some (.int fm),some (.int sdv),none,none,none,none,none,none]∧H'=H3) ?_ ?_
 ·intro C hC
  walk_at "3";refine ite2 (fun _=>?_) (fun _=>hC _ _ ⟨rfl,rfl⟩);refine sqt (fun σ' H'=>∃ x y t g,σ'=[some (.int c),some (.int (m:Nat)),some (.ref ga),some (.ref wa),some (.int fm),some (.int sdv),none,some y,none,none,some x,none]∧Same H3 H'∧LEK K H' x t∧LtK K H' y g∧HasK ts t g∧t.fine ws∧t.deep≤dB (m - 1)∧t.size≤sB (m - 1)∧g.inW ws∧g.parts≤60) ?_ ?_
  ·intro C' hC'
   walk_at "1";refine⟨_,_,rfl,by walk_at "o",by walk_at "o",_,m - 1,ga,wa,ws,gs,ts,by rw[show (m:Int) - 1=((m - 1:Nat):Int) by walk_at "o"],Zf0 _ _,by walk_at "o",by walk_at "o",by walk_at "o",G,by walk_at "o",fun r J ej hm=>?_⟩;obtain⟨p,x,y,t,g,rfl,h1,h2,h3,hk,h4,h5,h6,h7,h8⟩:=hm;exact⟨p,rfl,_,h1,rfl,_,_,rfl,_,_,rfl,rfl,hC' _ _ ⟨x,y,t,g,rfl,ej,h2,h3,hk,h4,h5,h6,h7,h8⟩⟩
  rintro σ4 H4 ⟨x,y,t,g,rfl,e4,hx,hy,tk,tf,td,tz,gw,gp⟩;have a0:=Int.emod_nonneg sdv (show (4:Int)≠0 by decide);have a1:=Int.emod_lt_of_pos sdv (show (0:Int) < 4 by decide);walk_at "1";refine⟨_,_,rfl,by walk_at "o",by walk_at "o",by decide,Zh7 (Zf0 _ _) (by walk_at "o") (by walk_at "o") (e4.seq G.w) G.wo fun r H5 u e5 hu uw up=>?_⟩
  have pu:u.parts≤4:=by walk_at "o"
  refine⟨⟨by decide,by decide⟩,by decide,ite2 (fun _=>⟨by decide,?_⟩) (fun _=>⟨by decide,?_⟩)⟩
  ·intro p1 h_p1;generalize e_p1:upd H5 p1 (.tup [.str "first",x,r])=J1;have s1:=nw1 h_p1 e_p1;have q1:=nw2 (K:=K) e_p1
   refine⟨by decide,?_⟩;intro p2 h_p2;generalize e_p2:upd J1 p2 (.tup [.str "one",y,r])=J2;have s2:=nw1 h_p2 e_p2;have q2:=nw3 e_p2;refine⟨by decide,?_⟩;intro p3 h_p3;generalize e_p3:upd J2 p3 (.tup [.ref p1,.ref p2])=J3;have s3:=nw1 h_p3 e_p3;have q3:=nw2 (K:=K) e_p3;have s13:=(s1.trans s2).trans s3;have e53:=e5.trans s13;exact q _ _ (e4.trans e53) (Ze4 (t:=.one .first t [u]) (g:=.nd .one g u) q3 (Zo9 (u:=.first) ((s2.trans s3).sqt q1) (LEK.keep hx e53.keepL) (LtK.keep hu s13.keepL)) (ltK_nd.mpr ⟨p2,y,r,rfl,s3 _ _ q2,LtK.keep hy e53.keepL,LtK.keep hu s13.keepL⟩) ⟨tf,rfl,fun s hs=>by rw[List.mem_singleton.mp hs];exact⟨uw,by walk_at "o"⟩⟩ (by show 1+t.deep≤_;walk_at "o") (by show 1+t.size≤_;walk_at "o") ⟨gw,uw⟩ (by show 1+g.parts+u.parts≤_;walk_at "o") ⟨_,_,rfl,tk,rfl⟩)
  ·intro p1 h_p1;generalize e_p1:upd H5 p1 (.tup [.str "second",x,r])=J1;have s1:=nw1 h_p1 e_p1;have q1:=nw2 (K:=K) e_p1
   refine⟨by decide,?_⟩;intro p2 h_p2;generalize e_p2:upd J1 p2 (.tup [.str "one",r,y])=J2;have s2:=nw1 h_p2 e_p2;have q2:=nw3 e_p2;refine⟨by decide,?_⟩;intro p3 h_p3;generalize e_p3:upd J2 p3 (.tup [.ref p1,.ref p2])=J3;have s3:=nw1 h_p3 e_p3;have q3:=nw2 (K:=K) e_p3;have s13:=(s1.trans s2).trans s3;have e53:=e5.trans s13;exact q _ _ (e4.trans e53) (Ze4 (t:=.one .second t [u]) (g:=.nd .one u g) q3 (Zo9 (u:=.second) ((s2.trans s3).sqt q1) (LEK.keep hx e53.keepL) (LtK.keep hu s13.keepL)) (ltK_nd.mpr ⟨p2,r,y,rfl,s3 _ _ q2,LtK.keep hu s13.keepL,LtK.keep hy e53.keepL⟩) ⟨tf,rfl,fun s hs=>by rw[List.mem_singleton.mp hs];exact⟨uw,by walk_at "o"⟩⟩ (by show 1+t.deep≤_;walk_at "o") (by show 1+t.size≤_;walk_at "o") ⟨uw,gw⟩ (by show 1+u.parts+g.parts≤_;walk_at "o") ⟨_,_,rfl,tk,rfl⟩)
 rintro σ4 H4 ⟨rfl,rfl⟩;refine sqt (fun σ' H'=>σ'=[some (.int c),some (.int (m:Nat)),some (.ref ga),some (.ref wa),some (.int fm),some (.int sdv),none,none,none,none,none,none]∧H'=H4) ?_ ?_
 ·intro C hC
  walk_at "1";refine ite2 (fun _=>?_) (fun _=>hC _ _ ⟨rfl,rfl⟩);exact⟨_,m,ga,wa,ws,gs,ts,rfl,sd,lo,hn,h10,G,hl,qm⟩
 rintro σ5 H5 ⟨rfl,rfl⟩;refine sqt (fun σ' H'=>σ'=[some (.int c),some (.int (m:Nat)),some (.ref ga),some (.ref wa),some (.int fm),some (.int sdv),none,none,none,none,none,none]∧Same H5 H') ?_ ?_
 ·intro C hC
  walk_at "1";refine ite2 (fun _=>⟨by decide,?_⟩) (fun _=>hC _ _ ⟨rfl,Same.refl _⟩);intro p1 h_p1;generalize e_p1:upd H5 p1 (.tup [.str "low"])=J1;have s1:=nw1 h_p1 e_p1;have q1:=nw2 (K:=K) e_p1;have GJ:=G.keep s1;have oks:∀ s∈ts,s.ok:=fun s hs=>(G.o s hs).1.ok G.wo.2.2;have a0:=Int.emod_nonneg sdv (show (5:Int)≠0 by decide);have a1:=Int.emod_lt_of_pos sdv (show (0:Int) < 5 by decide);refine⟨.low,isT_low.mpr ⟨p1,rfl,q1⟩,_,SqL.of GJ.g,ts,GJ.pT,trivial,oks,by decide,?_⟩;rw[if_neg Bool.false_ne_true]
  by_cases cm:Tm.low∈ts
  ·rw[if_pos (decide_eq_true cm)]
   refine⟨_,_,rfl,by walk_at "o",by walk_at "o",by decide,Zh7 (Zf0 _ _) (by walk_at "o") (by walk_at "o") GJ.w G.wo fun r H6 u e6 hu uw up=>⟨.inl ⟨rfl,_,SqL.of (e6 _ _ GJ.g)⟩,by decide,?_⟩⟩;intro p2 h_p2;generalize e_p2:upd H6 p2 (.tup [.str "low"])=J2;have s2:=nw1 h_p2 e_p2;have q2:=nw2 (K:=K) e_p2;have G2:=(GJ.keep e6).keep s2;refine⟨.low,isT_low.mpr ⟨p2,rfl,q2⟩,_,SqL.of G2.g,ts,G2.pT,trivial,oks,by decide,cm,fun j hj=>⟨by decide,?_⟩⟩;intro p3 h_p3;generalize e_p3:upd J2 p3 (.tup [.str "at",.int (j:Nat)])=J3;have s3:=nw1 h_p3 e_p3;have q3:=nw2 (K:=K) e_p3;refine⟨by decide,?_⟩;intro p4 h_p4;generalize e_p4:upd J3 p4 (.tup [.str "off",.ref p3,r])=J4;have s4:=nw1 h_p4 e_p4;have q4:=nw2 (K:=K) e_p4;refine⟨by decide,?_⟩;intro p5 h_p5;generalize e_p5:upd J4 p5 (.tup [.ref p4,r])=J5;have s5:=nw1 h_p5 e_p5;have q5:=nw2 (K:=K) e_p5;have s35:=(s3.trans s4).trans s5;have s25:=s2.trans s35;exact q _ _ ((s1.trans e6).trans s25) (Ze4 (t:=.one .off (.at j) [u]) (g:=u) q5 (Zo9 (u:=.off) (s5.sqt q4) (Zq6 ((s4.trans s5).sqt q3)) (LtK.keep hu s25.keepL)) (LtK.keep hu s25.keepL) ⟨trivial,rfl,fun s hs=>by rw[List.mem_singleton.mp hs];exact⟨uw,by walk_at "o"⟩⟩ (by show 1+1≤_;walk_at "o") (by show 1+1≤_;walk_at "o") uw (by walk_at "o") ⟨rfl,hj⟩)
  ·rw[if_neg (by simpa using cm)]
   exact hC _ _ ⟨rfl,s1⟩
 rintro σ6 H6 ⟨rfl,e6⟩;have G6:=G.keep e6;refine sqt (fun σ' H'=>σ'=[some (.int c),some (.int (m:Nat)),some (.ref ga),some (.ref wa),some (.int fm),some (.int sdv),none,none,none,none,none,none]∧H'=H6) ?_ ?_
 ·intro C hC
  walk_at "3";refine ite2 (fun _=>?_) (fun _=>hC _ _ ⟨rfl,rfl⟩);have a0:=Int.emod_nonneg sdv (show (5:Int)≠0 by decide);have a1:=Int.emod_lt_of_pos sdv (show (0:Int) < 5 by decide);refine sqt (fun σ' H'=>∃ r u,σ'=[some (.int c),some (.int (m:Nat)),some (.ref ga),some (.ref wa),some (.int fm),some (.int sdv),none,none,none,none,none,some r]∧Same H6 H'∧LtK K H' r u∧u.inW ws∧u.parts≤5) ?_ ?_
  ·intro C' hC'
   walk_at "1";exact⟨_,_,rfl,by walk_at "o",by walk_at "o",by decide,Zh7 (Zf0 _ _) (by walk_at "o") (by walk_at "o") G6.w G.wo fun r J u ej hu uw up=>hC' _ _ ⟨r,u,rfl,ej,hu,uw,by walk_at "o"⟩⟩
  rintro σ7 H7 ⟨r,u,rfl,e7,hu,uw,up⟩;have G7:=G6.keep e7;refine sqt (fun σ' H'=>∃ x y t g,σ'=[some (.int c),some (.int (m:Nat)),some (.ref ga),some (.ref wa),some (.int fm),some (.int sdv),none,some y,none,none,some x,some r]∧Same H7 H'∧LEK K H' x t∧LtK K H' y g∧HasK (u :: ts) t g∧t.fine ws∧t.deep≤dB (m - 1)∧t.size≤sB (m - 1)∧g.inW ws∧g.parts≤60) ?_ ?_
  ·intro C' hC'
   walk_at "1";refine⟨_,_,rfl,by walk_at "o",by walk_at "o",by decide,fun p1 h1=>?_⟩;have s1:=Za5 h1 (.lst [r]);refine⟨_,Za4,gs,s1 _ _ G7.g,Nat.le_of_lt (Zd5 (by show 1+gs.length≤_;walk_at "o")),fun p2 h2=>?_⟩;have s2:=Za5 h2 (.lst ([r]++gs));have k12:=(s1.trans s2).keepL (K:=K);refine⟨_,m - 1,p2,wa,ws,r :: gs,u :: ts,by rw[show (m:Int) - 1=((m - 1:Nat):Int) by walk_at "o"],Zf0 _ _,by walk_at "o",by walk_at "o",by walk_at "o",⟨(s1.trans s2).seq G7.w,G.wo,Za4,.cons (LtK.keep hu k12) (Paired.mapP G7.p fun _ _ z=>LtK.keep z k12),fun s hs=>?_⟩,by rw[List.length_cons];walk_at "o",fun r2 J ej hm=>?_⟩
   ·rcases List.mem_cons.mp hs with rfl | hs
    ·exact⟨uw,by walk_at "o"⟩
    ·exact G.o s hs
   obtain⟨p,x,y,t,g,rfl,h1,h2,h3,hk,h4,h5,h6,h7,h8⟩:=hm;exact⟨p,rfl,_,h1,rfl,_,_,rfl,_,_,rfl,rfl,hC' _ _ ⟨x,y,t,g,rfl,(s1.trans s2).trans ej,h2,h3,hk,h4,h5,h6,h7,h8⟩⟩
  rintro σ8 H8 ⟨x,y,t,g,rfl,e8,hx,hy,tk,tf,td,tz,gw,gp⟩;walk_at "1";refine⟨by decide,?_⟩;intro p1 h_p1;generalize e_p1:upd H8 p1 (.tup [.str "fun",r,x])=J1;have s1:=nw1 h_p1 e_p1;have q1:=nw2 (K:=K) e_p1;refine⟨by decide,?_⟩;intro p2 h_p2;generalize e_p2:upd J1 p2 (.tup [.str "then",r,y])=J2;have s2:=nw1 h_p2 e_p2;have q2:=nw3 e_p2;refine⟨by decide,?_⟩;intro p3 h_p3;generalize e_p3:upd J2 p3 (.tup [.ref p1,.ref p2])=J3;have s3:=nw1 h_p3 e_p3;have q3:=nw2 (K:=K) e_p3;have s13:=(s1.trans s2).trans s3;have e83:=e8.trans s13;exact q _ _ ((e6.trans e7).trans e83) (Ze4 (t:=.fn u t) (g:=.nd .thn u g) q3 (Yi8 ((s2.trans s3).sqt q1) (LtK.keep hu e83.keepL) (LEK.keep hx s13.keepL)) (ltK_nd.mpr ⟨p2,r,y,rfl,s3 _ _ q2,LtK.keep hu e83.keepL,LtK.keep hy s13.keepL⟩) ⟨⟨uw,by walk_at "o"⟩,tf⟩ (by show 1+t.deep≤_;walk_at "o") (by show 1+t.size≤_;walk_at "o") ⟨uw,gw⟩ (by show 1+u.parts+g.parts≤_;walk_at "o") ⟨_,tk,rfl⟩)
 rintro σ7 H7 ⟨rfl,rfl⟩;walk_at "1";exact⟨_,m,ga,wa,ws,gs,ts,rfl,sd,lo,hn,h10,G6,hl,fun r H' e hm=>qm r H' (e6.trans e) hm⟩
theorem sc_ak0:FnScope ["_law_cell_here","_law_size_here","_law_given_here","_law_words_here","_law_term","_law_shape","_law_more","_law_base","_law_found","_law_ends","_law_one"] ["_law_cell_here","_law_size_here","_law_given_here","_law_words_here"] (Za7 (top 51)):=scm (by decide +kernel)
theorem at4 {a b c d:V} {i:Int} (h0:0≤i) (h1:i < 4):∃ x,atI [a,b,c,d] i=some x∧x∈[a,b,c,d]:=by
 have:i=0∨i=1∨i=2∨i=3:=by walk_at "o"
 rcases this with rfl | rfl | rfl | rfl
 ·exact⟨a,rfl,by simp⟩
 ·exact⟨b,rfl,by simp⟩
 ·exact⟨c,rfl,by simp⟩
 ·exact⟨d,rfl,by simp⟩
def EL (K:W.Frag) (Γ:List Tm) (g:Tm) (H:Hp) (ws:List Str) (d s:Nat) (u:V):Prop:=∃ t,LEK K H u t∧(∀ x,HasK (x :: Γ) t g)∧t.fine ws∧t.deep≤d∧t.size≤s
theorem EL.keep {K:W.Frag} {Γ:List Tm} {g:Tm} {H H':Hp} {ws:List Str} {d s:Nat} {u:V} (h:EL K Γ g H ws d s u) (k:KeepL K H H'):EL K Γ g H' ws d s u:=let ⟨t,h1,h2⟩:=h;⟨t,LEK.keep h1 k,h2⟩
theorem Xv1 {k n:Nat} {f_ak0:Addr} {fd_ak0:FuncData} (F_ak0:Fun K "_law_chosen" "_law_chosen" (top 51) f_ak0 fd_ak0) (C__law_made:Cl P w K mg base k "_law_made" pq3 (Zd9 K 0 n 60)) (C__law_lifted:Cl P w K mg base k "_law_lifted" pq13 (Zj2 K 30)) (C__law_mix:Cl P w K mg base k "_law_mix" pq1 (Zh1)) (C__law_leaf:Cl P w K mg base k "_law_leaf" pq5 (Zo7 K)):Fk0 P w K mg base (k+1) f_ak0 fd_ak0 pq3 (Zd9 K 2 (n+1) 60):=by
 refine F_ak0.ok sc_ak0 (fun vs H Q E h=>?_) (fun cdv A outer s H vs Q E hr h=>?_)
 ·obtain⟨c,m,ga,wa,ws,gs,ts,rfl,_⟩:=h
  rfl
 obtain⟨c,m,ga,wa,ws,gs,ts,rfl,hc,lo,hn,h10,G,hl,q⟩:=h;have c0:=Int.emod_nonneg c (show (2:Int)≠0 by decide);have c1:=Int.emod_lt_of_pos c (show (0:Int) < 2 by decide);obtain⟨d1,d2,d3,d4,d5,d6,d7⟩:=Zs6 m h10 lo;obtain⟨z1,z2,z3,z4⟩:=Zs2 m h10 lo;have d8:=Xd8 m h10
 refine⟨_,(Za3 (Zk5 (Zc0 C__law_made hr (Za0 (Zc0 C__law_mix hr (Za8 (pvM 0) (Zb5 Za2 Za1))) (Za0 (Zb3 Zc3 (pvM 1) Za2) (Za8 (pvM 2) (Za8 (pvM 3) Za1))))) (Zk6 rfl (Zd1 (Zc8 (i:=4) sc_ak0.nd rfl (Or.inl rfl)) (Zd1 (Zc8 (i:=5) sc_ak0.nd rfl (Or.inl rfl)) Zh6))))
 (Za3 (Zc4 (ptcM (Zz8) (pxt (pvM 5) Za2) Za9)
  (Za3 (pst 6 sc_ak0.nd (Zc0 C__law_leaf hr (Za0 (Zc0 C__law_mix hr (Za8 (pvM 0) (Zb5 Za2 Za1))) (Za8 (pvM 3) Za1))))
 (Za3 (pst 4 sc_ak0.nd (pxl (Zc7 (Zc1 (Zb4 (Zb5 Za9 (Za8 (pvM 4) (Za8 (pvM 6) Za1)))) (Zc1 (Zb4 (Zb5 Za9 (Za8 (pvM 4) (Za8 (pvM 6) Za1)))) Za1))) (Zb3 Zb8 (pvM 0) Za2)))
 (Za6 (pst 5 sc_ak0.nd (pxl (Zc7 (Zc1 (Zb4 (Zb5 Za9 (Za8 (pvM 5) (Za8 (pvM 6) Za1)))) (Zc1 (Zb4 (Zb5 Za9 (Za8 (pvM 6) (Za8 (pvM 5) Za1)))) Za1))) (Zb3 Zb8 (pvM 0) Za2))))))
  Zb2)
 (Za3 (Zk5 (Zc0 C__law_made hr (Za0 (Zc0 C__law_mix hr (Za8 (pvM 0) (Zb5 Za2 Za1))) (Za0 (Zb3 Zc3 (pvM 1) Za2) (Za8 (pvM 2) (Za8 (pvM 3) Za1))))) (Zk6 rfl (Zd1 (Zc8 (i:=7) sc_ak0.nd rfl (Or.inl rfl)) (Zd1 (Zc8 (i:=8) sc_ak0.nd rfl (Or.inl rfl)) Zh6))))
 (Za3 (pst 7 sc_ak0.nd (Zc0 C__law_lifted hr (Za8 (pvM 7) (Zb5 Za2 Za1))))
 (Za3 (pst 9 sc_ak0.nd (Zc7 (Za8 (pvM 7) (Zc1 (Zb4 (Zb5 Za9 (Zc1 (Zb4 (Zb5 Za9 (Zc1 (Zb4 (Zb5 Za9 (Zb5 Za2 Za1))) (Za8 (pvM 7) Za1)))) Za1))) (Zc1 (Zb4 (Zb5 Za9 (Zc1 (Zb4 (Zb5 Za9 (Za8 (pvM 7) (Zc1 (Zb4 (Zb5 Za9 (Zb5 Za2 Za1))) Za1)))) Za1))) Za1)))))
 (Za3 (Zf5 (Zn9 F.plainAttrs_list F.slot_list_append F.type_list_append Ze6 (pvM 9) (Zc1 (Zb4 (Zb5 Za9 (Zc1 (Zb4 (Zb5 Za9 (Za8 (pvM 8) (Zc1 (Zb4 (Zb5 Za9 (Zb5 Za2 Za1))) Za1)))) (Za8 (pvM 7) Za1)))) Za1)))
 (Za3 (pst 10 sc_ak0.nd (pxl (pvM 9) (Zb3 Zb8 (Zb3 Zc3 (pvM 0) Za2) Za2)))
 (Za3 (Zc4 (ptcM (Yl9 (Zm8 hr)) (pxt (pvM 5) Za2) (pvM 8))
  (Za6 (pst 10 sc_ak0.nd (Zb4 (Zb5 Za9 (Zb5 Za2 Za1)))))
  Zb2)
 (Za6 (Zb1 (Zb4 (Zc1 (Zb4 (Zb5 Za9 (Za8 (pvM 4) (Za8 (pvM 10) (Zm2 (pxl (pvM 9) (Zb3 Zb8 (Zb3 Zc3 (pvM 0) Za2) Za2)) Za1))))) (Za8 (pvM 8) Za1))))))))))))),?_⟩
 refine sqt (fun σ' H'=>∃ x y t g,σ'=[some (.int c),some (.int (m:Nat)),some (.ref ga),some (.ref wa),some x,some y,none,none,none,none,none]∧Same H H'∧LEK K H' x t∧LtK K H' y g∧HasK ts t g∧t.fine ws∧t.deep≤dB (m / 2)∧t.size≤sB (m / 2)∧g.inW ws∧g.parts≤60) ?_ ?_
 ·intro C hC
  walk_at "1";refine⟨_,_,rfl,by walk_at "o",by walk_at "o",⟨by decide,by decide⟩,_,m / 2,ga,wa,ws,gs,ts,rfl,Zf0 _ _,by walk_at "o",by walk_at "o",by walk_at "o",G,by walk_at "o",fun r H1 e1 hm=>?_⟩;obtain⟨p,x,y,t,g,rfl,h1,h2,h3,hk,h4,h5,h6,h7,h8⟩:=hm;exact⟨p,rfl,_,h1,rfl,_,_,rfl,_,_,rfl,rfl,hC _ _ ⟨x,y,t,g,rfl,e1,h2,h3,hk,h4,h5,h6,h7,h8⟩⟩
 rintro σ1 H1 ⟨x,y,t,g,rfl,e1,hx,hy,tk,tf,td,tz,gw,gp⟩;refine sqt (fun σ' H'=>∃ x y x6 t a b,σ'=[some (.int c),some (.int (m:Nat)),some (.ref ga),some (.ref wa),some x,some y,x6,none,none,none,none]∧Same H H'∧LEK K H' x t∧LtK K H' y (.nd .one a b)∧HasK ts t (.nd .one a b)∧t.fine ws∧t.deep≤1+dB (m / 2)∧t.size≤1+sB (m / 2)∧a.inW ws∧a.parts≤60) ?_ ?_
 ·intro C hC
  obtain⟨py,ys,rfl,hsy,hy0⟩:=Ya7 (LtK.isT hy);walk_at "3";refine⟨_,hsy,_,hy0,rfl,?_⟩
  by_cases ca:g.tagS="one"
  ·obtain⟨a,b,rfl⟩:=Zh9 (k:=.one) ca
   have gp':1+a.parts+b.parts≤60:=gp;rw[if_neg (by rw[ca];simp)];exact hC _ _ ⟨_,_,_,t,a,b,rfl,e1,hx,hy,tk,tf,by walk_at "o",by walk_at "o",gw.1,by walk_at "o"⟩
  ·rw[if_pos (by simpa using ca)]
   refine sqt (fun σ' H'=>∃ r u,σ'=[some (.int c),some (.int (m:Nat)),some (.ref ga),some (.ref wa),some x,some (.ref py),some r,none,none,none,none]∧Same H1 H'∧LtK K H' r u∧u.inW ws∧u.parts≤1) ?_ ?_
   ·intro C' hC'
    walk_at "1";exact⟨_,_,rfl,by walk_at "o",by walk_at "o",_,_,ws,rfl,e1.seq G.w,G.wo,fun r H' u e m=>hC' _ _ ⟨r,u,rfl,e,m.1,m.2.1,m.2.2.1⟩⟩
   rintro σ2 H2 ⟨r,u,rfl,e2,hu,uw,up⟩;refine sqt (fun σ' H'=>∃ x' t',σ'=[some (.int c),some (.int (m:Nat)),some (.ref ga),some (.ref wa),some x',some (.ref py),some r,none,none,none,none]∧Same H2 H'∧LEK K H' x' t'∧(c % 2=0→t'=.one .first t [u])∧(c % 2=1→t'=.one .second t [u])∧t'.fine ws∧t'.deep≤1+dB (m / 2)∧t'.size≤1+sB (m / 2)) ?_ ?_
   ·intro C' hC'
    walk_at "1";refine⟨by decide,?_⟩;intro p1 h_p1;generalize e_p1:upd H2 p1 (.tup [.str "first",x,r])=J1;have s1:=nw1 h_p1 e_p1;have q1:=nw2 (K:=K) e_p1;refine⟨by decide,?_⟩;intro p2 h_p2;generalize e_p2:upd J1 p2 (.tup [.str "second",x,r])=J2;have s2:=nw1 h_p2 e_p2;have q2:=nw2 (K:=K) e_p2;refine⟨by decide,fun p3 h3=>⟨by decide,_,SqL.of Za4,?_⟩⟩;have s3:=Za5 h3 (.lst [.ref p1,.ref p2]);generalize upd J2 p3 (.lst [.ref p1,.ref p2])=J3 at s3 ⊢;have s13:=(s1.trans s2).trans s3
    have fu:∀ s∈[u],okW ws s:=fun s hs=>by rw[List.mem_singleton.mp hs];exact⟨uw,by walk_at "o"⟩
    refine at2 c0 c1 (fun ec=>hC' _ _ ⟨_,.one .first t [u],rfl,s13,Zo9 (u:=.first) ((s2.trans s3).sqt q1) (LEK.keep hx (e2.trans s13).keepL) (LtK.keep hu s13.keepL),fun _=>rfl,fun z=>absurd (ec.symm.trans z) (by decide),⟨tf,rfl,fu⟩,by show 1+t.deep≤_;walk_at "o",by show 1+t.size≤_;walk_at "o"⟩)
     (fun ec=>hC' _ _ ⟨_,.one .second t [u],rfl,s13,Zo9 (u:=.second) (s3.sqt q2) (LEK.keep hx (e2.trans s13).keepL) (LtK.keep hu s13.keepL),fun z=>absurd (ec.symm.trans z) (by decide),fun _=>rfl,⟨tf,rfl,fu⟩,by show 1+t.deep≤_;walk_at "o",by show 1+t.size≤_;walk_at "o"⟩)
   rintro σ3 H3 ⟨x',t',rfl,e3,hx',k0',k1',tf',td',tz'⟩;walk_at "1";refine⟨by decide,?_⟩;intro p1 h_p1;generalize e_p1:upd H3 p1 (.tup [.str "one",.ref py,r])=J1;have s1:=nw1 h_p1 e_p1;have q1:=nw3 e_p1;refine⟨by decide,?_⟩;intro p2 h_p2;generalize e_p2:upd J1 p2 (.tup [.str "one",r,.ref py])=J2;have s2:=nw1 h_p2 e_p2;have q2:=nw3 e_p2;refine⟨by decide,fun p3 h3=>⟨by decide,_,SqL.of Za4,?_⟩⟩;have s3:=Za5 h3 (.lst [.ref p1,.ref p2]);generalize upd J2 p3 (.lst [.ref p1,.ref p2])=J3 at s3 ⊢;have s13:=(s1.trans s2).trans s3;have e33:=e3.trans s13;have e23:=e2.trans e33;refine at2 c0 c1 (fun ec=>hC _ _ ⟨x',_,_,t',g,u,rfl,e1.trans e23,LEK.keep hx' s13.keepL,ltK_nd.mpr ⟨p1,.ref py,r,rfl,(s2.trans s3) _ _ q1,LtK.keep hy e23.keepL,LtK.keep hu e33.keepL⟩,by rw[k0' ec];exact⟨_,_,rfl,tk,rfl⟩,tf',td',tz',gw,by walk_at "o"⟩)
    (fun ec=>hC _ _ ⟨x',_,_,t',u,g,rfl,e1.trans e23,LEK.keep hx' s13.keepL,ltK_nd.mpr ⟨p2,r,.ref py,rfl,s3 _ _ q2,LtK.keep hu e33.keepL,LtK.keep hy e23.keepL⟩,by rw[k1' ec];exact⟨_,_,rfl,tk,rfl⟩,tf',td',tz',uw,by walk_at "o"⟩)
 rintro σ2 H2 ⟨x4,y5,x6,t4,a5,b5,rfl,e2,hx4,hy5,t4k,t4f,t4d,t4z,a5w,a5p⟩;refine sqt (fun σ' H'=>∃ x y t g,σ'=[some (.int c),some (.int (m:Nat)),some (.ref ga),some (.ref wa),some x4,some y5,x6,some x,some y,none,none]∧Same H2 H'∧LEK K H' x t∧LtK K H' y g∧HasK ts t g∧t.fine ws∧t.deep≤dB (m / 3)∧t.size≤sB (m / 3)∧g.inW ws∧g.parts≤60) ?_ ?_
 ·intro C hC
  walk_at "1";refine⟨_,_,rfl,by walk_at "o",by walk_at "o",⟨by decide,by decide⟩,_,m / 3,ga,wa,ws,gs,ts,rfl,Zf0 _ _,by walk_at "o",by walk_at "o",by walk_at "o",G.keep e2,by walk_at "o",fun r H1 e1 hm=>?_⟩;obtain⟨p,x,y,t,g,rfl,h1,h2,h3,hk,h4,h5,h6,h7,h8⟩:=hm;exact⟨p,rfl,_,h1,rfl,_,_,rfl,_,_,rfl,rfl,hC _ _ ⟨x,y,t,g,rfl,e1,h2,h3,hk,h4,h5,h6,h7,h8⟩⟩
 rintro σ3 H3 ⟨x7,y8,t7,g8,rfl,e3,hx7,hy8,t7k,t7f,t7d,t7z,g8w,g8p⟩;refine sqt (fun σ' H'=>∃ x t,σ'=[some (.int c),some (.int (m:Nat)),some (.ref ga),some (.ref wa),some x4,some y5,x6,some x,some y8,none,none]∧Same H3 H'∧LEK K H' x t∧(∀ z,HasK (z :: ts) t g8)∧t.fine ws∧t.deep≤dB (m / 3)∧t.size≤sB (m / 3)) ?_ ?_
 ·intro C hC
  walk_at "1";exact⟨_,t7,0,ws,rfl,hx7,t7f,by walk_at "o",fun r H' e hr'=>hC _ _ ⟨r,_,rfl,e,hr',fun z=>Yp0 t7k,Zh4 t7f,by rw[Zh5];exact t7d,by rw[Zh3];exact t7z⟩⟩
 rintro σ4 H4 ⟨x8,t8,rfl,e4,hx8,t8k,t8f,t8d,t8z⟩;have e04:=e2.trans (e3.trans e4);refine sqt (fun σ' H'=>∃ le u1 u2 u3,σ'=[some (.int c),some (.int (m:Nat)),some (.ref ga),some (.ref wa),some x4,some y5,x6,some x8,some y8,some (.ref le),none]∧Same H4 H'∧H4 le=none∧H' le=some (.lst [u1,u2,u3])∧∀ u∈[u1,u2,u3],EL K ts g8 H' ws (2+dB (m / 3)) (3+sB (m / 3)) u) ?_ ?_
 ·intro C hC
  walk_at "1";refine⟨by decide,?_⟩;intro p1 h_p1;generalize e_p1:upd H4 p1 (.tup [.str "at",.int 0])=J1;have s1:=nw1 h_p1 e_p1;have q1:=nw2 (K:=K) e_p1;refine⟨by decide,?_⟩;intro p2 h_p2;generalize e_p2:upd J1 p2 (.tup [.str "pair",.ref p1,x8])=J2;have s2:=nw1 h_p2 e_p2;have q2:=nw2 (K:=K) e_p2;refine⟨by decide,?_⟩;intro p3 h_p3;generalize e_p3:upd J2 p3 (.tup [.str "right",.ref p2])=J3;have s3:=nw1 h_p3 e_p3;have q3:=nw2 (K:=K) e_p3;refine⟨by decide,?_⟩;intro p4 h_p4;generalize e_p4:upd J3 p4 (.tup [.str "at",.int 0])=J4;have s4:=nw1 h_p4 e_p4;have q4:=nw2 (K:=K) e_p4;refine⟨by decide,?_⟩;intro p5 h_p5;generalize e_p5:upd J4 p5 (.tup [.str "pair",x8,.ref p4])=J5;have s5:=nw1 h_p5 e_p5;have q5:=nw2 (K:=K) e_p5;refine⟨by decide,?_⟩;intro p6 h_p6;generalize e_p6:upd J5 p6 (.tup [.str "left",.ref p5])=J6;have s6:=nw1 h_p6 e_p6;have q6:=nw2 (K:=K) e_p6;refine⟨by decide,fun p7 h7=>?_⟩;have s7:=Za5 h7 (.lst [x8,.ref p3,.ref p6]);have sA:=((((s1.trans s2).trans s3).trans s4).trans s5).trans s6;have f7:H4 p7=none:=sA.free h7;have l7:upd J6 p7 (.lst [x8,.ref p3,.ref p6]) p7=some (.lst [x8,.ref p3,.ref p6]):=Za4;generalize upd J6 p7 (.lst [x8,.ref p3,.ref p6])=J7 at s7 l7 ⊢;have s67:=s6.trans s7;have s57:=s5.trans s67;have s47:=s4.trans s57;have s37:=s3.trans s47;have s27:=s2.trans s37;have s17:=s1.trans s27;have x87:=LEK.keep hx8 s17.keepL;refine hC _ _ ⟨p7,x8,.ref p3,.ref p6,rfl,s17,f7,l7,fun u hu=>?_⟩;rcases List.mem_cons.mp hu with rfl | hu
  ·exact⟨t8,x87,t8k,t8f,by walk_at "o",by walk_at "o"⟩
  rcases List.mem_cons.mp hu with rfl | hu
  ·exact⟨.one .right (.two .pair (.at 0) t8) [],Zm4 (u:=.right) (s47.sqt q3) (Zi6 (u:=.pair) (s37.sqt q2) (Zq6 (k:=0) (s27.sqt q1)) x87),fun z=>⟨_,_,_,rfl,t8k z,rfl⟩,⟨⟨trivial,t8f⟩,rfl,fun _ h=>nomatch h⟩,by show 1+(1+max 1 t8.deep)≤_;walk_at "o",by show 1+(1+1+t8.size)≤_;walk_at "o"⟩
  ·rw[List.mem_singleton.mp hu]
   exact⟨.one .left (.two .pair t8 (.at 0)) [],Zm4 (u:=.left) (s7.sqt q6) (Zi6 (u:=.pair) (s67.sqt q5) x87 (Zq6 (k:=0) (s57.sqt q4))),fun z=>⟨_,_,_,t8k z,rfl,rfl⟩,⟨⟨t8f,trivial⟩,rfl,fun _ h=>nomatch h⟩,by show 1+(1+max t8.deep 1)≤_;walk_at "o",by show 1+(1+t8.size+1)≤_;walk_at "o"⟩
 rintro σ5 H5 ⟨le,u1,u2,u3,rfl,e5,f5,h5,hE⟩;refine sqt (fun σ' H'=>∃ u4,σ'=[some (.int c),some (.int (m:Nat)),some (.ref ga),some (.ref wa),some x4,some y5,x6,some x8,some y8,some (.ref le),none]∧Same H4 H'∧H' le=some (.lst [u1,u2,u3,u4])∧∀ u∈[u1,u2,u3,u4],EL K ts g8 H' ws (2+dB (m / 3)) (3+sB (m / 3)) u) ?_ ?_
 ·intro C hC
  walk_at "1";refine⟨.inl ⟨rfl,_,SqL.of h5⟩,by decide,?_⟩;intro p1 h_p1;generalize e_p1:upd H5 p1 (.tup [.str "at",.int 0])=J1;have s1:=nw1 h_p1 e_p1;have q1:=nw2 (K:=K) e_p1;refine⟨by decide,?_⟩;intro p2 h_p2;generalize e_p2:upd J1 p2 (.tup [.str "fun",y8,.ref p1])=J2;have s2:=nw1 h_p2 e_p2;have q2:=nw2 (K:=K) e_p2;refine⟨by decide,?_⟩;intro p3 h_p3;generalize e_p3:upd J2 p3 (.tup [.str "use",.ref p2,x8])=J3;have s3:=nw1 h_p3 e_p3;have q3:=nw2 (K:=K) e_p3;have s13:=(s1.trans s2).trans s3;have h53:=s13 _ _ h5;have kl:=Yf4 (K:=K) (o:=.lst ([u1,u2,u3]++[.ref p3])) h53;have wr:=(e5.trans s13).write (o:=.lst ([u1,u2,u3]++[.ref p3])) f5;refine⟨_,h53,by show 3 < sizeLine;decide,hC _ _ ⟨.ref p3,rfl,wr,Za4,fun u hu=>?_⟩⟩;have k8:=(wr.keepL (K:=K));have hu:u∈[u1,u2,u3]++[V.ref p3]:=hu;rcases List.mem_append.mp hu with hu | hu
  ·exact (hE u hu).keep (s13.keepL.trans kl)
  ·rw[List.mem_singleton.mp hu]
   exact⟨.two .use (.fn g8 (.at 0)) t8,Zi6 (u:=.use) (kl.k _ _ q3) (Yi8 (kl.k _ _ (s3.sqt q2)) (LtK.keep hy8 (e4.keepL.trans k8)) (Zq6 (k:=0) (kl.k _ _ ((s2.trans s3).sqt q1)))) (LEK.keep hx8 k8),fun z=>⟨_,⟨_,rfl,rfl⟩,t8k z⟩,⟨⟨⟨g8w,g8p⟩,trivial⟩,t8f⟩,by show 1+max (1+1) t8.deep≤_;walk_at "o",by show 1+(1+1)+t8.size≤_;walk_at "o"⟩
 rintro σ6 H6 ⟨u4,rfl,e6,h6,hE6⟩;have b0:=Int.emod_nonneg (c / 2) (show (4:Int)≠0 by decide);have b1:=Int.emod_lt_of_pos (c / 2) (show (0:Int) < 4 by decide);have b2:=Int.emod_nonneg (c / 8) (show (4:Int)≠0 by decide);have b3:=Int.emod_lt_of_pos (c / 8) (show (0:Int) < 4 by decide);refine sqt (fun σ' H'=>∃ v,σ'=[some (.int c),some (.int (m:Nat)),some (.ref ga),some (.ref wa),some x4,some y5,x6,some x8,some y8,some (.ref le),some v]∧H'=H6∧EL K ts g8 H6 ws (2+dB (m / 3)) (3+sB (m / 3)) v) ?_ ?_
 ·intro C hC
  walk_at "1";obtain⟨v,hv,hm⟩:=at4 (a:=u1) (b:=u2) (c:=u3) (d:=u4) b0 b1;exact⟨⟨by decide,by decide⟩,by decide,_,SqL.of h6,v,hv,hC _ _ ⟨v,rfl,rfl,hE6 v hm⟩⟩
 rintro σ7 H7 ⟨v,rfl,rfl,hv⟩;have e47:=e6;refine sqt (fun σ' H'=>∃ v t,σ'=[some (.int c),some (.int (m:Nat)),some (.ref ga),some (.ref wa),some x4,some y5,x6,some x8,some y8,some (.ref le),some v]∧Same H7 H'∧LEK K H' v t∧HasK (a5 :: ts) t g8∧t.fine ws∧t.deep≤2+dB (m / 3)∧t.size≤3+sB (m / 3)) ?_ ?_
 ·intro C hC
  obtain⟨p5,v1,v2,rfl,hs5,hv1,hv2⟩:=ltK_nd.mp (LtK.keep hy5 (e3.trans (e4.trans e6)).keepL);walk_at "1";refine⟨_,.inl (.inl hs5),v1,rfl,a5.data,LtK.isT hv1,g8.data,LtK.isT (LtK.keep hy8 (e4.trans e6).keepL),a5.lay (a5w.ok G.wo.2.2),g8.lay (g8w.ok G.wo.2.2),?_,?_⟩
  ·rw[Tm.depth,Tm.depth]
   have:=Zm5 a5;walk_at "o"
  rw[if_neg Bool.false_ne_true];refine ite2 (fun ce=>⟨by decide,?_⟩) (fun _=>let ⟨t,z1,z2,z3⟩:=hv;hC _ _ ⟨v,t,rfl,Same.refl _,z1,z2 _,z3⟩);intro p1 h_p1;generalize e_p1:upd H7 p1 (.tup [.str "at",.int 0])=J1;have s1:=nw1 h_p1 e_p1;have q1:=nw2 (K:=K) e_p1;exact hC _ _ ⟨.ref p1,.at 0,rfl,s1,Zq6 (k:=0) q1,congrArg some (of_decide_eq_true ((Tm.eqv _ _).symm.trans ce)),trivial,by show 1≤_;walk_at "o",by show 1≤_;walk_at "o"⟩
 rintro σ8 H8 ⟨v,t9,rfl,e8,hv9,t9k,t9f,t9d,t9z⟩;obtain⟨v2,hv2,hm2⟩:=at4 (a:=u1) (b:=u2) (c:=u3) (d:=u4) b2 b3;obtain⟨ta,ha,tak,taf,tad,taz⟩:=(hE6 v2 hm2).keep e8.keepL;walk_at "1";refine⟨⟨by decide,by decide⟩,by decide,_,SqL.of (e8 _ _ h6),v2,hv2,by decide,?_⟩;intro p1 h_p1;generalize e_p1:upd H8 p1 (.tup [.str "cases",x4,v,v2])=J1;have s1:=nw1 h_p1 e_p1;have q1:=nw2 (K:=K) e_p1;refine⟨by decide,?_⟩;intro p2 h_p2;generalize e_p2:upd J1 p2 (.tup [.ref p1,y8])=J2;have s2:=nw1 h_p2 e_p2;have q2:=nw2 (K:=K) e_p2;have s12:=s1.trans s2;have e82:=e8.trans s12;have e62:=(e4.trans e6).trans e82;refine q _ _ (e2.trans (e3.trans e62)) (Ze4 (t:=.cs t4 t9 ta) (g:=g8) q2 (leK_csV.mpr ⟨p1,x4,v,v2,rfl,s2.sqt q1,LEK.keep hx4 (e3.trans e62).keepL,LEK.keep hv9 s12.keepL,LEK.keep ha s12.keepL⟩) (LtK.keep hy8 e62.keepL) ⟨t4f,t9f,taf⟩ (by show 1+max t4.deep (max t9.deep ta.deep)≤_;walk_at "o") (by show 1+t4.size+t9.size+ta.size≤_;walk_at "o") g8w g8p ⟨_,_,t4k,t9k,tak _⟩)
theorem sc_ar0:FnScope ["_law_term","_law_own","_law_rest"] ["_law_term","_law_own"] (Za7 (top 47)):=scm (by decide +kernel)
theorem Xu5 {k n:Nat} {f_ar0:Addr} {fd_ar0:FuncData} (F_ar0:Fun K "_law_lifted" "_law_lifted" (top 47) f_ar0 fd_ar0) (G_ar0:Fk0 P w K mg base k f_ar0 fd_ar0 pq13 (Zj2 K n)) (m_ar0:MgI mg "_law_lifted" f_ar0) (k_ar0:KpI K f_ar0) (b_ar0:Binds K fd_ar0 pq13 []) (m_int:mg "int"=none):Fk0 P w K mg base (k+1) f_ar0 fd_ar0 pq13 (Zj2 K (n+1)):=by
 refine F_ar0.ok sc_ar0 (fun vs H Q E h=>?_) (fun cdv A outer s H vs Q E hr h=>?_)
 ·obtain⟨v,t,f,ws,rfl,_⟩:=h
  rfl
 obtain⟨v,t,f,ws,rfl,hT,hf,hd,q⟩:=h
 refine⟨_,(Za3 (Zc4 (ptcM (Zd8) (pxt (pvM 0) Za2) Za9)
  (Za6 (Zb1 (pxl (Zc7 (Za0 (pvM 0) (Za0 (Zb4 (Za0 Za9 (Za0 (Zb3 Zd2 (pxt (pvM 0) Za2) Za2) Za1))) Za1))) (Zh2 Zi3 (by exact rfl) m_int Zk4 (Za0 (Zi8 (Xf4) (pxt (pvM 0) Za2) (pvM 1) (Zk7 _)) Za1)))))
  Zb2)
 (Za3 (Zc4 (ptcM (Zd8) (pxt (pvM 0) Za2) Za9)
  (Za6 (Zb1 (Zb4 (Za0 Za9 (Za0 (pxt (pvM 0) Za2) (Za0 (pcl G_ar0 hr m_ar0 k_ar0 b_ar0 (Za0 (pxt (pvM 0) Za2) (Za0 (Zb3 Zd2 (pvM 1) Za2) Za1))) Za1))))))
  Zb2)
 (Za3 (Zc4 (ptcM (Zd8) (pxt (pvM 0) Za2) Za9)
  (Za3 (pst 2 sc_ar0.nd (Zb4 (Za0 (pcl G_ar0 hr m_ar0 k_ar0 b_ar0 (Za0 (pxt (pvM 0) Za2) (Za0 (Zb3 Zd2 (pvM 1) Za2) Za1))) (Za0 (pcl G_ar0 hr m_ar0 k_ar0 b_ar0 (Za0 (pxt (pvM 0) Za2) (Za0 (Zb3 Zd2 (pvM 1) Za2) Za1))) Za1))))
 (Za6 (Zb1 (Zb3 Zz9 (Zb4 (Za0 Za9 (Za0 (pcl G_ar0 hr m_ar0 k_ar0 b_ar0 (Za0 (pxt (pvM 0) Za2) (Za0 (pvM 1) Za1))) Za1))) (pvM 2)))))
  Zb2)
 (Za3 (Zc4 (Zg4 (Zg5) (pxt (pvM 0) Za2) (Zb4 (Za0 Za9 (Za0 Za9 Za1))) (by with_unfolding_all rfl))
  (Za6 (Zb1 (Zb4 (Za0 (pxt (pvM 0) Za2) (Za0 (pcl G_ar0 hr m_ar0 k_ar0 b_ar0 (Za0 (pxt (pvM 0) Za2) (Za0 (pvM 1) Za1))) (Za0 (pcl G_ar0 hr m_ar0 k_ar0 b_ar0 (Za0 (pxt (pvM 0) Za2) (Za0 (pvM 1) Za1))) Za1))))))
  Zb2)
 (Za6 (Zb1 (Zb3 Zz9 (Zb4 (Za0 (pxt (pvM 0) Za2) (Za0 (pcl G_ar0 hr m_ar0 k_ar0 b_ar0 (Za0 (pxt (pvM 0) Za2) (Za0 (pvM 1) Za1))) Za1))) (Zj8 Ys6 (pvM 0) (Zn7 Za2) Zn8)))))))),?_⟩
 walk_at "1"
 cases t with
 | «at» k0 =>
  obtain⟨p,rfl,hs⟩:=leK_atV.mp hT;refine⟨p,rfl,_,hs,_,rfl,rfl,?_⟩;rw[if_pos (by rfl)];refine⟨p,rfl,_,hs,_,rfl,_,rfl,by decide,fun p2 h2=>⟨by decide,fun p3 h3=>?_⟩⟩;have sA:=(Za5 h2 (.tup [.str "at",.int ((k0:Int)+1)])).trans (Za5 h3 (.lst [.ref p,.ref p2]));refine⟨p,rfl,_,sA.sqt hs,_,rfl,_,rfl,.inr ⟨_,SqL.of Za4,?_⟩⟩
  by_cases c:f≤k0
  ·rw[if_pos (by walk_at "o")]
   refine⟨_,rfl,q _ _ sA ?_⟩;show LEK K _ _ (.at (if f≤k0 then k0+1 else k0));rw[if_pos c];exact leK_atV.mpr ⟨p2,rfl,(Zf4 h3).k _ _ (.inl (.inl Za4))⟩
  ·rw[if_neg (by walk_at "o")]
   refine⟨_,rfl,q _ _ sA ?_⟩;show LEK K _ _ (.at (if f≤k0 then k0+1 else k0));rw[if_neg c];exact LEK.keep hT sA.keepL
 | one u a ss =>
  obtain⟨p,x,rs,rfl,hs,hx,hrs⟩:=leK_oneV.mp hT
  have hda:a.deep≤n:=by have:(Te.one u a ss).deep=1+a.deep:=rfl;walk_at "o"
  refine⟨p,rfl,_,hs,_,Zd0 (j:=0) rfl,rfl,?_⟩;rw[if_neg (by cases u<;>decide)];refine⟨p,rfl,_,hs,_,Zd0 (j:=0) rfl,rfl,?_⟩;rw[if_neg (by cases u<;>decide)];refine⟨p,rfl,_,hs,_,Zd0 (j:=0) rfl,rfl,?_⟩;rw[if_neg (by cases u<;>decide)];refine⟨p,rfl,_,hs,_,Zd0 (j:=0) rfl,by decide,fun p2 h2=>⟨_,.inr (.inl (.inl Za4)),rfl,rfl,?_⟩⟩;have s2:=Za5 h2 (.tup [.str "pair",.str "use"]);rw[if_neg Bool.false_ne_true,if_neg (by cases u<;>decide)];refine⟨p,rfl,_,s2.sqt hs,_,Zd0 (j:=0) rfl,p,rfl,_,s2.sqt hs,_,Zd0 (j:=1) rfl,x,a,f,ws,rfl,LEK.keep hx s2.keepL,hf.1,hda,fun r1 H1 e1 hr1=>?_⟩
  have lr:rs.length≤1:=by
   rw[Paired.length hrs,hf.2.1]
   cases u<;>decide
  refine⟨by decide,fun p3 h3=>⟨p,rfl,_,(Za5 h3 _).sqt (e1.sqt (s2.sqt hs)),Xe2 _ _ _,fun p4 h4=>?_⟩⟩;rw[cut2];have s3:=Za5 h3 (.tup [.str u.str,r1]);have s4:=Za5 h4 (.tup rs);have sA:=((s2.trans e1).trans s3).trans s4;refine⟨_,s4.sqt (.inl (.inl Za4)),_,.inl (.inl Za4),by simp,Nat.le_of_lt (Zd5 (by show 2+rs.length≤_;walk_at "o")),fun z=>q _ _ sA ?_,fun _ p5 h5=>q _ _ (sA.trans (Za5 h5 _)) ?_⟩
  ·have hss:ss=[]:=by
    have:=Paired.length hrs;rw[z] at this;exact List.length_eq_zero_iff.mp this.symm
   subst hss;exact leK_oneV.mpr ⟨p3,r1,[],rfl,s4.sqt (.inl (.inl Za4)),LEK.keep hr1 (s3.trans s4).keepL,.nil⟩
  ·have k5:=Zf4 (K:=K) (o:=.tup ([.str u.str,r1]++rs)) h5
   exact leK_oneV.mpr ⟨p5,r1,rs,rfl,.inl (.inl Za4),LEK.keep hr1 ((s3.trans s4).keepL.trans k5),Xb1 (sA.keepL.trans k5) hrs⟩
 | two u a b =>
  obtain⟨p,x,y,rfl,hs,hx,hy⟩:=leK_twoV.mp hT;have ed:(Te.two u a b).deep=1+max a.deep b.deep:=rfl;refine⟨p,rfl,_,hs,_,rfl,rfl,?_⟩;rw[if_neg (by cases u<;>decide)];refine⟨p,rfl,_,hs,_,rfl,rfl,?_⟩;rw[if_neg (by cases u<;>decide)];refine⟨p,rfl,_,hs,_,rfl,rfl,?_⟩;rw[if_neg (by cases u<;>decide)];refine⟨p,rfl,_,hs,_,rfl,by decide,fun p2 h2=>⟨_,.inr (.inl (.inl Za4)),rfl,rfl,?_⟩⟩;have s2:=Za5 h2 (.tup [.str "pair",.str "use"]);rw[if_neg Bool.false_ne_true,if_pos (by cases u<;>decide)];refine⟨p,rfl,_,s2.sqt hs,_,rfl,p,rfl,_,s2.sqt hs,_,rfl,x,a,f,ws,rfl,LEK.keep hx s2.keepL,hf.1,by walk_at "o",fun r1 H1 e1 hr1=>⟨p,rfl,_,e1.sqt (s2.sqt hs),_,rfl,y,b,f,ws,rfl,LEK.keep hy (s2.trans e1).keepL,hf.2,by walk_at "o",fun r2 H2 e2 hr2=>⟨by decide,fun p3 h3=>q _ _ (((s2.trans e1).trans e2).trans (Za5 h3 _)) ?_⟩⟩⟩;exact leK_twoV.mpr ⟨p3,r1,r2,rfl,.inl (.inl Za4),LEK.keep hr1 (e2.trans (Za5 h3 _)).keepL,LEK.keep hr2 (Zf4 h3)⟩
 | fn s a =>
  obtain⟨p,x,y,rfl,hs,hx,hy⟩:=leK_fnV.mp hT;have ed:(Te.fn s a).deep=1+a.deep:=rfl;refine⟨p,rfl,_,hs,_,rfl,rfl,?_⟩;rw[if_neg (by decide)];refine⟨p,rfl,_,hs,_,rfl,rfl,?_⟩;rw[if_pos (by rfl)];refine⟨p,rfl,_,hs,_,rfl,p,rfl,_,hs,_,rfl,y,a,f+1,ws,rfl,hy,hf.2,by walk_at "o",fun r H1 e1 hr1=>⟨by decide,fun p2 h2=>q _ _ (e1.trans (Za5 h2 _)) ?_⟩⟩;exact leK_fnV.mpr ⟨p2,x,r,rfl,.inl (.inl Za4),LtK.keep hx (e1.trans (Za5 h2 _)).keepL,LEK.keep hr1 (Zf4 h2)⟩
 | cs a b c =>
  obtain⟨p,x,y,z,rfl,hs,hx,hy,hz⟩:=leK_csV.mp hT;have ed:(Te.cs a b c).deep=1+max a.deep (max b.deep c.deep):=rfl;refine⟨p,rfl,_,hs,_,rfl,rfl,?_⟩;rw[if_neg (by decide)];refine⟨p,rfl,_,hs,_,rfl,rfl,?_⟩;rw[if_neg (by decide)];refine⟨p,rfl,_,hs,_,rfl,rfl,?_⟩;rw[if_pos (by rfl)];refine⟨p,rfl,_,hs,_,rfl,y,b,f+1,ws,rfl,hy,hf.2.1,by walk_at "o",fun r1 H1 e1 hr1=>⟨p,rfl,_,e1.sqt hs,_,rfl,z,c,f+1,ws,rfl,LEK.keep hz e1.keepL,hf.2.2,by walk_at "o",fun r2 H2 e2 hr2=>?_⟩⟩;refine⟨by decide,fun p1 h1=>?_⟩;have e12:=(e1.trans e2).trans (Za5 h1 (.tup [r1,r2]));refine⟨p,rfl,_,e12.sqt hs,_,rfl,x,a,f,ws,rfl,LEK.keep hx e12.keepL,hf.1,by walk_at "o",fun r0 H3 e3 hr0=>⟨by decide,fun p4 h4=>?_⟩⟩;have s4:=Za5 h4 (.tup [.str "cases",r0]);refine⟨_,.inl (.inl Za4),_,s4.sqt (e3.sqt (.inl (.inl Za4))),by simp,by show 4≤sizeLine;decide,fun z=>absurd z (by simp),fun _ p5 h5=>q _ _ (((e12.trans e3).trans s4).trans (Za5 h5 _)) ?_⟩;have k5:=Zf4 (K:=K) (o:=.tup [.str "cases",r0,r1,r2]) h5;exact leK_csV.mpr ⟨p5,r0,r1,r2,rfl,.inl (.inl Za4),LEK.keep hr0 (s4.keepL.trans k5),LEK.keep hr1 ((e2.trans (Za5 h1 _)).keepL.trans ((e3.trans s4).keepL.trans k5)),LEK.keep hr2 ((Za5 h1 _).keepL.trans ((e3.trans s4).keepL.trans k5))⟩
theorem Yo9 {f:Addr} {fd:FuncData} {ps:List Str} {k:Nat} (hl:ps.length=2):Fk0 P w K mg base k f fd ps (Zj2 K 0):=by
 refine⟨fun vs H Q E h=>?_,fun A outer s H args us vs Q E hr e0 hb r hsp=>?_⟩
 ·obtain⟨v,t,f,ws,rfl,_⟩:=h
  exact hl.symm
 ·obtain⟨v,t,f,ws,_,_,_,hd,_⟩:=hsp
  exact absurd hd (by cases t<;>simp[Te.deep]<;>walk_at "o")
theorem Yz4 {f_ar0:Addr} {fd_ar0:FuncData} (F_ar0:Fun K "_law_lifted" "_law_lifted" (top 47) f_ar0 fd_ar0) (m_ar0:MgI mg "_law_lifted" f_ar0) (b_ar0:Binds K fd_ar0 pq13 []) (m_int:mg "int"=none):∀ n,Fk0 P w K mg base n f_ar0 fd_ar0 pq13 (Zj2 K n)
 | 0=>Yo9 rfl
 | n+1=>Xu5 F_ar0 (Yz4 F_ar0 m_ar0 b_ar0 m_int n) m_ar0 F_ar0.kp b_ar0 m_int
theorem sc_bg0:FnScope ["_law_script","_law_words_here","_law_given_here","_law_term","_law_shape","_law_bad","_law_k","_law_one"] ["_law_script"] (Za7 (top 64)):=scm (by decide +kernel)
def Zy2 (K:W.Frag) (N:NumT):Sp:=fun vs H Q _=>∃ (a:Addr) (ns:List Int),vs=[.ref a]∧SqL K H a (ns.map V.int)∧ns.length≤63∧TabOk H N.T N.ds∧∀ H',Q (.bl true) H'
theorem Xh8:∀ m:Nat,m≤16→sB m≤142∧dB m≤60:=by decide
structure AskZ (K:W.Frag) (H:Hp) (ws:List Str) (v:V):Prop where
 d:∃ t,OkZ K H ws v t∧t.size≤142∧t.deep≤60
theorem AskZ.keep {K:W.Frag} {H H':Hp} {ws:List Str} {v:V} (h:AskZ K H ws v) (e:SameT H H'):AskZ K H' ws v:=by
 obtain⟨t,o,z⟩:=h.d;exact⟨t,⟨LZ.keepT (fun a xs z=>e _ _ (fun _ z=>nomatch z) z) (SameT.keepT e) o.l,o.f⟩,z⟩
theorem Zq9 {N:NumT} {H:Hp} {ws:List Str} {v:V} {ga:Addr} {gs:List V} {Γ:List Tm} {Q:VK} {E:XK} (h:AskZ K H ws v) (hW:∀ w∈ws,Word w) (hga:H ga=some (.lst gs)) (hp:Paired (LtV H) gs Γ) (ho:∀ s∈Γ,okW ws s) (hl:gs.length≤100) (tab:TabOk H N.T N.ds) (q:∀ H',SameV [N.T] H H'→TabOk H' N.T N.ds→Q (.bl true) H'):Zq1 K N [v,.ref ga] H Q E:=by
 obtain⟨t,o,z1,z2⟩:=h.d;exact⟨v,t,ga,gs,Γ,ws,rfl,o,hW,z1,z2,hga,hp,ho,hl,tab,q⟩
theorem Xt3 {k:Nat} {N:NumT} {f_bg0:Addr} {fd_bg0:FuncData} (F_bg0:Fun K "law" "law" (top 64) f_bg0 fd_bg0) (C__law_words:Cl P w K mg base k "_law_words" ["_law_cell_here","_law_many"] (Yk7)) (C__law_cell:Cl P w K mg base k "_law_cell" ["_law_script","_law_k"] (Yh7 K)) (C__law_mix:Cl P w K mg base k "_law_mix" pq1 (Zh1)) (C__law_given:Cl P w K mg base k "_law_given" ["_law_script","_law_words_here"] (Zw4 K)) (C__law_made:Cl P w K mg base k "_law_made" pq3 (Zd9 K 0 16 60)) (C__law_spoiled:Cl P w K mg base k "_law_spoiled" pq11 (Zh8 K 60)) (C__law_asked:Cl P w K mg base k "_law_asked" pq12 (Zq1 K N)) (m_range:mg "range"=none) (m_int:mg "int"=none):Fk0 P w K mg base (k+1) f_bg0 fd_bg0 ["_law_script"] (Zy2 K N):=by
 refine F_bg0.ok sc_bg0 (fun vs H Q E h=>?_) (fun cdv A outer s H vs Q E hr h=>?_)
 ·obtain⟨a,ns,rfl,_⟩:=h
  rfl
 obtain⟨a,ns,rfl,hS,h63,t1,q⟩:=h;have cn:=Xm0 ns
 refine⟨_,(Za3 (pst 1 sc_bg0.nd (Zc0 C__law_words hr (Za0 (Zc0 C__law_cell hr (Za0 (pvM 0) (Za0 Za2 Za1))) (Za0 (Zb3 Zd2 Za2 (Zb3 Zb8 (Zc0 C__law_cell hr (Za0 (pvM 0) (Za0 Za2 Za1))) Za2)) Za1))))
 (Za3 (pst 2 sc_bg0.nd (Zc0 C__law_given hr (Za0 (pvM 0) (Za0 (pvM 1) Za1))))
 (Za3 (Zk5 (Zc0 C__law_made hr (Za0 (Zc0 C__law_cell hr (Za0 (pvM 0) (Za0 Za2 Za1))) (Za0 (Zb3 Zd2 Za2 (Zb3 Zb8 (Zc0 C__law_cell hr (Za0 (pvM 0) (Za0 Za2 Za1))) Za2)) (Za0 (pvM 2) (Za0 (pvM 1) Za1))))) (Zk6 rfl (Zd1 (Zc8 (i:=3) sc_bg0.nd rfl (Or.inl rfl)) (Zd1 (Zc8 (i:=4) sc_bg0.nd rfl (Or.inl rfl)) Zh6))))
 (Za3 (pst 5 sc_bg0.nd (pvM 3))
 (Za3 (Yd9 PassesOwn.never rfl (Zl8 rfl m_range (Za0 (Zb3 Zd2 (Zb3 Zc3 (Zb3 Zb8 (Zc0 C__law_cell hr (Za0 (pvM 0) (Za0 Za2 Za1))) Za2) Za2) (Zh2 Zi3 (by exact rfl) m_int Zk4 (Za0 (Zi8 (Xf3) (Zb3 Zb8 (Zc0 C__law_cell hr (Za0 (pvM 0) (Za0 Za2 Za1))) Za2) Za2 (Zk7 _)) Za1))) Za1)) (Zc8 (i:=6) sc_bg0.nd rfl (Or.inl rfl))
  (Za6 (pst 5 sc_bg0.nd (Zc0 C__law_spoiled hr (Za0 (pvM 5) (Za0 (Zc0 C__law_mix hr (Za0 (Zc0 C__law_cell hr (Za0 (pvM 0) (Za0 Za2 Za1))) (Za0 (pvM 6) Za1))) (Za0 (pvM 2) (Za0 (pvM 1) Za1))))))))
 (Za3 (Yd9 PassesOwn.never rfl (Xi3 (Zc7 (Za0 (pvM 3) (Za0 (pvM 5) (Za0 (pvM 3) (Za0 (pvM 5) Za1)))))) (Zc8 (i:=7) sc_bg0.nd rfl (Or.inl rfl))
  (Za6 (Zc4 (Yd8 (Yd7 (Zc0 C__law_asked hr (Za0 (pvM 7) (Za0 (pvM 2) Za1)))))
  (Za6 (Zb1 Zv8))
  Zb2)))
 (Za6 (Zb1 (Yu1 (Zc0 C__law_asked hr (Za0 (pvM 3) (Za0 (Zc7 Za1) Za1))) (Yt8 (Zc0 C__law_asked hr (Za0 (pvM 5) (Za0 (Zj8 Zy6 (pvM 2) Zn8 (Zn7 Za2)) Za1))))))))))))),?_⟩
 refine sqt (fun σ' H'=>∃ wa ws,σ'=[some (.ref a),some (.ref wa),none,none,none,none,none,none]∧Same H H'∧H' wa=some (.lst (ws.map V.str))∧Yb5 ws) ?_ ?_
 ·intro C hC
  walk_at "1";have b0:=Int.emod_nonneg (cellOf ns 1) (show (5:Int)≠0 by decide);have b1:=Int.emod_lt_of_pos (cellOf ns 1) (show (0:Int) < 5 by decide);exact⟨_,ns,_,rfl,hS,h63,by decide,by decide,_,ns,_,rfl,hS,h63,by decide,by decide,_,rfl,by decide,_,_,rfl,cn 0,by walk_at "o",by walk_at "o",fun r H' ws e _ h hw=>hC _ _ ⟨r,ws,rfl,e,h,hw⟩⟩
 rintro σ1 H1 ⟨wa,ws,rfl,e1,hw1,hW⟩;refine sqt (fun σ' H'=>∃ ga gs ts,σ'=[some (.ref a),some (.ref wa),some (.ref ga),none,none,none,none,none]∧Same H1 H'∧GvL K H' ws wa ga gs ts∧ts.length≤4) ?_ ?_
 ·intro C hC
  walk_at "1";exact⟨_,_,ns,ws,rfl,e1.seq hS,h63,SqL.of hw1,hW,fun r H' gs ts e h hp ho hl=>hC _ _ ⟨r,gs,ts,rfl,e,⟨SqL.of (e _ _ hw1),hW,h,hp,ho⟩,hl⟩⟩
 rintro σ2 H2 ⟨ga,gs,ts,rfl,e2,G,hl⟩;have e02:=e1.trans e2;have lg:=Paired.length G.p;refine sqt (fun σ' H'=>∃ x y t,σ'=[some (.ref a),some (.ref wa),some (.ref ga),some x,some y,none,none,none]∧Same H2 H'∧OkZ K H' ws x t∧t.size≤142∧t.deep≤60) ?_ ?_
 ·intro C hC
  have b0:=Int.emod_nonneg (cellOf ns 6) (show (16:Int)≠0 by decide);have b1:=Int.emod_lt_of_pos (cellOf ns 6) (show (0:Int) < 16 by decide);walk_at "1";refine⟨_,ns,_,rfl,e02.seq hS,h63,by decide,by decide,_,ns,_,rfl,e02.seq hS,h63,by decide,by decide,_,rfl,by decide,?_⟩;generalize cellOf ns 6 % 16=j at b0 b1 ⊢;obtain⟨j,rfl⟩:=Int.eq_ofNat_of_zero_le b0;refine⟨_,1+j,ga,wa,ws,gs,ts,by rw[show (1:Int)+(j:Int)=((1+j:Nat):Int) by walk_at "o"],cn 7,by walk_at "o",by walk_at "o",by walk_at "o",G,by walk_at "o",fun r2 J ej hm=>?_⟩;obtain⟨p,x,y,t,g,rfl,h1,h2,h3,hk,h4,h5,h6,h7,h8⟩:=hm;have sb:=Xh8 (1+j) (by walk_at "o");exact⟨p,rfl,_,h1,rfl,_,_,rfl,_,_,rfl,rfl,hC _ _ ⟨x,y,t.z,rfl,ej,⟨LE.z h2,Zr2 h4⟩,by rw[Zr1];walk_at "o",by rw[Zr3];walk_at "o"⟩⟩
 rintro σ3 H3 ⟨x,y,t,rfl,e3,o3,z3,d3⟩;have G3:=G.keep e3;have e03:=e02.trans e3;refine sqt (fun σ' H'=>σ'=[some (.ref a),some (.ref wa),some (.ref ga),some x,some y,some x,none,none]∧H'=H3) ?_ ?_
 ·intro C hC
  walk_at "1";exact hC _ _ ⟨rfl,rfl⟩
 rintro σ4 H4 ⟨rfl,rfl⟩;refine sqt (fun σ' H'=>∃ b t' x6,σ'=[some (.ref a),some (.ref wa),some (.ref ga),some x,some y,some b,x6,none]∧Same H4 H'∧OkZ K H' ws b t'∧NoMore t' t) ?_ ?_
 ·intro C hC
  walk_at "2"
  have w0:(0:Int)≤(if 0 < cellOf ns 8 % 6 then 1 else 0)∧(if 0 < cellOf ns 8 % 6 then (1:Int) else 0)≤1:=by split<;>decide
  have b0:=Int.emod_nonneg (cellOf ns 8) (show (6:Int)≠0 by decide);have b1:=Int.emod_lt_of_pos (cellOf ns 8) (show (0:Int) < 6 by decide);refine⟨_,ns,_,rfl,e03.seq hS,h63,by decide,by decide,_,rfl,by decide,⟨by decide,by decide⟩,_,ns,_,rfl,e03.seq hS,h63,by decide,by decide,_,rfl,by decide,.inr ?_⟩;generalize (if 0 < cellOf ns 8 % 6 then (1:Int) else 0)=w at w0 ⊢;refine⟨by walk_at "o",by walk_at "o",?_⟩;generalize hn:cellOf ns 8 % 6 / 2+w=n;refine Zv1 (D:={ nx:=C,rt:=Q }) (n:=n.toNat) (lo:=0) (fun i σ' H'=>∃ b t' x6,σ'=[some (.ref a),some (.ref wa),some (.ref ga),some x,some y,some b,x6,none]∧Same H4 H'∧OkZ K H' ws b t'∧NoMore t' t) ⟨x,t,none,rfl,Same.refl _,o3,Nat.le_refl _,Nat.le_refl _⟩ (fun i σ' H' hi hp=>?_) (fun σ' H' ⟨b,t',x6,es,e,o,n⟩=>hC _ _ ⟨b,t',x6,es,e,o,n⟩);obtain⟨b,t',x6,rfl,e,o,nm⟩:=hp;walk_at "1";have GJ:=G3.keep e;refine⟨_,ns,_,rfl,(e03.trans e).seq hS,h63,by decide,by decide,_,_,rfl,by walk_at "o",by walk_at "o",b,t',_,ga,wa,ws,gs,rfl,Zf0 _ _,Nat.le_trans nm.d d3,o,GJ.w,GJ.wo,GJ.g,fun r J t2 ej oj nj=>⟨e.trans ej,t2,oj,Nat.le_trans nj.s nm.s,Nat.le_trans nj.d nm.d⟩⟩
 rintro σ5 H5 ⟨b,t',x6,rfl,e5,o5,nm⟩;have G5:=G3.keep e5;have e05:=e03.trans e5;have t5:=t1.keep e05;have ax:AskZ K H5 ws x:=⟨t,o3.keep e5,z3,d3⟩;have ab:AskZ K H5 ws b:=⟨t',o5,Nat.le_trans nm.s z3,Nat.le_trans nm.d d3⟩;refine sqt (fun σ' H'=>∃ x7,σ'=[some (.ref a),some (.ref wa),some (.ref ga),some x,some y,some b,x6,x7]∧SameT H5 H'∧TabOk H' N.T N.ds) ?_ ?_
 ·intro C hC
  walk_at "2";refine⟨by decide,fun p4 h4=>?_⟩;have s4:=Za5 h4 (.lst [x,b,x,b]);have l4:upd H5 p4 (.lst [x,b,x,b]) p4=some (.lst [x,b,x,b]):=Za4;generalize upd H5 p4 (.lst [x,b,x,b])=J4 at s4 l4 ⊢;refine⟨⟨_,SqL.of l4⟩,Xd3 (D:={ nx:=C,rt:=Q }) (xs:=[x,b,x,b]) (fun i σ' H'=>∃ x7,σ'=[some (.ref a),some (.ref wa),some (.ref ga),some x,some y,some b,x6,x7]∧SameT J4 H'∧TabOk H' N.T N.ds) ⟨none,rfl,SameT.refl _,t5.keep s4⟩ (fun i σ' H' hi ⟨_,_,e,_⟩=>SqL.of (e _ _ (fun _ z=>nomatch z) l4)) (fun i v σ' H' hv ⟨x7,es,e,t6⟩=>?_) (fun σ' H' ⟨x7,es,e,t6⟩=>hC _ _ ⟨x7,es,s4.toT.trans e,t6⟩)⟩;subst es;have sT:SameT H5 H':=s4.toT.trans e
  have av:AskZ K H' ws v:=by
   match i,hv with
   | 0,hv=>cases hv;exact ax.keep sT
   | 1,hv=>cases hv;exact ab.keep sT
   | 2,hv=>cases hv;exact ax.keep sT
   | 3,hv=>cases hv;exact ab.keep sT
  have kt:TKp H5 H':=fun a xs e=>sT _ _ (fun _ z=>nomatch z) e;walk_at "1";refine Zq9 av hW.2.2 (sT _ _ (fun _ z=>nomatch z) G5.g) (Zf1 kt G5.p) G5.o (by walk_at "o") t6 fun H7 e7 t71=>⟨_,rfl,?_⟩;rw[if_neg (by decide)];exact⟨e.trans e7.toT,t71⟩
 rintro σ6 H6 ⟨x7,rfl,e6,t6⟩;walk_at "1";have e06:SameT H5 H6:=e6;refine⟨by decide,fun p1 h1=>?_⟩;have s1:=Za5 h1 (.lst []);refine Zq9 ((ax.keep e06).keep s1.toT) hW.2.2 Za4 .nil (fun s hs=>(nomatch hs)) (Nat.zero_le _) (t6.keep s1) fun H7 e7 t7=>⟨true,rfl,?_⟩;rw[if_pos rfl];have eT:=(e06.trans s1.toT).trans e7.toT;have kt:TKp H5 H7:=fun a xs e=>eT _ _ (fun _ z=>nomatch z) e;refine⟨gs,SqL.of (eT _ _ (fun _ z=>nomatch z) G5.g),fun p2 h2=>?_⟩
 rw[show cutV gs none (some 1)=gs.take 1 by
  cases gs with
  | nil=>rfl
  | cons g0 gr=>exact Yn2 (i:=1) (by show 1≤gr.length+1;walk_at "o")]
 have s2:=Za5 h2 (.lst (gs.take 1));exact Zq9 ((ab.keep eT).keep s2.toT) hW.2.2 Za4 (Zf1 (Zl2 s2) (Zt8 (Zf1 kt G5.p) 1)) (fun s hs=>G5.o s (List.mem_of_mem_take hs)) (by rw[List.length_take];walk_at "o") (t7.keep s2) fun H8 _ _=>q H8
theorem Yw8 {f:Addr} {fd:FuncData} {ps:List Str} {k b:Nat}:Fk0 P w K mg base k f fd ps (Zd9 K 2 0 b):=by
 have no:∀ vs H Q E,¬ Zd9 K 2 0 b vs H Q E:=fun vs H Q E h=>by
  obtain⟨c,m,ga,wa,ws,gs,ts,_,_,h1,h2,_⟩:=h;walk_at "o"
 exact⟨fun vs H Q E h=>absurd h (no vs H Q E),fun A outer s H args us vs Q E _ _ _ _ h=>absurd h (no vs H Q E)⟩
theorem Xm6 {k:Nat} {f_as0:Addr} {fd_as0:FuncData} (F_as0:Fun K "_law_made" "_law_made" (top 54) f_as0 fd_as0) (m_as0:MgI mg "_law_made" f_as0) (b_as0:Binds K fd_as0 pq3 [])
  {f_ah0:Addr}{fd_ah0:FuncData}(F_ah0:Fun K "_law_any" "_law_any" (top 53) f_ah0 fd_ah0)(m_ah0:MgI mg "_law_any" f_ah0)(b_ah0:Binds K fd_ah0 pq3 [])
  {f_aw0:Addr}{fd_aw0:FuncData}(F_aw0:Fun K "_law_sided" "_law_sided" (top 50) f_aw0 fd_aw0)(m_aw0:MgI mg "_law_sided" f_aw0)(b_aw0:Binds K fd_aw0 pq3 [])
  {f_ak0:Addr}{fd_ak0:FuncData}(F_ak0:Fun K "_law_chosen" "_law_chosen" (top 51) f_ak0 fd_ak0)(m_ak0:MgI mg "_law_chosen" f_ak0)(b_ak0:Binds K fd_ak0 pq3 [])
  {f_bb0:Addr}{fd_bb0:FuncData}(F_bb0:Fun K "_law_used" "_law_used" (top 52) f_bb0 fd_bb0)(m_bb0:MgI mg "_law_used" f_bb0)(b_bb0:Binds K fd_bb0 pq3 [])
  (C__law_simple:Cl P w K mg base k "_law_simple" pq0 (Zj6 K)) (C__law_mix:Cl P w K mg base k "_law_mix" pq1 (Zh1)) (C__law_size:Cl P w K mg base k "_law_size" ["_law_statement_here"] (Zy1 K)) (C__law_lifted:Cl P w K mg base k "_law_lifted" pq13 (Zj2 K 30)) (C__law_leaf:Cl P w K mg base k "_law_leaf" pq5 (Zo7 K)) (C__law_statement:Cl P w K mg base k "_law_statement" pq4 (Zg0 K 12)) :
  ∀ n,Fk0 P w K mg base (k+3*n+1) f_as0 fd_as0 pq3 (Zd9 K 0 n 60):=by
 intro n
 induction n with
 | zero=>exact Xf6 (k:=k+3*0) F_as0 (.of Yw8 m_ah0 F_ah0.kp b_ah0) C__law_simple C__law_mix C__law_size
 | succ n ih =>
  have l0:k≤k+3*n+1:=by walk_at "o"
  have l1:k≤k+3*n+2:=by walk_at "o"
  have l2:k≤k+3*n+3:=by walk_at "o"
  have l3:k+3*n+1≤k+3*n+2:=by walk_at "o"
  have G1:=Xu2 (k:=k+3*n+1) F_aw0 (.of ih m_as0 F_as0.kp b_as0) (C__law_simple.up l0) (C__law_mix.up l0);have G2:=Xv1 (k:=k+3*n+1) F_ak0 (.of ih m_as0 F_as0.kp b_as0) (C__law_lifted.up l0) (C__law_mix.up l0) (C__law_leaf.up l0);have G3:=Xt7 (k:=k+3*n+1) F_bb0 (.of ih m_as0 F_as0.kp b_as0) (C__law_mix.up l0);have G4:=Xv4 (k:=k+3*n+2) F_ah0 (.of (ih.mono l3) m_as0 F_as0.kp b_as0) (.of G1 m_aw0 F_aw0.kp b_aw0) (.of G2 m_ak0 F_ak0.kp b_ak0) (.of G3 m_bb0 F_bb0.kp b_bb0) (C__law_mix.up l1) (C__law_statement.up l1);have G5:=Xf6 (k:=k+3*n+3) F_as0 (.of G4 m_ah0 F_ah0.kp b_ah0) (C__law_simple.up l2) (C__law_mix.up l2) (C__law_size.up l2);exact G5
noncomputable def Yt6 {α:Type} (a b c d e f g h i:α):Dd→α
 | .pair=>a
 | .left=>b
 | .right=>c
 | .first=>d
 | .second=>e
 | .cases=>f
 | .fn=>g
 | .use=>h
 | .off=>i
theorem Xm4 {T:Addr} {CB C0:Addr} (CBB:ClsB K CB) (CA:ClsA K C0)
  {f_bj0:Addr}{fd_bj0:FuncData}(F_bj0:FunT K "number_of" "number_of" (top 24) f_bj0 fd_bj0 T)(hB_number_of:∀ h,K.In h→h.BuiltinsAt mg T)(v_number_of:mainGlobals≠T)(m_bj0:MgI mg "number_of" f_bj0)(k_bj0:KpI K f_bj0)(b_bj0:Binds K fd_bj0 pq19 [])
  {f_ca0:Addr}{fd_ca0:FuncData}(F_ca0:Fun K "within" "within" (top 16) f_ca0 fd_ca0)(m_ca0:MgI mg "within" f_ca0)(b_ca0:Binds K fd_ca0 ["statement"] [])
  {f_bx0:Addr}{fd_bx0:FuncData}(F_bx0:Fun K "pieces" "pieces" (top 17) f_bx0 fd_bx0)(m_bx0:MgI mg "pieces" f_bx0)(b_bx0:Binds K fd_bx0 ["statement"] [])
  {f_bd0:Addr}{fd_bd0:FuncData}(F_bd0:Fun K "folded" "folded" (top 18) f_bd0 fd_bd0)(m_bd0:MgI mg "folded" f_bd0)(b_bd0:Binds K fd_bd0 pq23 [])
  {f_bi0:Addr}{fd_bi0:FuncData}(F_bi0:Fun K "noted" "noted" (top 23) f_bi0 fd_bi0)(m_bi0:MgI mg "noted" f_bi0)(b_bi0:Binds K fd_bi0 pq18 [])
  {f_bz0:Addr}{fd_bz0:FuncData}(F_bz0:Fun K "row_of" "row_of" (top 25) f_bz0 fd_bz0)(m_bz0:MgI mg "row_of" f_bz0)(b_bz0:Binds K fd_bz0 pq17 [])
  {f_bq0:Addr}{fd_bq0:FuncData}(F_bq0:Fun K "of_pair" "of_pair" (top 26) f_bq0 fd_bq0)(m_bq0:MgI mg "of_pair" f_bq0)(b_bq0:Binds K fd_bq0 pq20 [])
  {f_bo0:Addr}{fd_bo0:FuncData}(F_bo0:Fun K "of_left" "of_left" (top 27) f_bo0 fd_bo0)(m_bo0:MgI mg "of_left" f_bo0)(b_bo0:Binds K fd_bo0 pq20 [])
  {f_bs0:Addr}{fd_bs0:FuncData}(F_bs0:Fun K "of_right" "of_right" (top 28) f_bs0 fd_bs0)(m_bs0:MgI mg "of_right" f_bs0)(b_bs0:Binds K fd_bs0 pq20 [])
  {f_bm0:Addr}{fd_bm0:FuncData}(F_bm0:Fun K "of_first" "of_first" (top 29) f_bm0 fd_bm0)(m_bm0:MgI mg "of_first" f_bm0)(b_bm0:Binds K fd_bm0 pq20 [])
  {f_bt0:Addr}{fd_bt0:FuncData}(F_bt0:Fun K "of_second" "of_second" (top 30) f_bt0 fd_bt0)(m_bt0:MgI mg "of_second" f_bt0)(b_bt0:Binds K fd_bt0 pq20 [])
  {f_bl0:Addr}{fd_bl0:FuncData}(F_bl0:Fun K "of_cases" "of_cases" (top 31) f_bl0 fd_bl0)(m_bl0:MgI mg "of_cases" f_bl0)(b_bl0:Binds K fd_bl0 pq20 [])
  {f_bn0:Addr}{fd_bn0:FuncData}(F_bn0:Fun K "of_fun" "of_fun" (top 32) f_bn0 fd_bn0)(m_bn0:MgI mg "of_fun" f_bn0)(b_bn0:Binds K fd_bn0 pq20 [])
  {f_bw0:Addr}{fd_bw0:FuncData}(F_bw0:Fun K "of_use" "of_use" (top 33) f_bw0 fd_bw0)(m_bw0:MgI mg "of_use" f_bw0)(b_bw0:Binds K fd_bw0 pq20 [])
  {f_bp0:Addr}{fd_bp0:FuncData}(F_bp0:Fun K "of_off" "of_off" (top 34) f_bp0 fd_bp0)(m_bp0:MgI mg "of_off" f_bp0)(b_bp0:Binds K fd_bp0 pq20 [])
  {f_bk0:Addr}{fd_bk0:FuncData}(F_bk0:Fun K "of_at" "of_at" (top 36) f_bk0 fd_bk0)(m_bk0:MgI mg "of_at" f_bk0)(b_bk0:Binds K fd_bk0 pq15 [])
  {f_bf0:Addr}{fd_bf0:FuncData}(F_bf0:Fun K "kind_by" "kind_by" (top 37) f_bf0 fd_bf0)(m_bf0:MgI mg "kind_by" f_bf0)(b_bf0:Binds K fd_bf0 pq15 [])
  {f_by0:Addr}{fd_by0:FuncData}(F_by0:Fun K "put_in_front" "put_in_front" (top 38) f_by0 fd_by0)(m_by0:MgI mg "put_in_front" f_by0)(b_by0:Binds K fd_by0 pq16 [])
  {f_bh0:Addr}{fd_bh0:FuncData}(F_bh0:Fun K "next_within" "next_within" (top 39) f_bh0 fd_bh0)(m_bh0:MgI mg "next_within" f_bh0)(b_bh0:Binds K fd_bh0 pq16 [])
  {f_be0:Addr}{fd_be0:FuncData}(F_be0:Fun K "kind" "kind" (top 40) f_be0 fd_be0)(m_be0:MgI mg "kind" f_be0)(b_be0:Binds K fd_be0 ["term","given"] [])
  {f_ad0:Addr}{fd_ad0:FuncData}(F_ad0:Fun K "__init__" "Book.__init__" Xb3 f_ad0 fd_ad0)(Mk_Book:Mk K CB f_ad0)(m_ac0:MgI mg "Book" CB)(b_ad0:Binds K fd_ad0 ["self"] [])
  {f_ab0:Addr}{fd_ab0:FuncData}(F_ab0:Fun K "__init__" "Asked.__init__" Xb4 f_ab0 fd_ab0)(Mk_Asked:Mk K C0 f_ab0)(m_aa0:MgI mg "Asked" C0)(b_ab0:Binds K fd_ab0 pq21 [])
  {aPAIRED:Addr} (m_ag0:MgI mg "PAIRED" aPAIRED) (t_PAIRED:∀ H,SqT K H aPAIRED [.str "both",.str "one",.str "then"]) {aLOW:Addr} (m_LOW:MgI mg "LOW" aLOW) (t_LOW:∀ H,SqT K H aLOW [.str "low"])
  {aINNER:Addr} {aT:Nat→Addr} (m_af0:MgI mg "INNER" aINNER) (D_INNER:KDict K w aINNER (innV aT)) (hI:Inn K aT)
  {aDEEDS:Addr} (m_ae0:MgI mg "DEEDS" aDEEDS) (D_DEEDS:KDict K w aDEEDS (tblD (Yt6 f_bq0 f_bo0 f_bs0 f_bm0 f_bt0 f_bl0 f_bn0 f_bw0 f_bp0))) {aNoKind:Addr} (m_NoKind:MgI mg "NoKind" aNoKind) (x_NoKind:XCls K aNoKind) (m_len:mg "len"=none) (m_reversed:mg "reversed"=none) :
  FnOk P w K mg base (CXe P w) 7 f_be0 fd_be0 ["term","given"] (Zy3 K aNoKind ⟨T,Zc6⟩):=by
 have GN:∀ (A:BkA) (_:A.C=CB) (K':W.Frag) (base:Heap),KLe K K'→FnOk P w K' mg base CX0 1 f_bi0 fd_bi0 pq18 (Zg2 A):=fun A e K' base kl=>Xt1 (k:=0) (A0:=A) (e▸⟨CBB.c.le kl,CBB.r.le kl,CBB.s.le kl,CBB.n.le kl⟩) (F_bi0.le kl) m_ag0 (fun H=>(t_PAIRED H).le kl) m_len
 have GU:∀ (A:BkA),A.C=CB→Fk0 P w K mg base 4 f_bj0 fd_bj0 pq19 (Zg1 A ⟨T,Zc6⟩):=fun A e =>
  Xt0 (j:=1) F_bj0 hB_number_of v_number_of m_bd0 F_bd0.kp b_bd0 (GN A e) m_bi0 (fun K' kl=>(F_bi0.le kl).kp) b_bi0 fun K' base n f1 f2 fd1 fd2 kl g1 k1 b1 g2 k2 b2 =>
   Yo4 (k:=2) (sfB A n) (F_bd0.le kl) (.of (Xr9 (k:=1) (F_bx0.le kl) (.of (Xr6 (k:=0) (F_ca0.le kl) m_ag0 (fun H=>(t_PAIRED H).le kl)) m_ca0 (F_ca0.le kl).kp (b_ca0.le kl))) m_bx0 (F_bx0.le kl).kp (b_bx0.le kl)) m_ag0 (fun H=>(t_PAIRED H).le kl) m_reversed g1 k1 b1 g2 k2 b2
 have kl0:KLe K K:=fun _ _ h=>h;have GN4:∀ A:BkA,A.C=CB→Fk0 P w K mg base 4 f_bi0 fd_bi0 pq18 (Zg2 A):=fun A e=>(GN A e K base kl0).mono (by decide);have GR:∀ A:BkA,A.C=CB→FnOk P w K mg base (CXe P w) 4 f_bz0 fd_bz0 pq17 (Zn2 aNoKind A):=fun A e=>(Xr7 (k:=0) (A0:=A) (e▸CBB) F_bz0 m_NoKind x_NoKind).mono (by decide)
 have GD:∀ A:BkA,A.C=CB→∀ d:Dd,FnOk P w K mg base (CXe P w) 5 (Yt6 f_bq0 f_bo0 f_bs0 f_bm0 f_bt0 f_bl0 f_bn0 f_bw0 f_bp0 d) (Yt6 fd_bq0 fd_bo0 fd_bs0 fd_bm0 fd_bt0 fd_bl0 fd_bn0 fd_bw0 fd_bp0 d) ["book","term","kinds"] (Zg3 K aNoKind A ⟨T,Zc6⟩ d):=fun A e d=>by
  have gn:=GN4 A e;have gu:=GU A e;have gr:=GR A e
  cases d with
  | pair=>exact Xs3 (k:=4) F_bq0 (.of gn m_bi0 F_bi0.kp b_bi0)
  | left=>exact Xs5 (k:=4) F_bo0 gr m_bz0 F_bz0.kp b_bz0
  | right=>exact Xs2 (k:=4) F_bs0 gr m_bz0 F_bz0.kp b_bz0
  | first=>exact Xs7 (k:=4) F_bm0 (.of gn m_bi0 F_bi0.kp b_bi0) (.of gu m_bj0 k_bj0 b_bj0)
  | second=>exact Xs1 (k:=4) F_bt0 (.of gn m_bi0 F_bi0.kp b_bi0) (.of gu m_bj0 k_bj0 b_bj0)
  | cases=>exact Xs8 (k:=4) F_bl0 m_NoKind x_NoKind
  | fn=>exact Xs6 (k:=4) F_bn0 (.of gn m_bi0 F_bi0.kp b_bi0) (.of gu m_bj0 k_bj0 b_bj0)
  | use=>exact Xs0 (k:=4) F_bw0 gr m_bz0 F_bz0.kp b_bz0 m_NoKind x_NoKind
  | off=>exact Xs4 (k:=4) F_bp0 gr m_bz0 F_bz0.kp b_bz0 (.of gu m_bj0 k_bj0 b_bj0) m_LOW t_LOW
 have kD:∀ d:Dd,W.keepIn K (.ref (Yt6 f_bq0 f_bo0 f_bs0 f_bm0 f_bt0 f_bl0 f_bn0 f_bw0 f_bp0 d))=true:=fun d=>match d with
  | .pair=>F_bq0.kp
  | .left=>F_bo0.kp
  | .right=>F_bs0.kp
  | .first=>F_bm0.kp
  | .second=>F_bt0.kp
  | .cases=>F_bl0.kp
  | .fn=>F_bn0.kp
  | .use=>F_bw0.kp
  | .off=>F_bp0.kp
 have bD:∀ d:Dd,Binds K (Yt6 fd_bq0 fd_bo0 fd_bs0 fd_bm0 fd_bt0 fd_bl0 fd_bn0 fd_bw0 fd_bp0 d) ["book","term","kinds"] []:=fun d=>match d with
  | .pair=>b_bq0
  | .left=>b_bo0
  | .right=>b_bs0
  | .first=>b_bm0
  | .second=>b_bt0
  | .cases=>b_bl0
  | .fn=>b_bn0
  | .use=>b_bw0
  | .off=>b_bp0
 have GK:∀ A:BkA,A.C=CB→FnOk P w K mg base (CXe P w) 6 f_bf0 fd_bf0 pq15 (Zq2 K C0 aNoKind A ⟨T,Zc6⟩):=fun A e =>
  Xt4 (k:=5) CA F_bf0 (Xs9 (k:=4) CA F_bk0 (.of (GU A e) m_bj0 k_bj0 b_bj0) m_NoKind x_NoKind m_len) m_bk0 F_bk0.kp b_bk0 m_ae0 D_DEEDS (GD A e) kD bD
 have GI:Fk0 P w K mg base 4 f_ab0 fd_ab0 pq21 (Zs0 C0):=(Xv6 (k:=0) CA.c CA.t CA.f CA.k F_ab0).mono (by decide);have GB:Fk0 P w K mg base 5 f_ad0 fd_ad0 ["self"] (Zy4 CB):=(Xv5 (k:=0) CBB F_ad0).mono (by decide)
 have GX:∀ A:BkA,A.C=CB→FnOk P w K mg base (CXe P w) 6 f_bh0 fd_bh0 pq16 (Zy0 K C0 aNoKind A ⟨T,Zc6⟩):=fun A e =>
  Xt2 (k:=4) CA F_bh0 (Xr8 (k:=4) CA F_by0 (.of (GU A e) m_bj0 k_bj0 b_bj0) (GR A e) m_bz0 F_bz0.kp b_bz0 m_len) m_by0 F_by0.kp b_by0 Mk_Asked GI m_aa0 b_ab0 m_af0 D_INNER hI m_len
 exact Xt5 (k:=5) CBB CA F_be0 (Yz6 fun A=>GX A.1 A.2) m_bh0 F_bh0.kp b_bh0 (Yz6 fun A=>GK A.1 A.2) m_bf0 F_bf0.kp b_bf0 Mk_Book GB m_ac0 b_ad0 Mk_Asked (GI.mono (by decide)) m_aa0 b_ab0 m_af0 D_INNER hI m_len
theorem Yv3 {f:Addr} {fd:FuncData} {ps:List Str} {k:Nat}:Fk0 P w K mg base k f fd ps (Zi5 K 0):=by
 have no:∀ vs H Q E,¬ Zi5 K 0 vs H Q E:=fun vs H Q E h=>by
  obtain⟨v,t,ga,gs,Γ,ws,D,_,_,h,_⟩:=h
  cases t<;>(unfold Tz.deep at h;walk_at "o")
 exact⟨fun vs H Q E h=>absurd h (no vs H Q E),fun A outer s H args us vs Q E _ _ _ _ h=>absurd h (no vs H Q E)⟩
theorem Xm7 {f_an0:Addr} {fd_an0:FuncData} (F_an0:Fun K "_law_kind" "_law_kind" (top 59) f_an0 fd_an0) (m_an0:MgI mg "_law_kind" f_an0) (b_an0:Binds K fd_an0 pq12 [])
  {f_ap0:Addr}{fd_ap0:FuncData}(F_ap0:Fun K "_law_kind_of_two" "_law_kind_of_two" (top 58) f_ap0 fd_ap0)(m_ap0:MgI mg "_law_kind_of_two" f_ap0)(b_ap0:Binds K fd_ap0 pq12 [])
  {f_ao0:Addr}{fd_ao0:FuncData}(F_ao0:Fun K "_law_kind_of_cases" "_law_kind_of_cases" (top 57) f_ao0 fd_ao0)(m_ao0:MgI mg "_law_kind_of_cases" f_ao0)(b_ao0:Binds K fd_ao0 pq12 [])(m_len:mg "len"=none)(m_int:mg "int"=none) :
  ∀ n:Nat,Fk0 P w K mg base (2*n+1) f_an0 fd_an0 pq12 (Zi5 K n):=by
 intro n
 induction n with
 | zero=>exact Yv3
 | succ n ih =>
  have l:2*n+1≤2*n+2:=Nat.le_succ _;exact Xu8 (k:=2*n+2) F_an0 (ih.mono l) m_an0 F_an0.kp b_an0 (.of (Xu6 (k:=2*n+1) F_ap0 (.of ih m_an0 F_an0.kp b_an0)) m_ap0 F_ap0.kp b_ap0) (.of (Xu7 (k:=2*n+1) F_ao0 (.of ih m_an0 F_an0.kp b_an0)) m_ao0 F_ao0.kp b_ao0) m_len m_int
theorem Yo0 {f:Addr} {fd:FuncData} {ps:List Str} {k:Nat}:Fk0 P w K mg base k f fd ps (Zh8 K 0):=by
 have no:∀ vs H Q E,¬ Zh8 K 0 vs H Q E:=fun vs H Q E h=>by
  obtain⟨v,t,c,ga,wa,ws,gs,_,_,h,_⟩:=h
  cases t<;>(unfold Tz.deep at h;walk_at "o")
 exact⟨fun vs H Q E h=>absurd h (no vs H Q E),fun A outer s H args us vs Q E _ _ _ _ h=>absurd h (no vs H Q E)⟩
theorem Xm5 {k:Nat} {f_az0:Addr} {fd_az0:FuncData} (F_az0:Fun K "_law_spoiled" "_law_spoiled" (top 62) f_az0 fd_az0) (m_az0:MgI mg "_law_spoiled" f_az0) (b_az0:Binds K fd_az0 pq11 []) (C__law_mix:Cl P w K mg base k "_law_mix" pq1 (Zh1)) (C__law_inner:Cl P w K mg base k "_law_inner" ["_law_term"] (Zq0 K)) (C__law_other:Cl P w K mg base k "_law_other" pq11 (Zm0 K)) (m_len:mg "len"=none) :
  ∀ n:Nat,Fk0 P w K mg base (k+n) f_az0 fd_az0 pq11 (Zh8 K n):=by
 intro n
 induction n with
 | zero=>exact Yo0
 | succ n ih =>
  have l:k≤k+n:=Nat.le_add_right _ _;exact Xt9 (k:=k+n) F_az0 ih m_az0 F_az0.kp b_az0 (C__law_mix.up l) (C__law_inner.up l) (C__law_other.up l) m_len
theorem Xm3 {l:W.OpenLaw} {w:World} {K:W.Frag} {h:Heap} {mg:Str→Option Value} {fa bm:Addr} (X:K.In h) (G:h.Ns mainGlobals mg) (hfa:MgI mg "law" fa) (E:Hd.obsK pg ask K=Hd.valK pg ask w.params) (D:Hd.chk pg cask K=true) (E2:Hd.iniK pg mask K=Hd.iniV pg mask) (D2:Hd.chkM pg mask K=true) (hc:Hd.codesOk pg tas K=true) (hIn:Hd.inSeen K "INNER"=Hd.inWant w.params Hd.innK) (hTr:ut=true→Hd.trSeen K "TURNING"=Hd.trWant w.params Hd.trK) (hNd:(Hd.tabs pg tas K).Nodup) (hPl:Hd.plK pg pls K=Hd.plV pg pls) (hblt:BltK K mg bm) (nT:∀ T∈Hd.tabs pg tas K,bm≠T) :
  ∃ fd:FuncData,(∀ (s:Shared) (v:Value),BindsTo s fd ⟨[v],[]⟩ [("_law_script",v)])∧∀ base:Heap,K.In base→base.Ns mainGlobals mg→FnOk l.prog w K mg base CX0 183 fa fd ["_law_script"] ((fun K=>Zy2 K ⟨(Hd.tabAt K "number_of"),Zc6⟩) K):=by
 obtain⟨f_at0,fd_at0,m_at0,F_at0,k_at0,b_at0⟩:=(show Df K mg "_law_mix" (top 42) ["_law_cell_here","_law_k"] from Hd.df2 X G E 42).ex;obtain⟨f_aj0,fd_aj0,m_aj0,F_aj0,k_aj0,b_aj0⟩:=(show Df K mg "_law_cell" (top 43) ["_law_script","_law_k"] from Hd.df2 X G E 43).ex;obtain⟨f_bc0,fd_bc0,m_bc0,F_bc0,k_bc0,b_bc0⟩:=(show Df K mg "_law_words" (top 44) ["_law_cell_here","_law_many"] from Hd.df2 X G E 44).ex;obtain⟨f_aq0,fd_aq0,m_aq0,F_aq0,k_aq0,b_aq0⟩:=(show Df K mg "_law_leaf" (top 45) ["_law_cell_here","_law_words_here"] from Hd.df2 X G E 45).ex;obtain⟨f_ba0,fd_ba0,m_ba0,F_ba0,k_ba0,b_ba0⟩:=(show Df K mg "_law_statement" (top 46) ["_law_cell_here","_law_size_here","_law_words_here"] from Hd.df3 X G E 46).ex;obtain⟨f_ar0,fd_ar0,m_ar0,F_ar0,k_ar0,b_ar0⟩:=(show Df K mg "_law_lifted" (top 47) ["_law_term","_law_own"] from Hd.df2 X G E 47).ex;obtain⟨f_ay0,fd_ay0,m_ay0,F_ay0,k_ay0,b_ay0⟩:=(show Df K mg "_law_size" (top 48) ["_law_statement_here"] from Hd.df1 X G E 48).ex;obtain⟨f_ax0,fd_ax0,m_ax0,F_ax0,k_ax0,b_ax0⟩:=(show Df K mg "_law_simple" (top 49) ["_law_cell_here","_law_given_here","_law_words_here"] from Hd.df3 X G E 49).ex;obtain⟨f_aw0,fd_aw0,m_aw0,F_aw0,k_aw0,b_aw0⟩:=(show Df K mg "_law_sided" (top 50) ["_law_cell_here","_law_size_here","_law_given_here","_law_words_here"] from Hd.df4 X G E 50).ex;obtain⟨f_ak0,fd_ak0,m_ak0,F_ak0,k_ak0,b_ak0⟩:=(show Df K mg "_law_chosen" (top 51) ["_law_cell_here","_law_size_here","_law_given_here","_law_words_here"] from Hd.df4 X G E 51).ex;obtain⟨f_bb0,fd_bb0,m_bb0,F_bb0,k_bb0,b_bb0⟩:=(show Df K mg "_law_used" (top 52) ["_law_cell_here","_law_size_here","_law_given_here","_law_words_here"] from Hd.df4 X G E 52).ex;obtain⟨f_ah0,fd_ah0,m_ah0,F_ah0,k_ah0,b_ah0⟩:=(show Df K mg "_law_any" (top 53) ["_law_cell_here","_law_size_here","_law_given_here","_law_words_here"] from Hd.df4 X G E 53).ex;obtain⟨f_as0,fd_as0,m_as0,F_as0,k_as0,b_as0⟩:=(show Df K mg "_law_made" (top 54) ["_law_cell_here","_law_size_here","_law_given_here","_law_words_here"] from Hd.df4 X G E 54).ex;obtain⟨f_al0,fd_al0,m_al0,F_al0,k_al0,b_al0⟩:=(show Df K mg "_law_given" (top 55) ["_law_script","_law_words_here"] from Hd.df2 X G E 55).ex;obtain⟨f_av0,fd_av0,m_av0,F_av0,k_av0,b_av0⟩:=(show Df K mg "_law_same" (top 56) ["_law_found","_law_due"] from Hd.df2 X G E 56).ex;obtain⟨f_ap0,fd_ap0,m_ap0,F_ap0,k_ap0,b_ap0⟩:=(show Df K mg "_law_kind_of_two" (top 58) ["_law_term","_law_given_here"] from Hd.df2 X G E 58).ex;obtain⟨f_ao0,fd_ao0,m_ao0,F_ao0,k_ao0,b_ao0⟩:=(show Df K mg "_law_kind_of_cases" (top 57) ["_law_term","_law_given_here"] from Hd.df2 X G E 57).ex;obtain⟨f_an0,fd_an0,m_an0,F_an0,k_an0,b_an0⟩:=(show Df K mg "_law_kind" (top 59) ["_law_term","_law_given_here"] from Hd.df2 X G E 59).ex;obtain⟨f_am0,fd_am0,m_am0,F_am0,k_am0,b_am0⟩:=(show Df K mg "_law_inner" (top 61) ["_law_term"] from Hd.df1 X G E 61).ex;obtain⟨f_au0,fd_au0,m_au0,F_au0,k_au0,b_au0⟩:=(show Df K mg "_law_other" (top 60) ["_law_term","_law_cell_here","_law_given_here","_law_words_here"] from Hd.df4 X G E 60).ex;obtain⟨f_az0,fd_az0,m_az0,F_az0,k_az0,b_az0⟩:=(show Df K mg "_law_spoiled" (top 62) ["_law_term","_law_cell_here","_law_given_here","_law_words_here"] from Hd.df4 X G E 62).ex;obtain⟨f_ca0,fd_ca0,m_ca0,F_ca0,k_ca0,b_ca0⟩:=(show Df K mg "within" (top 16) ["statement"] from Hd.df1 X G E 16).ex;obtain⟨f_bx0,fd_bx0,m_bx0,F_bx0,k_bx0,b_bx0⟩:=(show Df K mg "pieces" (top 17) ["statement"] from Hd.df1 X G E 17).ex;obtain⟨f_bd0,fd_bd0,m_bd0,F_bd0,k_bd0,b_bd0⟩:=(show Df K mg "folded" (top 18) ["statement","of_simple","of_pair"] from Hd.df3 X G E 18).ex;obtain⟨f_bi0,fd_bi0,m_bi0,F_bi0,k_bi0,b_bi0⟩:=(show Df K mg "noted" (top 23) ["book","row"] from Hd.df2 X G E 23).ex;obtain⟨f_bz0,fd_bz0,m_bz0,F_bz0,k_bz0,b_bz0⟩:=(show Df K mg "row_of" (top 25) ["book","number","name"] from Hd.df3 X G E 25).ex;obtain⟨f_bq0,fd_bq0,m_bq0,F_bq0,k_bq0,b_bq0⟩:=(show Df K mg "of_pair" (top 26) ["book","term","kinds"] from Hd.df3 X G E 26).ex;obtain⟨f_bo0,fd_bo0,m_bo0,F_bo0,k_bo0,b_bo0⟩:=(show Df K mg "of_left" (top 27) ["book","term","kinds"] from Hd.df3 X G E 27).ex;obtain⟨f_bs0,fd_bs0,m_bs0,F_bs0,k_bs0,b_bs0⟩:=(show Df K mg "of_right" (top 28) ["book","term","kinds"] from Hd.df3 X G E 28).ex;obtain⟨f_bm0,fd_bm0,m_bm0,F_bm0,k_bm0,b_bm0⟩:=(show Df K mg "of_first" (top 29) ["book","term","kinds"] from Hd.df3 X G E 29).ex;obtain⟨f_bt0,fd_bt0,m_bt0,F_bt0,k_bt0,b_bt0⟩:=(show Df K mg "of_second" (top 30) ["book","term","kinds"] from Hd.df3 X G E 30).ex;obtain⟨f_bl0,fd_bl0,m_bl0,F_bl0,k_bl0,b_bl0⟩:=(show Df K mg "of_cases" (top 31) ["book","term","kinds"] from Hd.df3 X G E 31).ex;obtain⟨f_bn0,fd_bn0,m_bn0,F_bn0,k_bn0,b_bn0⟩:=(show Df K mg "of_fun" (top 32) ["book","term","kinds"] from Hd.df3 X G E 32).ex;obtain⟨f_bw0,fd_bw0,m_bw0,F_bw0,k_bw0,b_bw0⟩:=(show Df K mg "of_use" (top 33) ["book","term","kinds"] from Hd.df3 X G E 33).ex;obtain⟨f_bp0,fd_bp0,m_bp0,F_bp0,k_bp0,b_bp0⟩:=(show Df K mg "of_off" (top 34) ["book","term","kinds"] from Hd.df3 X G E 34).ex;obtain⟨f_bk0,fd_bk0,m_bk0,F_bk0,k_bk0,b_bk0⟩:=(show Df K mg "of_at" (top 36) ["book","asked","given"] from Hd.df3 X G E 36).ex;obtain⟨f_bf0,fd_bf0,m_bf0,F_bf0,k_bf0,b_bf0⟩:=(show Df K mg "kind_by" (top 37) ["book","asked","given"] from Hd.df3 X G E 37).ex;obtain⟨f_by0,fd_by0,m_by0,F_by0,k_by0,b_by0⟩:=(show Df K mg "put_in_front" (top 38) ["book","asked"] from Hd.df2 X G E 38).ex;obtain⟨f_bh0,fd_bh0,m_bh0,F_bh0,k_bh0,b_bh0⟩:=(show Df K mg "next_within" (top 39) ["book","asked"] from Hd.df2 X G E 39).ex;obtain⟨f_be0,fd_be0,m_be0,F_be0,k_be0,b_be0⟩:=(show Df K mg "kind" (top 40) ["term","given"] from Hd.df2 X G E 40).ex;obtain⟨f_ai0,fd_ai0,m_ai0,F_ai0,k_ai0,b_ai0⟩:=(show Df K mg "_law_asked" (top 63) ["_law_term","_law_given_here"] from Hd.df2 X G E 63).ex;obtain⟨f_bg0,oc_bg0,od_bg0,sl_bg0,kV_bg0,dc_bg0,pm_bg0,an_bg0,cd_bg0,ct_bg0,a_bg0,l_bg0,c_bg0,k_bg0⟩:Hd.FnF K "law" (top 64):=Hd.fn_ofx (by kernel_rfl) (Hd.e_fn E (i:=64) (by decide));obtain⟨f_bj0,fd_bj0,a_bj0,F_bj0,F0_number_of,v_number_of,_,_⟩:Hd.FunTF K "number_of" (top 24) (Hd.tabAt K "number_of"):=Hd.funT_ofx (by kernel_rfl) (Hd.e_fn E (i:=24) (by decide)) (Hd.t_code hc (by decide));have m_bj0:=W.mg_of X G a_bj0;have k_bj0:=F0_number_of.kp
 have b_bj0:=F0_number_of.binds (ps:=["book","statement"]) fun _ _ _ _ _ _ us hl=>match us,hl with | [_,_],_=>rfl
 have hB_number_of:=fun h k=>hblt.at (nT _ (Yb9 K)) h k;have a_bq0:=Hd.nsx X G E 26 m_bq0;have a_bo0:=Hd.nsx X G E 27 m_bo0;have a_bs0:=Hd.nsx X G E 28 m_bs0;have a_bm0:=Hd.nsx X G E 29 m_bm0;have a_bt0:=Hd.nsx X G E 30 m_bt0;have a_bl0:=Hd.nsx X G E 31 m_bl0;have a_bn0:=Hd.nsx X G E 32 m_bn0;have a_bw0:=Hd.nsx X G E 33 m_bw0;have a_bp0:=Hd.nsx X G E 34 m_bp0;obtain⟨aPAIRED,g_PAIRED,t_PAIRED⟩:Hd.TupF K "PAIRED" ["both","one","then"]:=Hd.tup_ofx (by kernel_rfl) (by kernel_rfl) (by decide) (Hd.e_tup E (i:=15) (by decide));obtain⟨aLOW,g_LOW,t_LOW⟩:Hd.TupF K "LOW" ["low"]:=Hd.tup_ofx (by kernel_rfl) (by kernel_rfl) (by decide) (Hd.e_tup E (i:=14) (by decide));obtain⟨aDEEDS,g_DEEDS,D_DEEDS⟩:Hd.KfF K w "DEEDS" _:=Hd.kf_ofx (l:=[("pair","of_pair"),("left","of_left"),("right","of_right"),("first","of_first"),("second","of_second"),("cases","of_cases"),("fun","of_fun"),("use","of_use"),("off","of_off")]) [f_bq0,f_bo0,f_bs0,f_bm0,f_bt0,f_bl0,f_bn0,f_bw0,f_bp0] (by kernel_rfl) (by kernel_rfl) (.cons a_bq0 (.cons a_bo0 (.cons a_bs0 (.cons a_bm0 (.cons a_bt0 (.cons a_bl0 (.cons a_bn0 (.cons a_bw0 (.cons a_bp0 (.nil)))))))))) (show (["pair","left","right","first","second","cases","fun","use","off"]:List Str).Nodup by decide) (Hd.e_kf E (i:=35) (by decide));have g_KenError:=Hd.c_refx (x:="KenError") D (i:=1) (by kernel_rfl) (by decide);have g_NoText:=Hd.c_refx (x:="NoText") D (i:=2) (by kernel_rfl) (by decide);have g_NoWorlds:=Hd.c_refx (x:="NoWorlds") D (i:=3) (by kernel_rfl) (by decide);have g_NoRule:=Hd.c_refx (x:="NoRule") D (i:=4) (by kernel_rfl) (by decide);have g_NoLine:=Hd.c_refx (x:="NoLine") D (i:=5) (by kernel_rfl) (by decide);have g_NoKind:=Hd.c_refx (x:="NoKind") D (i:=6) (by kernel_rfl) (by decide);have g_NoTurning:=Hd.c_refx (x:="NoTurning") D (i:=7) (by kernel_rfl) (by decide);have g_Large:=Hd.c_refx (x:="Large") D (i:=8) (by kernel_rfl) (by decide);have g_NotShown:=Hd.c_refx (x:="NotShown") D (i:=9) (by kernel_rfl) (by decide);have g_Twice:=Hd.c_refx (x:="Twice") D (i:=10) (by kernel_rfl) (by decide);have g_NoWish:=Hd.c_refx (x:="NoWish") D (i:=11) (by kernel_rfl) (by decide);have g_NoRow:=Hd.c_refx (x:="NoRow") D (i:=12) (by kernel_rfl) (by decide);have g_Book:=Hd.c_refx (x:="Book") D (i:=21) (by kernel_rfl) (by decide);have g_Asked:=Hd.c_refx (x:="Asked") D (i:=22) (by kernel_rfl) (by decide);obtain⟨x_NoKind,z_NoKind,i_1,i_2⟩:=Hd.c_exc D (ij:=(6,1)) (by decide);have i_3:=Hd.c_kit D (ij:=(6,[8,2,5,12,4,9])) (by decide);have i_4:=Hd.c_kit D (ij:=(6,[7,11,3,10])) (by decide);have m_len:=W.mg_none_of X G (n:="len") (Hd.e_bl E (.head _));have m_range:=W.mg_none_of X G (n:="range") (Hd.e_bl E (.tail _ (.head _)));have m_max:=W.mg_none_of X G (n:="max") (Hd.e_bl E (.tail _ (.tail _ (.head _))));have m_int:=W.mg_none_of X G (n:="int") (Hd.e_bl E (.tail _ (.tail _ (.tail _ (.head _)))));have m_reversed:=W.mg_none_of X G (n:="reversed") (Hd.e_bl E (.tail _ (.tail _ (.tail _ (.tail _ (.head _))))));have m_list:=W.mg_none_of X G (n:="list") (Hd.e_bl E (.tail _ (.tail _ (.tail _ (.tail _ (.tail _ (.head _)))))));have m_zip:=W.mg_none_of X G (n:="zip") (Hd.e_bl E (.tail _ (.tail _ (.tail _ (.tail _ (.tail _ (.tail _ (.head _))))))));have m_tuple:=W.mg_none_of X G (n:="tuple") (Hd.e_bl E (.tail _ (.tail _ (.tail _ (.tail _ (.tail _ (.tail _ (.tail _ (.head _)))))))));have m_isinstance:=W.mg_none_of X G (n:="isinstance") (Hd.e_bl E (.tail _ (.tail _ (.tail _ (.tail _ (.tail _ (.tail _ (.tail _ (.tail _ (.head _))))))))));have m_bool:=W.mg_none_of X G (n:="bool") (Hd.e_bl E (.tail _ (.tail _ (.tail _ (.tail _ (.tail _ (.tail _ (.tail _ (.tail _ (.tail _ (.head _)))))))))));have m_str:=W.mg_none_of X G (n:="str") (Hd.e_bl E (.tail _ (.tail _ (.tail _ (.tail _ (.tail _ (.tail _ (.tail _ (.tail _ (.tail _ (.tail _ (.head _))))))))))));have m_ValueError:=W.mg_none_of X G (n:="ValueError") (Hd.e_bl E (.tail _ (.tail _ (.tail _ (.tail _ (.tail _ (.tail _ (.tail _ (.tail _ (.tail _ (.tail _ (.tail _ (.head _)))))))))))));cases hfa.symm.trans (W.mg_of X G a_bg0);have F_bg0:=Ym9 (st:=(top 64)) l_bg0 c_bg0 k_bg0;have m_ag0:=W.mg_of X G g_PAIRED;have m_LOW:=W.mg_of X G g_LOW;have m_ae0:=W.mg_of X G g_DEEDS;have m_KenError:=W.mg_of X G g_KenError;have m_NoText:=W.mg_of X G g_NoText;have m_NoWorlds:=W.mg_of X G g_NoWorlds;have m_NoRule:=W.mg_of X G g_NoRule;have m_NoLine:=W.mg_of X G g_NoLine;have m_NoKind:=W.mg_of X G g_NoKind;have m_NoTurning:=W.mg_of X G g_NoTurning;have m_Large:=W.mg_of X G g_Large;have m_NotShown:=W.mg_of X G g_NotShown;have m_Twice:=W.mg_of X G g_Twice;have m_NoWish:=W.mg_of X G g_NoWish;have m_NoRow:=W.mg_of X G g_NoRow;have m_ac0:=W.mg_of X G g_Book;have m_aa0:=W.mg_of X G g_Asked;obtain⟨aINNER,aT,g_INNER,D_INNER,hI⟩:=Hd.in_of hIn;have m_af0:=W.mg_of X G g_INNER
 have hN:([Hd.tabAt K "number_of"]:List Addr).Nodup:=by
  rw[← Zl9];exact hNd
 obtain⟨f_ad0,fd_ad0,P_Book⟩:=Hd.pl_of hPl (r:=⟨21,0,Str.ofString "Book.__init__",[Str.ofString "rows",Str.ofString "statements",Str.ofString "numbers"]⟩) (.head _);have F_ad0:Fun K "__init__" "Book.__init__" Xb3 f_ad0 fd_ad0:=P_Book.fn;have b_ad0:=F_ad0.binds (ps:=["self"]) fun _ _ _ _ _ _ us hl=>Ken.len1 hl (fun _=>rfl);obtain⟨f_ab0,fd_ab0,P_Asked⟩:=Hd.pl_of hPl (r:=⟨22,0,Str.ofString "Asked.__init__",[Str.ofString "term",Str.ofString "front",Str.ofString "kinds"]⟩) (.tail _ (.head _));have F_ab0:Fun K "__init__" "Asked.__init__" Xb4 f_ab0 fd_ab0:=P_Asked.fn;have b_ab0:=F_ab0.binds (ps:=["self","term","front"]) fun _ _ _ _ _ _ us hl=>Ken.len3 hl (fun _ _ _=>rfl);have CBB:ClsB K _:=⟨P_Book.c,P_Book.na _ (.head _),P_Book.na _ (.tail _ (.head _)),P_Book.na _ (.tail _ (.tail _ (.head _)))⟩;have CAA:ClsA K _:=⟨P_Asked.c,P_Asked.na _ (.head _),P_Asked.na _ (.tail _ (.head _)),P_Asked.na _ (.tail _ (.tail _ (.head _)))⟩;refine⟨W.fnOf "law" "law" (Zd3 (top 64)) (Zc9 (top 64)) (Za7 (top 64)) .none kV_bg0 dc_bg0 pm_bg0 an_bg0 cd_bg0 ct_bg0,fun s v=>.of_eq rfl,fun base _ _=>?_⟩;have G_at0:=Xf5 (P:=l.prog) (w:=w) (mg:=mg) (base:=base) (k:=0) F_at0;have G_aj0:=Xv2 (P:=l.prog) (w:=w) (mg:=mg) (base:=base) (k:=1) F_aj0 (.of (G_at0.mono (by decide)) m_at0 k_at0 b_at0) m_len;have G_bc0:=Xt6 (P:=l.prog) (w:=w) (mg:=mg) (base:=base) (k:=0) F_bc0 m_range;have G_aq0:=Xf7 (P:=l.prog) (w:=w) (mg:=mg) (base:=base) (k:=0) F_aq0 m_len;have G_ba0:=Yz2 (P:=l.prog) (w:=w) (mg:=mg) (base:=base) F_ba0 m_ba0 b_ba0 (fun k=>Xf5 F_at0) m_at0 k_at0 b_at0 (fun k=>Xf7 F_aq0 m_len) m_aq0 k_aq0 b_aq0 12;have G_ar0:=Yz4 (P:=l.prog) (w:=w) (mg:=mg) (base:=base) F_ar0 m_ar0 b_ar0 m_int 30;have G_ay0:=Xu0 (P:=l.prog) (w:=w) (mg:=mg) (base:=base) (k:=0) F_ay0 m_len;have G_ax0:=Xu1 (P:=l.prog) (w:=w) (mg:=mg) (base:=base) (k:=13) F_ax0 (.of (G_ba0.mono (by decide)) m_ba0 k_ba0 b_ba0) m_len;have G_as0:=Xm6 (P:=l.prog) (w:=w) (mg:=mg) (base:=base) (k:=30) F_as0 m_as0 b_as0 F_ah0 m_ah0 b_ah0 F_aw0 m_aw0 b_aw0 F_ak0 m_ak0 b_ak0 F_bb0 m_bb0 b_bb0 (.of (G_ax0.mono (by decide)) m_ax0 k_ax0 b_ax0) (.of (G_at0.mono (by decide)) m_at0 k_at0 b_at0) (.of (G_ay0.mono (by decide)) m_ay0 k_ay0 b_ay0) (.of (G_ar0.mono (by decide)) m_ar0 k_ar0 b_ar0) (.of (G_aq0.mono (by decide)) m_aq0 k_aq0 b_aq0) (.of (G_ba0.mono (by decide)) m_ba0 k_ba0 b_ba0) 16;have G_al0:=Xv0 (P:=l.prog) (w:=w) (mg:=mg) (base:=base) (k:=13) F_al0 (.of (G_aj0.mono (by decide)) m_aj0 k_aj0 b_aj0) (.of (G_at0.mono (by decide)) m_at0 k_at0 b_at0) (.of (G_ba0.mono (by decide)) m_ba0 k_ba0 b_ba0) m_range m_max m_len;have G_av0:=Yz3 (P:=l.prog) (w:=w) (mg:=mg) (base:=base) F_av0 m_av0 b_av0 m_isinstance m_str m_range m_len m_tuple 180;have G_an0:=Xm7 (P:=l.prog) (w:=w) (mg:=mg) (base:=base) F_an0 m_an0 b_an0 F_ap0 m_ap0 b_ap0 F_ao0 m_ao0 b_ao0 m_len m_int 60;have G_am0:=Xu9 (P:=l.prog) (w:=w) (mg:=mg) (base:=base) (k:=0) F_am0;have G_au0:=Xu4 (P:=l.prog) (w:=w) (mg:=mg) (base:=base) (k:=13) F_au0 (.of (G_at0.mono (by decide)) m_at0 k_at0 b_at0) (.of (G_ba0.mono (by decide)) m_ba0 k_ba0 b_ba0) m_len m_int;have G_az0:=Xm5 (P:=l.prog) (w:=w) (mg:=mg) (base:=base) (k:=30) F_az0 m_az0 b_az0 (.of (G_at0.mono (by decide)) m_at0 k_at0 b_at0) (.of (G_am0.mono (by decide)) m_am0 k_am0 b_am0) (.of (G_au0.mono (by decide)) m_au0 k_au0 b_au0) m_len 60;have G_be0:=Xm4 (P:=l.prog) (w:=w) (mg:=mg) (base:=base) (T:=Hd.tabAt K "number_of") CBB CAA F_bj0 hB_number_of v_number_of m_bj0 k_bj0 b_bj0 F_ca0 m_ca0 b_ca0 F_bx0 m_bx0 b_bx0 F_bd0 m_bd0 b_bd0 F_bi0 m_bi0 b_bi0 F_bz0 m_bz0 b_bz0 F_bq0 m_bq0 b_bq0 F_bo0 m_bo0 b_bo0 F_bs0 m_bs0 b_bs0 F_bm0 m_bm0 b_bm0 F_bt0 m_bt0 b_bt0 F_bl0 m_bl0 b_bl0 F_bn0 m_bn0 b_bn0 F_bw0 m_bw0 b_bw0 F_bp0 m_bp0 b_bp0 F_bk0 m_bk0 b_bk0 F_bf0 m_bf0 b_bf0 F_by0 m_by0 b_by0 F_bh0 m_bh0 b_bh0 F_be0 m_be0 b_be0 F_ad0 P_Book.mkc m_ac0 b_ad0 F_ab0 P_Asked.mkc m_aa0 b_ab0 m_ag0 t_PAIRED m_LOW t_LOW m_af0 D_INNER hI m_ae0 D_DEEDS m_NoKind x_NoKind m_len m_reversed;have G_ai0:=Xv3 (P:=l.prog) (w:=w) (mg:=mg) (base:=base) (k:=181) (N:=⟨Hd.tabAt K "number_of",Zc6⟩) F_ai0 (G_be0.mono (by decide)) m_be0 k_be0 b_be0 (.of (G_an0.mono (by decide)) m_an0 k_an0 b_an0) (.of (G_av0.mono (by decide)) m_av0 k_av0 b_av0) m_NoTurning x_NoKind.xc z_NoKind m_KenError m_Large m_NoKind m_NoLine m_NoRow m_NoWorlds m_NoWish m_NoRule m_NotShown m_Twice m_NoText i_1 i_2 i_3 i_4 m_isinstance m_ValueError m_list;have G_bg0:=Xt3 (P:=l.prog) (w:=w) (mg:=mg) (base:=base) (k:=182) F_bg0 (.of (G_bc0.mono (by decide)) m_bc0 k_bc0 b_bc0) (.of (G_aj0.mono (by decide)) m_aj0 k_aj0 b_aj0) (.of (G_at0.mono (by decide)) m_at0 k_at0 b_at0) (.of (G_al0.mono (by decide)) m_al0 k_al0 b_al0) (.of (G_as0.mono (by decide)) m_as0 k_as0 b_as0) (.of (G_az0.mono (by decide)) m_az0 k_az0 b_az0) (.of (G_ai0.mono (by decide)) m_ai0 k_ai0 b_ai0) m_range m_int;exact G_bg0
noncomputable def dLaw:PySem.DefRec:=⟨"law",Zd3 (top 64),Zc9 (top 64),Za7 (top 64),Hd.posOf (top 64)⟩
theorem wlk:W.WalkO q loose (W.XL q []) (Hd.hook10 pg ask cask mask tas pls ut).says (PySem.Challenge.rw_ken_k42_no_kind).row.toRowW dLaw [] (fun f vs=>PySem.call f vs) :=
 Hd.walkH10 (l:=PySem.Challenge.rw_ken_k42_no_kind) (n:=63) (k:=183) (x:="_law_script") (CX:=CX0) (sp:=fun K ts=>(fun K=>Zy2 K ⟨(ts.getD 0 0),Zc6⟩) K) rfl (by decide) rfl ⟨rfl,by decide,by decide⟩ (by decide) (fun w mg fa h K bm KX G hmg E D E2 D2 hc hI hTr hN hP hb nT=>by
   rw[Yc0]
   exact Xm3 KX G hmg E D E2 D2 hc hI hTr hN hP hb nT)
  (fun K ts H a ns hl hn hO hS=>by
   have hn:ts.length=1:=hn
   match ts,hn,hO with
   | [T_number_of],_,hO=>exact⟨a,ns,rfl,hS,hl,TabOk.new (hO T_number_of (by simp)),fun _=>rfl⟩) fun _ _ _ _ z=>z
end
end KLaw
open PySem PySem.W PyProof.Rows
set_option maxRecDepth 100000 in
set_option maxHeartbeats 0 in
theorem PySem.Challenge.cw_ken_k42_no_kind_holds : PySem.Challenge.rw_ken_k42_no_kind.Holds := by
 refine W.holds_law ws0 fun said=>W.holds_open (q:=KLaw.q) (loose:=KLaw.loose) (XP:=XL KLaw.q []) (d:=KLaw.dLaw) (kwd:=[]) (YP:=(Hd.hook10 KLaw.pg KLaw.ask KLaw.cask KLaw.mask KLaw.tas KLaw.pls KLaw.ut).says)
  KLaw.lft (Hd.hook10 KLaw.pg KLaw.ask KLaw.cask KLaw.mask KLaw.tas KLaw.pls KLaw.ut).of (Hd.hook10 KLaw.pg KLaw.ask KLaw.cask KLaw.mask KLaw.tas KLaw.pls KLaw.ut).keeps
  (fun s e=>xl_of s (Bool.and_eq_true_iff.mp e).1) XL.keeps (by kernel_rfl) (by kernel_rfl) rfl (fun s e=>recFacts_of (Bool.and_eq_true_iff.mp e).2)
  rfl said (by decide +kernel) ⟨rfl,rfl,rfl,rfl,rfl,by decide +kernel⟩ ?hw ?hc
 (case hw=>w_witness2)
 exact KLaw.wlk
