import PyProof.Rows.All
import Wide.All
import OpenK.AllK
import Wide.FinOn
import Lean
import PyProof.EqAt
import PyProof.EqKinds
import PyProof.TupleCall
import PyProof.NeData
import PyProof.P3In
import PyProof.ZipIter
import PyProof.Rows.ZipGen
import KE.KRevIter
import PyProof.CollectIter
import PyProof.ListRange
import PyProof.EnumMake
import PyProof.EnumFor
import PyProof.EnumStmt
import PyProof.Rows.SortStr
import KE.KDictList
import KE.KSortTup
import KE.KSortAsk
import PyProof.SumAny
import PyProof.WalksMore
import KE.KTupSum
import PyProof.FactsAll.set
import PyProof.Rows.SetFrom
import PyProof.InstStoreFacts
import PyProof.Rows.Range3
import PyProof.FactsAll.tuple_2
import PyProof.Rows.SeqMore2
import PyProof.Rows.SortShell
import PyProof.Draws
import KE.KxText
import PyProof.SeqI3
import PyProof.Rows.CallKwBuiltin
import PySem.Challenge.RW_ken_k55_same_whichever_first
set_option maxRecDepth 100000 in
set_option maxHeartbeats 0 in
theorem ws0:PySem.Challenge.rw_ken_k55_same_whichever_first.wellSaid=true:=by decide +kernel
local macro_rules | `(tactic| walk_at "o")=>`(tactic| first | lia | omega)
set_option Elab.async false
set_option linter.all false
set_option maxRecDepth 100000
namespace L2
open PySem PySem.Spec PyProof.Rows
noncomputable abbrev Key:=Sum Int Str
noncomputable def Yy9:Key→Value→Bool
 | .inl k,v=>Value.isInt k v
 | .inr x,v=>Value.isStrOf x v
noncomputable def keyH (w:World):Key→Int
 | .inl k=>hashInt k
 | .inr x=>hashStr w x
theorem Ze7:∀ {k:Key} {v:Value},Yy9 k v=true→(∃ i t,k=Sum.inl i∧v=Value.int i t)∨(∃ x t,k=Sum.inr x∧v=Value.str x t)
 | .inl i,v,h=>by
  obtain⟨t,e⟩:=Value.isInt_shape (k:=i) (v:=v) h;exact .inl ⟨i,t,rfl,e⟩
 | .inr x,v,h=>by
  obtain⟨t,e⟩:=Value.isStrOf_shape (x:=x) (v:=v) h;exact .inr ⟨x,t,rfl,e⟩
theorem Xh4 (i:Int) (t:Tok):Yy9 (.inl i) (.int i t)=true:=by simp[Yy9,Value.isInt]
theorem Xh3 (x:Str) (t:Tok):Yy9 (.inr x) (.str x t)=true:=by simp[Yy9,Value.isStrOf]
theorem Wi4 (a b:Int):decide ((Sum.inl a:Key)=Sum.inl b)=(a == b):=by
 by_cases e:a=b
 ·subst e;simp
 ·have h:¬ (Sum.inl a:Key)=Sum.inl b:=fun q=>e (Sum.inl.inj q)
  rw[decide_eq_false h];exact (beq_eq_false_iff_ne.mpr e).symm
theorem Wi1 (a b:Str):decide ((Sum.inr a:Key)=Sum.inr b)=decide (a=b):=by
 by_cases e:a=b
 ·subst e;simp
 ·have h:¬ (Sum.inr a:Key)=Sum.inr b:=fun q=>e (Sum.inr.inj q)
  rw[decide_eq_false h,decide_eq_false e]
theorem Wi3 (a:Int) (b:Str):decide ((Sum.inl a:Key)=Sum.inr b)=false:=decide_eq_false (fun q=>nomatch q)
theorem Wi2 (a:Str) (b:Int):decide ((Sum.inr a:Key)=Sum.inl b)=false:=decide_eq_false (fun q=>nomatch q)
noncomputable def Ze4 (prog:Program) (w:World):PySem.KeyKind prog w Key where
  is:=Yy9
  hash:=keyH w
  inj:=fun v a b ha hb=>by
    rcases Ze7 ha with ⟨i,t,rfl,rfl⟩ | ⟨x,t,rfl,rfl⟩
    · rcases Ze7 hb with ⟨j,u,rfl,e⟩ | ⟨y,u,rfl,e⟩
      · injection e with e1 _;rw[e1]
      · exact nomatch e
    · rcases Ze7 hb with ⟨j,u,rfl,e⟩ | ⟨y,u,rfl,e⟩
      · exact nomatch e
      · injection e with e1 _;rw[e1]
  byValue:=fun k v h=>by
    rcases Ze7 h with ⟨i,t,rfl,rfl⟩ | ⟨x,t,rfl,rfl⟩<;>rfl
  pyHash:=fun hv h=>by
    rcases Ze7 hv with ⟨i,t,rfl,rfl⟩ | ⟨x,t,rfl,rfl⟩
    · exact wpAny_pyHash_int h
    · exact wpAny_pyHash_str h
  eqBool:=fun hu hv h=>by
    rcases Ze7 hu with ⟨i,t,rfl,rfl⟩ | ⟨x,t,rfl,rfl⟩
    · rcases Ze7 hv with ⟨j,u,rfl,rfl⟩ | ⟨y,u,rfl,rfl⟩
      · rw[Wi4] at h;exact wpAny_eqBool_int h
      · rw[Wi3] at h;exact SeqAt.EqAt.int_str i t y u _ _ _ _ h
    · rcases Ze7 hv with ⟨j,u,rfl,rfl⟩ | ⟨y,u,rfl,rfl⟩
      · rw[Wi2] at h;exact SeqAt.EqAt.str_int x t j u _ _ _ _ h
      · rw[Wi1] at h;exact wpAny_eqBool_str h
  «strs»:=fun k x t v h=>by
    rcases Ze7 h with ⟨i,u,rfl,e⟩ | ⟨y,u,rfl,e⟩
    · exact nomatch e
    · injection e with e1 _
      subst e1
      cases v<;>rfl
theorem Yp4 (prog:Program) (w:World) (i:Int) (t:Tok):(Ze4 prog w).is (.inl i) (.int i t)=true:=Xh4 i t
theorem Zz0 (prog:Program) (w:World) (x:Str) (t:Tok):(Ze4 prog w).is (.inr x) (.str x t)=true:=Xh3 x t
inductive V where
 | non | bl (b:Bool) | int (i:Int) | str (x:Str) | byt (b:Array UInt8) | flt (b:UInt64) | ref (a:Addr) | ty (n:String)
 deriving DecidableEq
def RelV:V→Value→Prop
 | .non,u=>u=Value.none
 | .bl b,u=>u=Value.bool b
 | .int i,u=>∃ t,u=Value.int i t
 | .str x,u=>∃ t,u=Value.str x t
 | .byt b,u=>∃ t,u=Value.bytes b t
 | .flt b,u=>∃ t,u=Value.float b t
 | .ref a,u=>u=Value.ref a
 | .ty n,u=>u=Value.type n
abbrev Vals:List V→List Value→Prop:=Paired RelV
theorem Vals.length {xs:List V} {us:List Value} (r:Vals xs us):xs.length=us.length:=Paired.length r
theorem Vals.get:∀ {xs:List V} {us:List Value} {i:Nat} {x:V},Vals xs us→xs[i]?=some x→∃ u,us[i]?=some u∧RelV x u
 | _,_,_,_,.nil,e=>by simp at e
 | _,_,0,_,.cons r _,e=>by simp at e;subst e;exact⟨_,rfl,r⟩
 | _,_,i+1,x,.cons _ t,e=>by
  obtain⟨u,h1,h2⟩:=Vals.get (i:=i) (x:=x) t (by simpa using e);exact⟨u,by simpa using h1,h2⟩
theorem Vals.set {x:V} {u:Value} (r:RelV x u):∀ {xs:List V} {us:List Value} (i:Nat),Vals xs us→Vals (xs.set i x) (us.set i u)
 | _,_,_,.nil=>.nil
 | _,_,0,.cons _ t=>.cons r t
 | _,_,i+1,.cons q t=>.cons q (Vals.set r i t)
theorem Vals.append:∀ {xs ys:List V} {us ws:List Value},Vals xs us→Vals ys ws→Vals (xs++ys) (us++ws)
 | _,_,_,_,.nil,s=>s
 | _,_,_,_,.cons r t,s=>.cons r (Vals.append t s)
theorem Vals.take:∀ {xs:List V} {us:List Value} (n:Nat),Vals xs us→Vals (xs.take n) (us.take n)
 | _,_,0,_=>.nil
 | _,_,_+1,.nil=>.nil
 | _,_,n+1,.cons r t=>.cons r (Vals.take n t)
theorem Vals.drop:∀ {xs:List V} {us:List Value} (n:Nat),Vals xs us→Vals (xs.drop n) (us.drop n)
 | _,_,0,r=>r
 | _,_,_+1,.nil=>.nil
 | _,_,n+1,.cons _ t=>Vals.drop n t
def RelO:Option V→Option Value→Prop
 | some v,some u=>RelV v u
 | none,none=>True
 | _,_=>False
def KV {κ:Type}:List (κ×V)→List (κ×Value)→Prop:=Paired fun (p:κ×V) (q:κ×Value)=>p.1=q.1∧RelV p.2 q.2
noncomputable def kV:Key→V
 | .inl i=>.int i
 | .inr x=>.str x
inductive HO where
 | lst (xs:List V)
 | tup (xs:List V)
 | dK (kvs:List (Key×V)) | dT (kvs:List (List Key×V))
 | set (S:Int→Bool) (n:Nat)
 | ins (C dx:Addr) (fs:List (Str×V))
 | own (x:Addr)
 | xd (fs:List (Str×V))
 | met (f x:Addr)
 | rng (lo hi:Int)
 | frz (o:Obj) (u:HO)
 | tbl (ps:Array Value)
 | ext (φ:Heap→Prop)
noncomputable abbrev Hp:=Addr→Option HO
noncomputable def upd (H:Hp) (a:Addr) (o:HO):Hp:=fun b=>if b=a then some o else H b
theorem Za5 {H:Hp} {a:Addr} {o:HO}:upd H a o a=some o:=by unfold upd;rw[if_pos rfl]
theorem Zb0 {H:Hp} {a b:Addr} {o:HO} (h:b≠a):upd H a o b=H b:=by unfold upd;rw[if_neg h]
theorem Xb1 {H:Hp} {a:Addr} {o u:HO}:upd (upd H a o) a u=upd H a u:=by
 funext b;unfold upd;split<;>rfl
theorem Xg2 {H:Hp} {a b:Addr} {o u:HO} (h:H a=some o) (h':H b=some u) (d:o≠u):a≠b:=by
 intro e;subst e;rw[h] at h';exact d (Option.some.inj h')
theorem Za9 {H:Hp} {a b:Addr} {o:HO} (h:H a=some o) (h':H b=none):a≠b:=by
 intro e;subst e;rw[h] at h';cases h'
section
variable (P:Program) (w:World)
def ObjOk (H:Hp) (h:Heap) (a:Addr):HO→Prop
 | .lst xs=>xs.length≤sizeLine∧∃ (its:List Value) (n:Nat),Vals xs its∧h.get? a=some { cls:=.type "list",data:=.seq its.toArray n }
 | .tup xs=>xs.length≤sizeLine∧∃ its:List Value,Vals xs its∧IsTup h a its.toArray
 | .dK kvs=>kvs.length≤sizeLine∧(a == sysModules)=false∧∃ vs,KV kvs vs∧h.DictOf (Ze4 P w) a vs
 | .dT kvs=>kvs.length≤sizeLine∧(a == sysModules)=false∧∃ xs:List (List Key×Addr×Value),
   Paired (fun (p:List Key×V) (q:List Key×Addr×Value)=>p.1=q.1∧H q.2.1=some (.tup (p.1.map kV))∧RelV p.2 q.2.2) kvs xs ∧
   ∃ o es ep,h.get? a=some o∧o.ExactDict∧o.data=.dict es ep∧es.toList=xs.map (entryOfKey (tupleKind (Ze4 P w)))∧(xs.map (·.1)).Nodup
 | .set S n=>h.SetOf (intKind P w) a S n
 | .ins C dx fs=>H dx=some (.own a)∧fs.length≤1000∧dx≠a∧h.get? a=some (W.instObj C dx) ∧
   ∃ mA,h.Ns1 dx mA∧(∀ f,RelO (fs.lookup f) (mA f))∧PySem.Within mA (fs.map (·.1))
 | .own _=>∃ o,h.get? a=some o
 | .xd fs=>∃ mA,h.Ns1 a mA∧∀ f,RelO (fs.lookup f) (mA f)
 | .rng lo hi=>∃ t u v,h.get? a=some { cls:=.type "range",data:=.fields #[.int lo t,.int hi u,.int 1 v] }
 | .frz o u=>h.get? a=some o∧ObjOk H h a u
 | .tbl ps=>h.get? a=some { cls:=.none,data:=.fields ps }
 | .met f x=>h.get? a=some (W.methodObj (.ref f) (.ref x))
 | .ext φ=>φ h∧(∃ o,h.get? a=some o)∧∀ h1 h2:Heap,φ h1→(∀ o,h1.get? a=some o→h2.get? a=some o)→φ h2
def HOk (H:Hp) (h:Heap):Prop:=∀ a o,H a=some o→ObjOk P w H h a o
end
section
variable {P:Program} {w:World} {H H':Hp} {h h':Heap} {a:Addr} {o:HO}
theorem ObjOk.lt (x:ObjOk P w H h a o):a < h.objs.size:=by
 cases o with
 | lst xs=>obtain⟨_,_,_,_,e⟩:=x;exact Heap.lt_size e
 | tup xs=>obtain⟨_,_,_,p⟩:=x;exact p.lt
 | dK kvs=>obtain⟨_,_,_,_,o,_,_,e,_⟩:=x;exact Heap.lt_size e
 | dT kvs=>obtain⟨_,_,_,_,o,_,_,e,_⟩:=x;exact Heap.lt_size e
 | set S n=>obtain⟨o,_,_,_,e,_⟩:=x;exact Heap.lt_size e
 | ins C dx fs=>obtain⟨_,_,_,e,_⟩:=x;exact Heap.lt_size e
 | own y=>obtain⟨_,e⟩:=x;exact Heap.lt_size e
 | xd fs=>obtain⟨_,⟨_,_,_,e,_⟩,_⟩:=x;exact Heap.lt_size e
 | rng lo hi=>obtain⟨_,_,_,e⟩:=x;exact Heap.lt_size e
 | frz ob u=>obtain⟨e,_⟩:=x;exact Heap.lt_size e
 | tbl ps=>exact Heap.lt_size (show h.get? a=some _ from x)
 | met f y=>exact Heap.lt_size (show h.get? a=some _ from x)
 | ext φ=>obtain⟨_,⟨_,e⟩,_⟩:=x;exact Heap.lt_size e
theorem Paired.mapP {α β:Type} {F G:α→β→Prop}:∀ {l₁:List α} {l₂:List β},Paired F l₁ l₂→(∀ a b,F a b→G a b)→Paired G l₁ l₂
 | _,_,.nil,_=>.nil
 | _,_,.cons r t,f=>.cons (f _ _ r) (Paired.mapP t f)
theorem ObjOk.stay (x:ObjOk P w H h a o) (k:∀ b u,(b=a∨H b=some (.own a))→h.get? b=some u→h'.get? b=some u)
  (ho:∀ b,H b=some (.own a)→H' b=some (.own a)) (ht:∀ b xs,H b=some (.tup xs)→H' b=some (.tup xs)):ObjOk P w H' h' a o:=by
 induction o with
 | lst xs=>obtain⟨z,its,n,r,e⟩:=x;exact⟨z,its,n,r,k _ _ (.inl rfl) e⟩
 | tup xs=>obtain⟨z,its,r,ob,e,c⟩:=x;exact⟨z,its,r,ob,k _ _ (.inl rfl) e,c⟩
 | dK kvs=>obtain⟨z,y,vs,r,ob,es,ep,e,c⟩:=x;exact⟨z,y,vs,r,ob,es,ep,k _ _ (.inl rfl) e,c⟩
 | dT kvs =>
  obtain⟨z,y,xs,r,ob,es,ep,e,c⟩:=x;exact⟨z,y,xs,Paired.mapP r fun p q z=>⟨z.1,ht _ _ z.2.1,z.2.2⟩,ob,es,ep,k _ _ (.inl rfl) e,c⟩
 | set S n=>obtain⟨ob,es,ep,t,e,c⟩:=x;exact⟨ob,es,ep,t,k _ _ (.inl rfl) e,c⟩
 | ins C dx fs =>
  obtain⟨d,z,ne,e,mA,⟨od,es,ep,e2,c⟩,r⟩:=x;exact⟨ho _ d,z,ne,k _ _ (.inl rfl) e,mA,⟨od,es,ep,k _ _ (.inr d) e2,c⟩,r⟩
 | own y=>obtain⟨ob,e⟩:=x;exact⟨ob,k _ _ (.inl rfl) e⟩
 | xd fs=>obtain⟨mA,⟨od,es,ep,e,c⟩,r⟩:=x;exact⟨mA,⟨od,es,ep,k _ _ (.inl rfl) e,c⟩,r⟩
 | rng lo hi=>obtain⟨t,u,v,e⟩:=x;exact⟨t,u,v,k _ _ (.inl rfl) e⟩
 | frz ob u ih=>obtain⟨e,q⟩:=x;exact⟨k _ _ (.inl rfl) e,ih q⟩
 | tbl ps =>
  have e:h.get? a=some { cls:=.none,data:=.fields ps }:=x;show h'.get? a=some { cls:=.none,data:=.fields ps };exact k a _ (.inl rfl) e
 | met f y =>
  have e:h.get? a=some (W.methodObj (.ref f) (.ref y)):=x;show h'.get? a=some (W.methodObj (.ref f) (.ref y));exact k a _ (.inl rfl) e
 | ext φ=>obtain⟨p,⟨o,e⟩,st⟩:=x;exact⟨st _ _ p fun o q=>k _ _ (.inl rfl) q,⟨o,k _ _ (.inl rfl) e⟩,st⟩
theorem HOk.lt (x:HOk P w H h) (e:H a=some o):a < h.objs.size:=(x a o e).lt
theorem HOk.fresh (x:HOk P w H h) (e:h.objs.size≤a):H a=none:=by
 cases q:H a with
 | none=>rfl
 | some u=>exact absurd (Nat.lt_of_lt_of_le (x.lt q) e) (Nat.lt_irrefl _)
theorem HOk.kept (x:HOk P w H h) (k:∀ b u,h.get? b=some u→h'.get? b=some u):HOk P w H h':=fun a o e =>
 (x a o e).stay (fun b u _ q=>k b u q) (fun _ q=>q) fun _ _ q=>q
theorem HOk.laid (x:HOk P w H h) (k:∀ b u,h.get? b=some u→h'.get? b=some u) (hp:h.objs.size≤a) (new:ObjOk P w (upd H a o) h' a o):HOk P w (upd H a o) h':=fun b u e=>by
 have hn:=x.fresh hp
 by_cases hb:b=a
 ·subst hb;rw[Za5] at e;cases e;exact new
 ·rw[Zb0 hb] at e
  exact (x b u e).stay (fun c v _ q=>k c v q) (fun c q=>by rw[Zb0 (Za9 q hn)];exact q) fun c xs q=>by rw[Zb0 (Za9 q hn)];exact q
end
def Rd (H:Hp) (a:Addr) (u:HO):Prop:=H a=some u∨∃ o,H a=some (.frz o u)
theorem Rd.ok {P:Program} {w:World} {H:Hp} {h:Heap} {a:Addr} {u:HO} (r:Rd H a u) (x:HOk P w H h):ObjOk P w H h a u:=by
 rcases r with r | ⟨o,r⟩
 ·exact x a u r
 ·obtain⟨_,q⟩:=x a _ r
  exact q
def Mut:Option HO→Prop
 | some (.lst _)=>True
 | some (.dK _)=>True
 | some (.dT _)=>True
 | some (.set _ _)=>True
 | some (.ins _ _ _)=>True
 | some (.ext _)=>True
 | _=>False
section
variable {P:Program} {w:World} {H:Hp} {h h':Heap} {x e:Addr} {o':HO}
theorem HOk.write (ok:HOk P w H h) (mu:Mut (H x)) (he:e=x∨H e=some (.own x)) (k:∀ b u,b≠e→h.get? b=some u→h'.get? b=some u) (heo:∃ u,h'.get? e=some u)
  (new:ObjOk P w (upd H x o') h' x o'):HOk P w (upd H x o') h':=fun b u q=>by
 have nown:∀ c y,H c=some (.own y)→c≠x:=fun c y r z=>by subst z;rw[r] at mu;exact mu
 have ntup:∀ c xs,H c=some (.tup xs)→c≠x:=fun c xs r z=>by subst z;rw[r] at mu;exact mu
 by_cases hb:b=x
 ·subst hb;rw[Za5] at q;cases q;exact new
 ·rw[Zb0 hb] at q
  by_cases hbe:b=e
  ·have q':H b=some (.own x):=by
    rcases he with z | z
    ·exact absurd (hbe.trans z) hb
    ·rw[hbe];exact z
   rw[q] at q';cases q';obtain⟨v,hv⟩:=heo;exact⟨v,by rw[hbe];exact hv⟩
  ·refine (ok b u q).stay (fun c v hc r=>k c v ?_ r) (fun c r=>by rw[Zb0 (nown c b r)];exact r) fun c xs r=>by rw[Zb0 (ntup c xs r)];exact r
   rcases hc with rfl | hc
   ·exact hbe
   ·rintro rfl
    rcases he with z | z
    ·exact nown c b hc z
    ·rw[hc] at z;cases z;exact hb rfl
end
structure Un (fs ex:List Addr) (H H':Hp) (h h':Heap):Prop where
 keep:∀ b o,h.get? b=some o→H b=none→b ∉ fs→b ∉ ex→h'.get? b=some o
 slot:∀ b o,h.get? b=some o→H b=none→b∈fs→b ∉ ex→∃ sl,h'.get? b=some { o with slots:=sl }
 free:∀ b o,h.get? b=some o→H b=none→b ∉ ex→H' b=none
 there:∀ b o,h.get? b=some o→b ∉ ex→∃ o',h'.get? b=some o'
 tups:∀ b xs,H b=some (.tup xs)→H' b=some (.tup xs)
 frzs:∀ b o u,H b=some (.frz o u)→H' b=some (.frz o u)
 tbls:∀ b ps,H b=some (.tbl ps)→∃ more,H' b=some (.tbl (ps++more))
section
variable {fs fs' ex ex':List Addr} {H H1 H2:Hp} {h h1 h2 h':Heap} {a x e:Addr} {o:HO}
theorem Un.any (u:Un fs ex H H1 h h1) {b:Addr} {ob:Obj} (q:h.get? b=some ob) (n:H b=none) (hx:b ∉ ex):∃ sl,h1.get? b=some { ob with slots:=sl }:=by
 by_cases hb:b∈fs
 ·exact u.slot b ob q n hb hx
 ·exact⟨ob.slots,u.keep b ob q n hb hx⟩
theorem Un.kept (k:∀ b u,h.get? b=some u→h'.get? b=some u):Un fs ex H H h h' :=
 ⟨fun b ob q _ _ _=>k b ob q,fun b ob q _ _ _=>⟨ob.slots,k b ob q⟩,fun _ _ _ n _=>n,fun b ob q _=>⟨ob,k b ob q⟩,fun _ _ q=>q,fun _ _ _ q=>q,fun _ ps q=>⟨#[],by rw[q];simp⟩⟩
theorem Un.refl:Un fs ex H H h h:=Un.kept fun _ _ q=>q
theorem Un.laid (k:∀ b u,h.get? b=some u→h'.get? b=some u) (hp:h.objs.size≤a) (hn:H a=none):Un fs ex H (upd H a o) h h' where
 keep:=fun b u q _ _ _=>k b u q
 slot:=fun b u q _ _ _=>⟨u.slots,k b u q⟩
 free:=fun b u q n _=>by rw[Zb0 (Nat.ne_of_lt (Nat.lt_of_lt_of_le (Heap.lt_size q) hp))];exact n
 there:=fun b u q _=>⟨u,k b u q⟩
 tups:=fun b xs q=>by rw[Zb0 (Za9 q hn)];exact q
 frzs:=fun b u xs q=>by rw[Zb0 (Za9 q hn)];exact q
 tbls:=fun b ps q=>⟨#[],by rw[Zb0 (Za9 q hn),q];simp⟩
theorem Un.write (mu:Mut (H x)) (he:e=x∨H e=some (.own x)) (k:∀ b u,b≠e→h.get? b=some u→h'.get? b=some u) (heo:∃ u,h'.get? e=some u):Un fs ex H (upd H x o) h h':=by
 have hx:∀ b,H b=none→b≠x:=fun b n z=>by subst z;rw[n] at mu;exact mu
 have hb:∀ b,H b=none→b≠e:=fun b n z=>by
  subst z;rcases he with r | r
  ·exact hx b n r
  ·rw[n] at r;cases r
 have hm:∀ b u,H b=some u→¬ Mut (some u)→b≠x:=fun b u q nm z=>by subst z;rw[q] at mu;exact nm mu
 refine⟨fun b u q n _ _=>k b u (hb b n) q,fun b u q n _ _=>⟨u.slots,k b u (hb b n) q⟩,fun b u q n _=>by rw[Zb0 (hx b n)];exact n,fun b u q _=>?_,
  fun b xs q=>by rw[Zb0 (hm b _ q fun z=>z)];exact q,fun b u xs q=>by rw[Zb0 (hm b _ q fun z=>z)];exact q,fun b ps q=>⟨#[],by rw[Zb0 (hm b _ q fun z=>z),q];simp⟩⟩
 by_cases hbe:b=e
 ·subst hbe;exact heo
 ·exact⟨u,k b u hbe q⟩
end
noncomputable def trk (h:Heap) (H:Hp):List Addr:=(List.range h.objs.size).filter fun a=>(H a).isSome
noncomputable def hidT (h:Heap) (H:Hp):Heap:=W.hideAll h (trk h H)
theorem Xi7 (h:Heap) (H:Hp):(hidT h H).objs.size=h.objs.size:=W.hideAll_size _ _
theorem Xq0 {h:Heap} {H:Hp} {b:Addr} {o:Obj} (e:h.get? b=some o) (n:H b=none):(hidT h H).get? b=some o :=
 W.hideAll_get _ e fun hm=>by
  have q:(H b).isSome=true:=(List.mem_filter.mp hm).2;rw[n] at q;simp at q
theorem Xx4 {h:Heap} {H:Hp} {b:Addr} {o:Obj} (e:(hidT h H).get? b=some o):h.get? b=some o∧H b=none:=by
 have e':h.get? b=some o:=W.of_hideAll (trk h H) e;refine⟨e',?_⟩
 cases q:H b with
 | none=>rfl
 | some x =>
  have hm:b∈trk h H:=List.mem_filter.mpr ⟨List.mem_range.mpr (Heap.lt_size e'),by simp[q]⟩;have z:(hidT h H).get? b=none:=W.hideAll_none (trk h H) hm;rw[z] at e;cases e
structure Mod (K:W.Frag) (mg:Str→Option Value) (base:Heap):Prop where
 kin:K.In base
 glob:base.Ns mainGlobals mg
 blt:∃ mb,base.Ns builtinsNs mb∧∀ x:Str,x≠"__name__"→mb x=bootBuiltins x
 nolimit:base.NoLimit
structure Cx where
 prog:Program
 w:World
 K:W.Frag
 mg:Str→Option Value
 base:Heap
 A:Around
 N:List Str
 s₀:Shared
 H₀:Hp
 env:Env
 outer:List Env
 stack:List Env
 ex:List Addr
 fn:Str→Bool
 calm:Bool
 pn:List (Addr×Obj)
 xe:Value→Shared→Prop
noncomputable def frs (l:List Env):List Addr:=l.filterMap (·.frame)
noncomputable abbrev Cx.fs (X:Cx):List Addr:=frs X.outer
def Vis (sc:Scope) (x:Str):Prop:=sc.names.lookup x=some .local∨sc.names.lookup x=some .cell∨sc.names.lookup x=some .free
def Loc (sc:Scope) (x:Str):Prop:=sc.names.lookup x=some .local∨sc.names.lookup x=some .cell
def Look (env:Env) (h:Heap) (m:Str→Option Value) (x:Str) (u:Value):Prop :=
 (env.kindOf x=some .local∧m x=some u)∨((env.kindOf x=some .cell∨env.kindOf x=some .free)∧∃ c,env.cells.lookup x=some c∧h.IsCell c (some u))
structure Cx.Ok (X:Cx):Prop where
 mod:Mod X.K X.mg X.base
 kind:X.env.scope.kind=.function
 glob:X.env.globals=mainGlobals
 blt:X.env.builtins=builtinsNs
 above:X.s₀.heap.objs.size≤X.env.locals
 inj:∀ x y c,X.env.cells.lookup x=some c→X.env.cells.lookup y=some c→x=y
 has:∀ x,(X.env.kindOf x=some .cell∨X.env.kindOf x=some .free)→∃ c,X.env.cells.lookup x=some c
 cab:∀ x c,X.fn x=true→X.env.cells.lookup x=some c→X.s₀.heap.objs.size≤c
 hd:X.calm=true→X.A.handled=none
 frames:X.A.frames=some X.stack
 stk:X.stack=X.outer∨(X.stack=X.env :: X.outer∧X.env.frame=some X.env.locals)
 exf:∀ b∈X.ex,b≠X.env.locals∧∀ x c,X.env.cells.lookup x=some c→c≠b
 bs:∀ b o,X.base.get? b=some o→X.s₀.heap.get? b=some o∧X.H₀ b=none
 bsz:X.base.objs.size≤X.s₀.heap.objs.size
 noex:∀ b o,X.base.get? b=some o→b ∉ X.ex
 exfs:∀ b∈X.ex,b ∉ X.fs
 funs:X.s₀.heap.FunFrames X.base X.outer
 frf:∀ b∈X.fs,X.H₀ b=none
structure Inv (X:Cx) (pins:List (Addr×Obj)) (σ:List (Option V)) (H:Hp) (s:Shared):Prop where
 ok:X.Ok
 os:s.os=X.s₀.os
 bare:AllBare s.gens
 base:Un X.fs X.ex X.H₀ H X.s₀.heap s.heap
 loc:∃ m,s.heap.Ns X.env.locals m∧∀ (i:Nat) (x:Str) (v:V),X.N[i]?=some x→σ[i]?=some (some v)→Vis X.env.scope x→∃ u,RelV v u∧Look X.env s.heap m x u
 cell:∀ x c,X.env.cells.lookup x=some c→∃ v,s.heap.IsCell c v
 free:H X.env.locals=none
 freeC:∀ x c,X.env.cells.lookup x=some c→H c=none
 pin:∀ p∈X.pn++pins,s.heap.get? p.1=some p.2∧H p.1=none∧p.1≠X.env.locals∧p.1 ∉ X.fs∧∀ v,p.2.data≠.cell v
 hok:HOk X.prog X.w H s.heap
 len:σ.length=X.N.length
section
variable {X:Cx} {pins:List (Addr×Obj)} {σ:List (Option V)} {H H':Hp} {s:Shared} {h':Heap}
theorem Cx.Ok.nofr (ok:X.Ok) {b:Addr} {o:Obj} (e:X.base.get? b=some o):b ∉ X.fs:=fun hb=>by
 have:=(ok.funs.mem hb).1;rw[e] at this;cases this
theorem Inv.bs (I:Inv X pins σ H s):∀ b o,X.base.get? b=some o→s.heap.get? b=some o∧H b=none:=fun b o e =>
 ⟨I.base.keep b o (I.ok.bs b o e).1 (I.ok.bs b o e).2 (I.ok.nofr e) (I.ok.noex b o e),I.base.free b o (I.ok.bs b o e).1 (I.ok.bs b o e).2 (I.ok.noex b o e)⟩
theorem Inv.bk (I:Inv X pins σ H s):∀ b o,X.base.get? b=some o→s.heap.get? b=some o:=fun b o e=>(I.bs b o e).1
theorem Inv.mod (I:Inv X pins σ H s):Mod X.K X.mg X.base:=I.ok.mod
theorem Inv.kIn (I:Inv X pins σ H s):X.K.In s.heap:=I.ok.mod.kin.keeps I.bk
theorem Inv.lt (I:Inv X pins σ H s):X.env.locals < s.heap.objs.size:=let ⟨_,hn,_⟩:=I.loc;hn.lt
theorem Inv.sz (I:Inv X pins σ H s):X.s₀.heap.objs.size≤s.heap.objs.size:=Nat.le_trans I.ok.above (Nat.le_of_lt I.lt)
theorem Inv.nofs (I:Inv X pins σ H s) {a:Addr} (h:s.heap.objs.size≤a):a ∉ X.fs:=fun hb=>by
 obtain⟨_,o,ho,_⟩:=I.ok.funs.mem hb;exact absurd (Nat.lt_of_lt_of_le (Heap.lt_size ho) (Nat.le_trans I.sz h)) (Nat.lt_irrefl _)
theorem Inv.cne (I:Inv X pins σ H s):∀ x c,X.env.cells.lookup x=some c→c≠X.env.locals:=fun x c e z=>by
 obtain⟨v,o,ho,hd⟩:=I.cell x c e;obtain⟨m,⟨o',es,ep,ho',hd',_⟩,_⟩:=I.loc;rw[z,ho'] at ho;cases ho;rw[hd'] at hd;cases hd
theorem Inv.funs (I:Inv X pins σ H s):s.heap.FunFrames X.base X.outer:=by
 have all:∀ (l:List Env),(∀ b∈frs l,b∈X.fs)→X.s₀.heap.FunFrames X.base l→s.heap.FunFrames X.base l:=by
  intro l
  induction l with
  | nil=>intro _ _;trivial
  | cons env r ih =>
   intro hs hl;obtain⟨hk,⟨L,o,hf,hn,ho,hd⟩,hr⟩:=hl;have hL:L∈X.fs:=hs L (by unfold frs;rw[List.filterMap_cons,hf];exact List.mem_cons_self);obtain⟨sl,e⟩:=I.base.slot L o ho (I.ok.frf L hL) hL fun z=>I.ok.exfs L z hL;exact⟨hk,⟨L,_,hf,hn,e,hd⟩,ih (fun b hb=>hs b (by unfold frs;rw[List.filterMap_cons,hf];exact List.mem_cons_of_mem _ hb)) hr⟩
 exact all X.outer (fun _ hb=>hb) I.ok.funs
theorem Inv.stack (I:Inv X pins σ H s):s.heap.FunFrames X.base X.stack:=by
 rcases I.ok.stk with e | ⟨e,hf⟩
 ·rw[e];exact I.funs
 ·rw[e]
  obtain⟨m,hn,_⟩:=I.loc;refine .cons (by rw[I.ok.kind];decide) hf hn ?_ I.funs;exact Heap.get?_none_of_le (Nat.le_trans I.ok.bsz I.ok.above)
theorem Inv.stkSub (I:Inv X pins σ H s):∀ b∈frs X.stack,b∈X.env.locals :: X.fs:=fun b hb=>by
 rcases I.ok.stk with e | ⟨e,hf⟩
 ·rw[e] at hb;exact List.mem_cons_of_mem _ hb
 ·rw[e] at hb
  unfold frs at hb;rw[List.filterMap_cons,hf] at hb;exact hb
theorem Inv.stkFree (I:Inv X pins σ H s):∀ b∈frs X.stack,H b=none:=fun b hb=>by
 rcases List.mem_cons.mp (I.stkSub b hb) with e | hb
 ·rw[e];exact I.free
 ·obtain⟨_,o,ho,_⟩:=I.ok.funs.mem hb
  exact I.base.free b o ho (I.ok.frf b hb) fun z=>I.ok.exfs b z hb
theorem Inv.step {g':Array GenState} {t':Nat} {d':Drawn} {ch:List Addr} (I:Inv X pins σ H s)
  (hch:∀ b∈ch,(b∈X.ex∨X.s₀.heap.objs.size≤b)∧b≠X.env.locals∧(∀ x c,X.env.cells.lookup x=some c→c≠b)∧∀ p∈X.pn++pins,p.1≠b)
  (keep:∀ b o,b≠X.env.locals→b ∉ X.fs→b ∉ ch→s.heap.get? b=some o→H b=none→h'.get? b=some o)
  (slot:∀ b o,b≠X.env.locals→b∈X.fs→b ∉ ch→s.heap.get? b=some o→H b=none→∃ sl,h'.get? b=some { o with slots:=sl }) (free:∀ b o,b ∉ ch→s.heap.get? b=some o→H b=none→H' b=none)
  (there:∀ b o,b ∉ ch→s.heap.get? b=some o→∃ o',h'.get? b=some o')
  (tups:∀ b xs,H b=some (.tup xs)→H' b=some (.tup xs)) (frzs:∀ b o u,H b=some (.frz o u)→H' b=some (.frz o u)) (tbls:∀ b ps,H b=some (.tbl ps)→∃ more,H' b=some (.tbl (ps++more)))
  (ns:∀ m,s.heap.Ns X.env.locals m→h'.Ns X.env.locals m) (hok:HOk X.prog X.w H' h') (hg:AllBare g') :
  Inv X pins σ H' { s with heap:=h',gens:=g',drawn:=d',toks:=t' }:=by
 have neL:∀ b o,X.s₀.heap.get? b=some o→b≠X.env.locals:=fun b o e=>Nat.ne_of_lt (Nat.lt_of_lt_of_le (Heap.lt_size e) I.ok.above)
 have neC:∀ b o,X.s₀.heap.get? b=some o→b ∉ X.ex→b ∉ ch:=fun b o e hx hb=>by
  rcases (hch b hb).1 with z | z
  ·exact hx z
  ·exact absurd (Nat.lt_of_lt_of_le (Heap.lt_size e) z) (Nat.lt_irrefl _)
 have cellK:∀ x c,X.env.cells.lookup x=some c→∀ v,s.heap.IsCell c v→h'.IsCell c v:=fun x c e v ⟨o,ho,hd⟩=>by
  have nch:c ∉ ch:=fun z=>(hch c z).2.2.1 x c e rfl
  by_cases hc:c∈X.fs
  ·obtain⟨sl,q⟩:=slot c o (I.cne x c e) hc nch ho (I.freeC x c e)
   exact⟨_,q,hd⟩
  ·exact⟨o,keep c o (I.cne x c e) hc nch ho (I.freeC x c e),hd⟩
 refine⟨I.ok,I.os,hg,⟨fun b o e n hb hx=>?_,fun b o e n hb hx=>?_,fun b o e n hx=>?_,fun b o e hx=>?_,fun b xs e=>tups b xs (I.base.tups b xs e),fun b o xs e=>frzs b o xs (I.base.frzs b o xs e),fun b ps e=>?_⟩,?_,fun x c e=>?_,?_,fun x c e=>?_,fun p hp=>?_,hok,I.len⟩
 ·exact keep b o (neL b o e) hb (neC b o e hx) (I.base.keep b o e n hb hx) (I.base.free b o e n hx)
 ·obtain⟨sl,e1⟩:=I.base.slot b o e n hb hx
  obtain⟨sl',e2⟩:=slot b _ (neL b o e) hb (neC b o e hx) e1 (I.base.free b o e n hx);exact⟨sl',e2⟩
 ·obtain⟨o',e1⟩:=I.base.there b o e hx
  exact free b o' (neC b o e hx) e1 (I.base.free b o e n hx)
 ·obtain⟨o',e1⟩:=I.base.there b o e hx
  exact there b o' (neC b o e hx) e1
 ·obtain⟨m1,e1⟩:=I.base.tbls b ps e
  obtain⟨m2,e2⟩:=tbls b _ e1;exact⟨m1++m2,by rw[e2,Array.append_assoc]⟩
 ·obtain⟨m,hn,hl⟩:=I.loc
  refine⟨m,ns m hn,fun i x v e1 e2 e3=>?_⟩;obtain⟨u,r,l⟩:=hl i x v e1 e2 e3;refine⟨u,r,?_⟩;rcases l with l | ⟨k,c,e,z⟩
  ·exact .inl l
  ·exact .inr ⟨k,c,e,cellK x c e _ z⟩
 ·obtain⟨v,z⟩:=I.cell x c e
  exact⟨v,cellK x c e v z⟩
 ·obtain⟨m,⟨o,_,_,ho,_⟩,_⟩:=I.loc
  exact free _ o (fun z=>(hch _ z).2.1 rfl) ho I.free
 ·obtain⟨v,o,ho,hd⟩:=I.cell x c e
  exact free c o (fun z=>(hch c z).2.2.1 x c e rfl) ho (I.freeC x c e)
 ·obtain⟨e,n,ne,nf,d⟩:=I.pin p hp
  have nch:p.1 ∉ ch:=fun z=>(hch p.1 z).2.2.2 p hp rfl;exact⟨keep p.1 p.2 ne nf nch e n,free p.1 p.2 nch e n,ne,nf,d⟩
theorem Inv.un {t':Nat} (I:Inv X pins σ H s) (u:Un X.fs [] H H' s.heap h') (hok:HOk X.prog X.w H' h'):Inv X pins σ H' { s with heap:=h',toks:=t' }:=by
 obtain⟨m,⟨o,es,ep,ho,r⟩,_⟩:=id I.loc;obtain⟨sl,hL⟩:=u.any ho I.free (by simp)
 exact I.step (g':=s.gens) (d':=s.drawn) (ch:=[]) (fun _ z=>nomatch z) (fun b o _ hb _ e n=>u.keep b o e n hb (by simp)) (fun b o _ hb _ e n=>u.slot b o e n hb (by simp)) (fun b o _ e n=>u.free b o e n (by simp)) (fun b o _ e=>u.there b o e (by simp)) u.tups u.frzs u.tbls (fun m' hm=>by
  obtain⟨o',es',ep',ho',r'⟩:=hm;rw[ho] at ho';cases ho'
  exact⟨_,es',ep',hL,r'⟩) hok I.bare
theorem Inv.call {g':Array GenState} {t':Nat} {d':Drawn} {ch:List Addr} (I:Inv X pins σ H s) (u:Un (frs X.stack) ch H H' s.heap h') (hok:HOk X.prog X.w H' h') (hg:AllBare g')
  (hch:∀ b∈ch,(b∈X.ex∨X.s₀.heap.objs.size≤b)∧b≠X.env.locals∧(∀ x c,X.env.cells.lookup x=some c→c≠b)∧∀ p∈X.pn++pins,p.1≠b) :
  Inv X pins σ H' { s with heap:=h',gens:=g',drawn:=d',toks:=t' }:=by
 obtain⟨m,⟨o,es,ep,ho,r⟩,_⟩:=id I.loc;obtain⟨sl,hL⟩:=u.any ho I.free fun z=>(hch _ z).2.1 rfl
 exact I.step (ch:=ch) hch (fun b o hL hb hc e n=>u.keep b o e n (fun z=>(List.mem_cons.mp (I.stkSub b z)).elim hL hb) hc) (fun b o _ _ hc e n=>u.any e n hc) (fun b o hc e n=>u.free b o e n hc) (fun b o hc e=>u.there b o e hc) u.tups u.frzs u.tbls (fun m' hm=>by
  obtain⟨o',es',ep',ho',r'⟩:=hm;rw[ho] at ho';cases ho'
  exact⟨_,es',ep',hL,r'⟩) hok hg
theorem Inv.turned {t':Nat} {it:Addr} (I:Inv X pins σ H s) (k:∀ b o,b≠it→s.heap.get? b=some o→h'.get? b=some o) (hn:H it=none) (hL:it≠X.env.locals)
  (h1:it∈X.ex∨X.s₀.heap.objs.size≤it) (h2:∀ x c,X.env.cells.lookup x=some c→c≠it) (h3:∀ p∈X.pn++pins,p.1≠it):Inv X pins σ H { s with heap:=h',toks:=t' }:=by
 have nit:∀ b u,H b=some u→b≠it:=fun b u e z=>by rw[z,hn] at e;cases e
 refine I.step (g':=s.gens) (d':=s.drawn) (ch:=[it]) (fun b hb=>?_) (fun b o _ _ hc e _=>k b o (fun z=>hc (by simp[z])) e) (fun b o _ _ hc e _=>⟨o.slots,k b o (fun z=>hc (by simp[z])) e⟩) (fun _ _ _ _ n=>n)
  (fun b o hc e=>⟨o,k b o (fun z=>hc (by simp[z])) e⟩) (fun _ _ e=>e) (fun _ _ _ e=>e) (fun b ps e=>⟨#[],by rw[e];simp⟩) (fun m hm=>?_) (fun b u e=>?_) I.bare
 ·have e:b=it:=by simpa using hb
  subst e;exact⟨h1,hL,h2,h3⟩
 ·obtain⟨o,es,ep,ho,r⟩:=hm
  exact⟨o,es,ep,k _ o (Ne.symm hL) ho,r⟩
 ·refine (I.hok b u e).stay (fun c v hc q=>k c v ?_ q) (fun _ q=>q) fun _ _ q=>q
  rcases hc with z | z
  ·rw[z];exact nit b u e
  ·exact nit c _ z
theorem Inv.tok (I:Inv X pins σ H s) (t:Nat):Inv X pins σ H { s with toks:=t }:=I.un (h':=s.heap) (t':=t) Un.refl I.hok
theorem Inv.kept {t':Nat} (I:Inv X pins σ H s) (k:∀ b u,s.heap.get? b=some u→h'.get? b=some u):Inv X pins σ H { s with heap:=h',toks:=t' }:=I.un (Un.kept k) (I.hok.kept k)
theorem Inv.laid {a:Addr} {o:HO} {t':Nat} (I:Inv X pins σ H s) (k:∀ b u,s.heap.get? b=some u→h'.get? b=some u) (hp:s.heap.objs.size≤a) (new:ObjOk X.prog X.w (upd H a o) h' a o) :
  Inv X pins σ (upd H a o) { s with heap:=h',toks:=t' }:=I.un (Un.laid k hp (I.hok.fresh hp)) (I.hok.laid k hp new)
theorem Inv.write {x e:Addr} {o:HO} {t':Nat} (I:Inv X pins σ H s) (mu:Mut (H x)) (he:e=x∨H e=some (.own x)) (k:∀ b u,b≠e→s.heap.get? b=some u→h'.get? b=some u) (heo:∃ u,h'.get? e=some u)
  (new:ObjOk X.prog X.w (upd H x o) h' x o):Inv X pins σ (upd H x o) { s with heap:=h',toks:=t' }:=I.un (Un.write mu he k heo) (I.hok.write mu he k heo new)
theorem Inv.weak {σ':List (Option V)} (I:Inv X pins σ H s) (hl:σ'.length=σ.length) (w:∀ (i:Nat) v,σ'[i]?=some (some v)→σ[i]?=some (some v)):Inv X pins σ' H s :=
 ⟨I.ok,I.os,I.bare,I.base,let ⟨m,hn,hl'⟩:=I.loc;⟨m,hn,fun i x v e1 e2 e3=>hl' i x v e1 (w i v e2) e3⟩,I.cell,I.free,I.freeC,I.pin,I.hok,hl.trans I.len⟩
theorem Inv.pins_of {pins':List (Addr×Obj)} (I:Inv X pins σ H s) (h:∀ p∈pins',s.heap.get? p.1=some p.2∧H p.1=none∧p.1≠X.env.locals∧p.1 ∉ X.fs∧∀ v,p.2.data≠.cell v):Inv X pins' σ H s :=
 ⟨I.ok,I.os,I.bare,I.base,I.loc,I.cell,I.free,I.freeC,fun p hp=>(List.mem_append.mp hp).elim (fun z=>I.pin p (List.mem_append_left _ z)) (h p),I.hok,I.len⟩
theorem Yv6 {N:List Str} (hN:N.Nodup) {i j:Nat} {x:Str} (a:N[i]?=some x) (b:N[j]?=some x):i=j:=by
 obtain⟨h1,e1⟩:=List.getElem?_eq_some_iff.mp a;obtain⟨h2,e2⟩:=List.getElem?_eq_some_iff.mp b;exact (List.getElem_inj hN).mp (e1.trans e2.symm)
theorem Xd0 {M:Model} {A:Around} {E:Value→Shared→Prop} {i:Nat} {x:Str} {v:V} {u:Value} {Q:Unit→Shared→Prop} (I:Inv X pins σ H s) (hN:X.N.Nodup) (hi:X.N[i]?=some x) (hx:Loc X.env.scope x) (r:RelV v u)
  (h:∀ s',Inv X pins (σ.set i (some v)) H s'→(∃ a,Heap.SameBut a s.heap s'.heap∧(a=X.env.locals∨X.env.cells.lookup x=some a))→Q () s') (hf:X.fn x=true∨X.env.scope.names.lookup x=some .local:=by first | exact .inl rfl | exact .inr rfl | assumption):wpAny M A (storeName X.env x u) Q E s:=by
 obtain⟨m,hn,hl⟩:=id I.loc
 have hcls:(X.env.scope.kind == .class||(X.env.scope.kind == .module&&X.env.locals != X.env.globals))=false:=by rw[I.ok.kind];rfl
 have hiσ:i < σ.length:=by rw[I.len];exact (List.getElem?_eq_some_iff.mp hi).1
 have cne:=I.cne
 have tracked:∀ {a:Addr} {h':Heap},(∃ o,s.heap.get? a=some o∧H a=none)→Heap.SameBut a s.heap h'→HOk X.prog X.w H h':=fun {a h'} ha hs b ob e=>by
  obtain⟨_,_,hfree⟩:=ha;refine (I.hok b ob e).stay (fun c w' hc q=>(hs.2 c ?_).trans q) (fun _ q=>q) fun _ _ q=>q;rintro rfl;rcases hc with rfl | hc
  ·rw[hfree] at e;cases e
  ·rw[hfree] at hc;cases hc
 rcases hx with hk | hk
 ·refine wpAny_storeName_local hk hn (fun h' hn' hs=>?_) hcls
  obtain⟨oL,_,_,hoL,_⟩:=id hn;refine h _ ⟨I.ok,I.os,I.bare,⟨fun b o e n hb hx=>?_,fun b o e n hb hx=>?_,I.base.free,fun b o e hx=>?_,I.base.tups,I.base.frzs,I.base.tbls⟩,⟨_,hn',fun j y v' e1 e2 e3=>?_⟩,fun y c e=>?_,I.free,I.freeC,fun p hp=>?_,tracked ⟨oL,hoL,I.free⟩ hs,by simpa using I.len⟩ ⟨_,hs,.inl rfl⟩
  ·exact (hs.2 b (Nat.ne_of_lt (Nat.lt_of_lt_of_le (Heap.lt_size e) I.ok.above))).trans (I.base.keep b o e n hb hx)
  ·obtain⟨sl,e1⟩:=I.base.slot b o e n hb hx
   exact⟨sl,(hs.2 b (Nat.ne_of_lt (Nat.lt_of_lt_of_le (Heap.lt_size e) I.ok.above))).trans e1⟩
  ·obtain⟨o',e1⟩:=I.base.there b o e hx
   exact⟨o',(hs.2 b (Nat.ne_of_lt (Nat.lt_of_lt_of_le (Heap.lt_size e) I.ok.above))).trans e1⟩
  ·by_cases hj:j=i
   ·subst hj
    rw[hi] at e1;cases e1;rw[List.getElem?_set_self hiσ] at e2;cases e2;exact⟨u,r,.inl ⟨hk,by simp⟩⟩
   ·rw[List.getElem?_set_ne (Ne.symm hj)] at e2
    obtain⟨u',r',q⟩:=hl j y v' e1 e2 e3;refine⟨u',r',?_⟩;rcases q with ⟨k,e⟩ | ⟨k,c,e,z⟩
    ·refine .inl ⟨k,?_⟩
     have:y≠x:=fun e=>hj (Yv6 hN e1 (e▸hi));simp[this,e]
    ·exact .inr ⟨k,c,e,z.sameBut hs (cne y c e)⟩
  ·obtain⟨w',z⟩:=I.cell y c e
   exact⟨w',z.sameBut hs (cne y c e)⟩
  ·obtain⟨e,n,ne,nf,d⟩:=I.pin p hp
   exact⟨(hs.2 p.1 ne).trans e,n,ne,nf,d⟩
 ·have hfn:X.fn x=true:=by
   rcases hf with z | z
   ·exact z
   ·rw[z] at hk;cases hk
  obtain⟨c,hc⟩:=I.ok.has x (.inl hk);obtain⟨w',z⟩:=I.cell x c hc;refine wpAny_storeName_cell I.ok.kind hk hc z (fun h' hc' hs=>?_);obtain⟨oc,hoc,hocd⟩:=id z;refine h { s with heap:=h' } ⟨I.ok,I.os,I.bare,⟨fun b o e n hb hx=>?_,fun b o e n hb hx=>?_,I.base.free,fun b o e hx=>?_,I.base.tups,I.base.frzs,I.base.tbls⟩,⟨m,hn.sameBut hs (Ne.symm (cne x c hc)),fun j y v' e1 e2 e3=>?_⟩,fun y c' e=>?_,I.free,I.freeC,fun p hp=>?_,tracked ⟨oc,hoc,I.freeC x c hc⟩ hs,by simpa using I.len⟩ ⟨c,hs,.inr hc⟩
  ·exact (hs.2 b (Nat.ne_of_lt (Nat.lt_of_lt_of_le (Heap.lt_size e) (I.ok.cab x c hfn hc)))).trans (I.base.keep b o e n hb hx)
  ·obtain⟨sl,e1⟩:=I.base.slot b o e n hb hx
   exact⟨sl,(hs.2 b (Nat.ne_of_lt (Nat.lt_of_lt_of_le (Heap.lt_size e) (I.ok.cab x c hfn hc)))).trans e1⟩
  ·obtain⟨o',e1⟩:=I.base.there b o e hx
   exact⟨o',(hs.2 b (Nat.ne_of_lt (Nat.lt_of_lt_of_le (Heap.lt_size e) (I.ok.cab x c hfn hc)))).trans e1⟩
  ·by_cases hj:j=i
   ·subst hj
    rw[hi] at e1;cases e1;rw[List.getElem?_set_self hiσ] at e2;cases e2;exact⟨u,r,.inr ⟨.inl hk,c,hc,hc'⟩⟩
   ·rw[List.getElem?_set_ne (Ne.symm hj)] at e2
    obtain⟨u',r',q⟩:=hl j y v' e1 e2 e3;refine⟨u',r',?_⟩;rcases q with q | ⟨k,c',e,z'⟩
    ·exact .inl q
    ·refine .inr ⟨k,c',e,z'.sameBut hs ?_⟩
     rintro rfl;exact hj (Yv6 hN e1 (I.ok.inj _ _ _ e hc▸hi))
  ·by_cases hcc:c'=c
   ·subst hcc;exact⟨_,hc'⟩
   ·obtain⟨w2,z2⟩:=I.cell y c' e
    exact⟨w2,z2.sameBut hs hcc⟩
  ·obtain⟨e,n,ne,nf,d⟩:=I.pin p hp
   refine⟨(hs.2 p.1 ?_).trans e,n,ne,nf,d⟩;intro q;rw[q,hoc] at e;have q':oc=p.2:=Option.some.inj e;exact d w' (by rw[← q'];exact hocd)
theorem Zv4 {M:Model} {A:Around} {E:Value→Shared→Prop} {i:Nat} {x:Str} {v:V} {u:Value} {Q:Unit→Shared→Prop} (I:Inv X pins σ H s) (hN:X.N.Nodup) (hi:X.N[i]?=some x) (hx:Loc X.env.scope x) (r:RelV v u)
  (h:∀ s',Inv X pins (σ.set i (some v)) H s'→Q () s') (hf:X.fn x=true∨X.env.scope.names.lookup x=some .local:=by first | exact .inl rfl | exact .inr rfl | assumption):wpAny M A (storeName X.env x u) Q E s :=
 Xd0 I hN hi hx r (fun s' I' _=>h s' I') hf
theorem Inv.call' {s':Shared} {ch:List Addr} (I:Inv X pins σ H s) (ho:s'.os=s.os) (u:Un (frs X.stack) ch H H' s.heap s'.heap) (hok:HOk X.prog X.w H' s'.heap) (hg:AllBare s'.gens)
  (hch:∀ b∈ch,(b∈X.ex∨X.s₀.heap.objs.size≤b)∧b≠X.env.locals∧(∀ x c,X.env.cells.lookup x=some c→c≠b)∧∀ p∈X.pn++pins,p.1≠b):Inv X pins σ H' s':=by
 obtain⟨h',g',d',t',o'⟩:=s';have e:o'=s.os:=ho;subst e;exact I.call (g':=g') (t':=t') (d':=d') u hok hg hch
end
noncomputable abbrev XK:=Value→Option Addr→Hp→Prop
noncomputable abbrev St:=List (Option V)
noncomputable abbrev VK:=V→Hp→Prop
noncomputable abbrev TE:=St→Hp→VK→Prop
noncomputable abbrev TT:=St→Hp→(Bool→Hp→Prop)→Prop
noncomputable abbrev TA:=St→Hp→(List V→Hp→Prop)→Prop
structure Ends where
 nx:St→Hp→Prop
 rt:VK
 bk:St→Hp→Prop:=fun _ _=>False
 ct:St→Hp→Prop:=fun _ _=>False
noncomputable abbrev TS:=Ends→St→Hp→Prop
def EP (X:Cx) (pins:List (Addr×Obj)) (σ:St) (Q:VK) (u:Value) (s':Shared):Prop:=∃ v H',Inv X pins σ H' s'∧RelV v u∧Q v H'
def TP (X:Cx) (pins:List (Addr×Obj)) (σ:St) (Q:Bool→Hp→Prop) (b:Bool) (s':Shared):Prop:=∃ H',Inv X pins σ H' s'∧Q b H'
def AP (X:Cx) (pins:List (Addr×Obj)) (σ:St) (Q:List V→Hp→Prop) (us:List Value) (s':Shared):Prop:=∃ vs H',Inv X pins σ H' s'∧Vals vs us∧Q vs H'
def SP (X:Cx) (pins:List (Addr×Obj)) (D:Ends) (f:Flow) (s':Shared):Prop :=
 match f with
 | .next=>∃ σ' H',Inv X pins σ' H' s'∧D.nx σ' H'
 | .brk=>∃ σ' H',Inv X pins σ' H' s'∧D.bk σ' H'
 | .cont=>∃ σ' H',Inv X pins σ' H' s'∧D.ct σ' H'
 | .ret u=>∃ v σ' H',Inv X pins σ' H' s'∧RelV v u∧D.rt v H'
@[irreducible] def PE (X:Cx) (e:Expr) (t:TE):Prop :=
 ∀ (pins:List (Addr×Obj)) (s:Shared) (σ:St) (H:Hp) (Q:VK),Inv X pins σ H s→t σ H Q→wpAny (model X.prog X.w) X.A (eval e X.env) (EP X pins σ Q) X.xe s
@[irreducible] def PT (X:Cx) (e:Expr) (t:TT):Prop :=
 ∀ (pins:List (Addr×Obj)) (s:Shared) (σ:St) (H:Hp) (Q:Bool→Hp→Prop),Inv X pins σ H s→t σ H Q→wpAny (model X.prog X.w) X.A (isTrue e X.env (eval e X.env)) (TP X pins σ Q) X.xe s
@[irreducible] def PW (X:Cx) (e:Expr) (t:TT):Prop :=
 ∀ (whole:Sem Value) (pins:List (Addr×Obj)) (s:Shared) (σ:St) (H:Hp) (Q:Bool→Hp→Prop),Inv X pins σ H s→t σ H Q→wpAny (model X.prog X.w) X.A (isTrue e X.env whole) (TP X pins σ Q) X.xe s
theorem PW.pt {X:Cx} {e:Expr} {t:TT} (h:PW X e t):PT X e t:=by with_unfolding_all exact (h _)
@[irreducible] def PA (X:Cx) (es:List Expr) (t:TA):Prop :=
 ∀ (pos:Pos) (pins:List (Addr×Obj)) (s:Shared) (σ:St) (H:Hp) (Q:List V→Hp→Prop),Inv X pins σ H s→t σ H Q→wpAny (model X.prog X.w) X.A (spliced (backTo pos (starEach es X.env))) (AP X pins σ Q) X.xe s
@[irreducible] def PS (X:Cx) (st:Stmt) (t:TS):Prop :=
 ∀ (pins:List (Addr×Obj)) (s:Shared) (σ:St) (H:Hp) (D:Ends),Inv X pins σ H s→t D σ H→wpAny (model X.prog X.w) X.A (exec st X.env) (SP X pins D) X.xe s
@[irreducible] def PSs (X:Cx) (st:List Stmt) (t:TS):Prop :=
 ∀ (pins:List (Addr×Obj)) (s:Shared) (σ:St) (H:Hp) (D:Ends),Inv X pins σ H s→t D σ H→wpAny (model X.prog X.w) X.A (execs st X.env) (SP X pins D) X.xe s
theorem thn {α:Type} {t:Sem α} {Q Q':α→Shared→Prop} {M:Model} {A:Around} {E:Value→Shared→Prop} {s:Shared} (h:wpAny M A t Q E s) (hQ:∀ a s,Q a s→Q' a s):wpAny M A t Q' E s:=wpAny_mono h hQ fun _ _ x=>x
section
variable {X:Cx}
def tVar (i:Nat):TE:=fun σ H Q=>∃ v,σ[i]?=some (some v)∧Q v H
def tC (v:V):TE:=fun _ H Q=>Q v H
theorem Xf1 {i:Nat} {x:Str} {pos:Pos} (hN:X.N[i]?=some x) (hv:Vis X.env.scope x) (hd:(x == ("__debug__":Str))=false:=by decide) (hcd:(x == ("__classdict__":Str))=false:=by decide):PE X (.Name x pos) (tVar i):=by with_unfolding_all
 intro pins s σ H Q I h;obtain⟨v,e,h⟩:=h;obtain⟨m,hn,hl⟩:=I.loc;obtain⟨u,r,l⟩:=hl i x v hN e hv;have fin:EP X pins σ Q u s:=⟨v,H,I,r,h⟩;rcases l with ⟨hk,hm⟩ | ⟨hk,c,hc,hcell⟩
 ·exact wpAny_Name (wpAny_loadName_local I.ok.kind hk hn hm fin) hd
 ·rcases hk with hk | hk
  ·exact wpAny_Name (wpAny_loadName_cell I.ok.kind hk hc hcell fin) hd
  ·exact wpAny_Name (wpAny_loadName_free I.ok.kind hk hc hcell fin hcd) hd
theorem Za2 {i j pos}:PE X (.Constant (.int i) j pos) (tC (.int i)):=by with_unfolding_all exact (fun _ _ _ H _ I h=>wpAny_Constant_int ⟨.int i,H,I.tok _,⟨_,rfl⟩,h⟩)
theorem Yf4 {b j pos}:PE X (.Constant (.bool b) j pos) (tC (.bl b)):=by with_unfolding_all exact (fun _ _ _ H _ I h=>Constant_bool ⟨.bl b,H,I,rfl,h⟩)
theorem Za8 {x j pos}:PE X (.Constant (.str x) j pos) (tC (.str x)):=by with_unfolding_all exact (fun _ _ _ H _ I h=>Calls.Constant_str ⟨.str x,H,I.tok _,⟨_,rfl⟩,h⟩)
def Gl (X:Cx) (x:Str):Prop:=X.env.kindOf x=some .globalImplicit
theorem Zt3 {E:Value→Shared→Prop} {pins:List (Addr×Obj)} {s:Shared} {σ:St} {H:Hp} {x:Str} {u:Value} {pos:Pos} {Q:Value→Shared→Prop} (I:Inv X pins σ H s) (hg:Gl X x) (hm:X.mg x=some u) (h:Q u s)
  (hd:(x == ("__debug__":Str))=false:=by decide):wpAny (model X.prog X.w) X.A (eval (.Name x pos) X.env) Q E s :=
 Calls.Name_function_global I.ok.kind hg (Calls.loadGlobal_global (by rw[I.ok.glob];exact I.mod.glob.keeps I.bk) hm h) hd
theorem Zn7 {E:Value→Shared→Prop} {pins:List (Addr×Obj)} {s:Shared} {σ:St} {H:Hp} {x:Str} {u:Value} {pos:Pos} {Q:Value→Shared→Prop} (I:Inv X pins σ H s) (hg:Gl X x) (hm:X.mg x=none) (hv:bootBuiltins x=some u) (h:Q u s)
  (hn:x≠"__name__":=by decide) (hd:(x == ("__debug__":Str))=false:=by decide):wpAny (model X.prog X.w) X.A (eval (.Name x pos) X.env) Q E s:=by
 obtain⟨mb,h1,h2⟩:=I.mod.blt;exact Calls.Name_function_global I.ok.kind hg (Calls.loadGlobal_builtin (by rw[I.ok.glob];exact I.mod.glob.keeps I.bk) hm (by rw[I.ok.blt];exact h1.keeps I.bk) ((h2 x hn).trans hv) h) hd
theorem Yf2 {x:Str} {v:V} {u:Value} {pos:Pos} (hg:Gl X x) (hm:X.mg x=some u) (r:RelV v u) (hd:(x == ("__debug__":Str))=false:=by decide):PE X (.Name x pos) (tC v):=by with_unfolding_all exact (fun _ _ _ H _ I h=>Zt3 I hg hm ⟨v,H,I,r,h⟩ hd)
theorem Yf3 {x:Str} {v:V} {u:Value} {pos:Pos} (hg:Gl X x) (hm:X.mg x=none) (hv:bootBuiltins x=some u) (r:RelV v u) (hn:x≠"__name__":=by decide) (hd:(x == ("__debug__":Str))=false:=by decide):PE X (.Name x pos) (tC v):=by with_unfolding_all exact (fun _ _ _ H _ I h=>Zn7 I hg hm hv ⟨v,H,I,r,h⟩ hn hd)
variable {a b:Expr} {ta tb:TE} {pos:Pos}
def PC (X:Cx) (op:CmpOp) (a b:Expr) (t:TE):Prop :=
 ∀ (pins:List (Addr×Obj)) (s:Shared) (σ:St) (H:Hp) (Q:VK),Inv X pins σ H s→t σ H Q →
  wpAny (model X.prog X.w) X.A (eval a X.env) (fun v s₁=>wpAny (model X.prog X.w) X.A (eval b X.env) (fun u s₂=>wpAny (model X.prog X.w) X.A (compareOp op v u) (EP X pins σ Q) X.xe s₂) X.xe s₁) X.xe s
def tB (t:TE):TT:=fun σ H Q=>t σ H fun x H1=>∃ c,x=.bl c∧Q c H1
theorem We4 {op:CmpOp} {t:TE} (h:PC X op a b t) (h1:behindInMarks op b=false:=by first | exact nobehind _ (by decide) (by decide) | rfl):PE X (.Compare a [op] [b] pos) t:=by with_unfolding_all exact (fun pins s σ H Q I hw=>wpAny_Compare1 (h pins s σ H Q I hw) h1)
theorem Zt9 {e:Expr} {t:TE} (h:PE X e t) (he:∀ whole,isTrue e X.env whole=(do let v ← whole;standAt e.pos;holding [v] (truthy v)):=by intro _;rfl):PT X e (tB t):=by with_unfolding_all
 intro pins s σ H Q I hw;refine isTrue_plain (thn (h pins s σ H _ I hw) fun v s1 ⟨x,H1,I1,r1,q1⟩=>?_) (he _);obtain⟨d,rfl,q⟩:=q1;cases r1;exact wpAny_truthy_bool ⟨H1,I1,q⟩
variable {tA tB':TT} {rest:List Expr}
def tAnd (t u:TT):TT:=fun σ H Q=>t σ H fun c H1=>if c=true then u σ H1 Q else Q false H1
def tOr (t u:TT):TT:=fun σ H Q=>t σ H fun c H1=>if c=true then Q true H1 else u σ H1 Q
def tNot (t:TT):TT:=fun σ H Q=>t σ H fun c H1=>Q (!c) H1
theorem Xe4 (ha:PT X a tA):PW X (.BoolOp .And [a] pos) tA:=by with_unfolding_all
 intro wh pins s σ H Q I h;refine isTrue_and (thn (ha pins s σ H Q I h) fun c s1 e=>?_)
 cases c with
 | true=>exact isTrue_and_nil e
 | false=>exact e
theorem Yu1 (ha:PT X a tA):PW X (.BoolOp .Or [a] pos) tA:=by with_unfolding_all
 intro wh pins s σ H Q I h;refine isTrue_or (thn (ha pins s σ H Q I h) fun c s1 e=>?_)
 cases c with
 | false=>exact isTrue_or_nil e
 | true=>exact e
theorem Xs1 (ha:PT X a tA) (hb:PW X (.BoolOp .And (b :: rest) pos) tB'):PW X (.BoolOp .And (a :: b :: rest) pos) (tAnd tA tB'):=by with_unfolding_all
 intro wh pins s σ H Q I h;refine isTrue_and (thn (ha pins s σ H _ I h) fun c s1 zq=>?_);obtain⟨H1,I1,q1⟩:=zq
 cases c with
 | true=>exact hb wh pins s1 σ H1 Q I1 q1
 | false=>exact⟨H1,I1,q1⟩
theorem Yy0 (ha:PT X a tA) (hb:PW X (.BoolOp .Or (b :: rest) pos) tB'):PW X (.BoolOp .Or (a :: b :: rest) pos) (tOr tA tB'):=by with_unfolding_all
 intro wh pins s σ H Q I h;refine isTrue_or (thn (ha pins s σ H _ I h) fun c s1 zq=>?_);obtain⟨H1,I1,q1⟩:=zq
 cases c with
 | true=>exact⟨H1,I1,q1⟩
 | false=>exact hb wh pins s1 σ H1 Q I1 q1
theorem Zu0 (ha:PT X a tA):PT X (.UnaryOp .Not a pos) (tNot tA):=by with_unfolding_all
 intro pins s σ H Q I h;exact isTrue_not (ha pins s σ H (fun c H1=>Q (!c) H1) I h)
def Yn3 (ta tb:TE):TE:=fun σ H Q=>ta σ H fun x H1=>∃ c,x=.bl c∧if c=true then tb σ H1 Q else Q (.bl false) H1
def Yn0 (ta:TE):TE:=fun σ H Q=>ta σ H fun x H1=>∃ c,x=.bl c∧Q (.bl (!c)) H1
theorem Xs4 {op} {t:TE} (h:PE X a t):PE X (.BoolOp op [a] pos) t:=by with_unfolding_all exact (fun pins s σ H Q I hw=>BoolOp_one (h pins s σ H Q I hw))
theorem Xf4 (ha:PE X a ta) (hb:PE X (.BoolOp .And (b :: rest) pos) tb):PE X (.BoolOp .And (a :: b :: rest) pos) (Yn3 ta tb):=by with_unfolding_all
 intro pins s σ H Q I h;refine BoolOp_and (thn (ha pins s σ H _ I h) fun v s1 zq=>?_);obtain⟨x,H1,I1,r1,q1⟩:=zq;obtain⟨c,rfl,q1⟩:=q1;cases r1;refine wpAny_truthy_bool ?_
 cases c with
 | true=>exact hb pins s1 σ H1 Q I1 q1
 | false=>exact⟨.bl false,H1,I1,rfl,q1⟩
theorem We1 (ha:PE X a ta):PE X (.UnaryOp .Not a pos) (Yn0 ta):=by with_unfolding_all
 intro pins s σ H Q I h;refine UnaryOp_ (thn (ha pins s σ H _ I h) fun v s1 zq=>?_);obtain⟨x,H1,I1,r1,q1⟩:=zq;obtain⟨c,rfl,q1⟩:=q1;cases r1;exact not_of (wpAny_truthy_bool ⟨.bl (!c),H1,I1,rfl,q1⟩)
def tIf (t:TT) (ta tb:TE):TE:=fun σ H Q=>t σ H fun c H1=>if c=true then ta σ H1 Q else tb σ H1 Q
theorem Yf1 {c:Expr} (hc:PT X c tA) (ha:PE X a ta) (hb:PE X b tb):PE X (.IfExp c a b pos) (tIf tA ta tb):=by with_unfolding_all
 intro pins s σ H Q I h;refine wpAny_IfExp (thn (hc pins s σ H _ I h) fun d s1 zq=>?_);obtain⟨H1,I1,q1⟩:=zq
 cases d with
 | true=>exact ha pins s1 σ H1 Q I1 q1
 | false=>exact hb pins s1 σ H1 Q I1 q1
end
def SqL (K:W.Frag) (H:Hp) (a:Addr) (xs:List V):Prop :=
 Rd H a (.lst xs) ∨
  ∃ (o:Obj) (its:Array Value) (n:Nat),K.lookup a=some o∧o.cls=.type "list"∧o.dict=none∧o.data=.seq its n∧its.size≤sizeLine∧Vals xs its.toList
def SqT (K:W.Frag) (H:Hp) (a:Addr) (xs:List V):Prop :=
 Rd H a (.tup xs) ∨
  ∃ (o:Obj) (its:Array Value) (n:Nat),K.lookup a=some o∧o.cls=.type "tuple"∧o.data=.seq its n∧its.size≤sizeLine∧Vals xs its.toList
noncomputable def absV:Value→Option V
 | .none=>some .non
 | .bool b=>some (.bl b)
 | .int i _=>some (.int i)
 | .str x _=>some (.str x)
 | .bytes b _=>some (.byt b)
 | .float b _=>some (.flt b)
 | .ref a=>some (.ref a)
 | .type n=>some (.ty n)
 | _=>none
theorem RelV.abs {x:V} {u:Value} (r:RelV x u):absV u=some x:=by
 cases x with
 | non=>cases r;rfl
 | bl _=>cases r;rfl
 | int _=>obtain⟨t,rfl⟩:=r;rfl
 | str _=>obtain⟨t,rfl⟩:=r;rfl
 | byt _=>obtain⟨t,rfl⟩:=r;rfl
 | flt _=>obtain⟨t,rfl⟩:=r;rfl
 | ref _=>cases r;rfl
 | ty _=>cases r;rfl
theorem RelV.inj {x y:V} {u:Value} (r:RelV x u) (q:RelV y u):x=y:=Option.some.inj (r.abs.symm.trans q.abs)
theorem Vals.inj:∀ {xs ys:List V} {us:List Value},Vals xs us→Vals ys us→xs=ys
 | _,_,_,.nil,.nil=>rfl
 | _,_,_,.cons r t,.cons r' t'=>by rw[r.inj r',Vals.inj t t']
section
variable {X:Cx} {pins:List (Addr×Obj)} {σ:St} {H:Hp} {s:Shared} {a:Addr} {xs ys:List V}
theorem SqL.of {K:W.Frag} (h:H a=some (.lst xs)):SqL K H a xs:=.inl (.inl h)
theorem Inv.list (I:Inv X pins σ H s) (h:SqL X.K H a xs):∃ its:List Value,Vals xs its∧PlainL s.heap a its.toArray∧xs.length≤sizeLine:=by
 rcases h with h | ⟨o,its,n,hk,hc,hd,hs,hz,r⟩
 ·obtain⟨z,its,n,r,e⟩:=h.ok I.hok
  exact⟨its,r,⟨_,n,e,rfl,rfl,rfl⟩,z⟩
 ·refine⟨its.toList,r,⟨o,n,I.kIn a o hk,hc,hd,by simpa using hs⟩,?_⟩
  have e:=r.length;simp only[Array.length_toList] at e;walk_at "o"
theorem Inv.tuple (I:Inv X pins σ H s) (h:SqT X.K H a xs):∃ its:List Value,Vals xs its∧IsTup s.heap a its.toArray∧xs.length≤sizeLine:=by
 rcases h with h | ⟨o,its,n,hk,hc,hs,hz,r⟩
 ·obtain⟨z,its,r,p⟩:=h.ok I.hok
  exact⟨its,r,p,z⟩
 ·refine⟨its.toList,r,⟨o,I.kIn a o hk,hc,n,by simpa using hs⟩,?_⟩
  have e:=r.length;simp only[Array.length_toList] at e;walk_at "o"
theorem Inv.list_inj (I:Inv X pins σ H s) (h:SqL X.K H a xs) (h':SqL X.K H a ys):xs=ys:=by
 obtain⟨its,r,⟨o,n,e,_,_,d⟩,_⟩:=I.list h;obtain⟨its',r',⟨o',n',e',_,_,d'⟩,_⟩:=I.list h';rw[e] at e';cases e';rw[d] at d';injection d' with d1 _
 have:its=its':=by simpa using congrArg Array.toList d1
 subst this;exact r.inj r'
theorem Inv.tuple_inj (I:Inv X pins σ H s) (h:SqT X.K H a xs) (h':SqT X.K H a ys):xs=ys:=by
 obtain⟨its,r,⟨o,e,_,n,d⟩,_⟩:=I.tuple h;obtain⟨its',r',⟨o',e',_,n',d'⟩,_⟩:=I.tuple h';rw[e] at e';cases e';rw[d] at d';injection d' with d1 _
 have:its=its':=by simpa using congrArg Array.toList d1
 subst this;exact r.inj r'
end
noncomputable abbrev Cx.wish (X:Cx) (E:Value→Shared→Prop):Cx:={ X with xe:=E }
noncomputable abbrev Cx.nox (X:Cx):Cx:=X.wish fun _ _=>False
theorem Cx.Ok.wish {X:Cx} (ok:X.Ok) (E:Value→Shared→Prop):(X.wish E).Ok :=
 ⟨ok.mod,ok.kind,ok.glob,ok.blt,ok.above,ok.inj,ok.has,ok.cab,ok.hd,ok.frames,ok.stk,ok.exf,ok.bs,ok.bsz,ok.noex,ok.exfs,ok.funs,ok.frf⟩
theorem Cx.Ok.unwish {X:Cx} {E:Value→Shared→Prop} (ok:(X.wish E).Ok):X.Ok :=
 ⟨ok.mod,ok.kind,ok.glob,ok.blt,ok.above,ok.inj,ok.has,ok.cab,ok.hd,ok.frames,ok.stk,ok.exf,ok.bs,ok.bsz,ok.noex,ok.exfs,ok.funs,ok.frf⟩
section
variable {X:Cx} {pins:List (Addr×Obj)} {σ:St} {H:Hp} {s:Shared} {E:Value→Shared→Prop}
theorem Inv.wish (I:Inv X pins σ H s) (E:Value→Shared→Prop):Inv (X.wish E) pins σ H s:=⟨I.ok.wish E,I.os,I.bare,I.base,I.loc,I.cell,I.free,I.freeC,I.pin,I.hok,I.len⟩
theorem Inv.unwish (I:Inv (X.wish E) pins σ H s):Inv X pins σ H s:=⟨I.ok.unwish,I.os,I.bare,I.base,I.loc,I.cell,I.free,I.freeC,I.pin,I.hok,I.len⟩
theorem SP.unwish {D:Ends} {f:Flow} {s':Shared} (h:SP (X.wish E) pins D f s'):SP X pins D f s':=by
 cases f with
 | next=>obtain⟨σ',H',I,q⟩:=h;exact⟨σ',H',I.unwish,q⟩
 | brk=>obtain⟨σ',H',I,q⟩:=h;exact⟨σ',H',I.unwish,q⟩
 | cont=>obtain⟨σ',H',I,q⟩:=h;exact⟨σ',H',I.unwish,q⟩
 | ret u=>obtain⟨v,σ',H',I,r,q⟩:=h;exact⟨v,σ',H',I.unwish,r,q⟩
theorem PSs.nox {st:List Stmt} {t:TS} (h:PSs X.nox st t):PSs X st t:=by with_unfolding_all exact (fun pins s σ H D I hw =>
 wpAny_mono (h pins s σ H D (I.wish _) hw) (fun _ _ q=>q.unwish) fun _ _ z=>False.elim z)
end
section
variable {X:Cx} {st:Stmt} {rest:List Stmt} {t u:TS} {e:Expr} {te:TE} {pos:Pos}
def Xc7:TS:=fun D σ H=>D.nx σ H
def tSeq (t u:TS):TS:=fun D σ H=>t { D with nx:=u D } σ H
theorem Zb4:PSs X [] Xc7:=by with_unfolding_all exact (fun _ _ σ H _ I h=>wpAny_execs_nil ⟨σ,H,I,h⟩)
theorem Za4 (h1:PS X st t) (h2:PSs X rest u):PSs X (st :: rest) (tSeq t u):=by with_unfolding_all
 intro pins s σ H D I h;refine wpAny_execs_cons (thn (h1 pins s σ H { D with nx:=u D } I h) fun f s1 q=>?_)
 cases f with
 | next =>
  obtain⟨σ',H',I',q⟩:=q;exact h2 pins s1 σ' H' D I' q
 | ret v=>exact q
 | brk=>exact q
 | cont=>exact q
theorem Za7 (h1:PS X st t):PSs X [st] t:=by with_unfolding_all
 intro pins s σ H D I h;refine wpAny_execs_cons (thn (h1 pins s σ H D I h) fun f s1 q=>?_)
 cases f with
 | next=>exact wpAny_execs_nil q
 | ret v=>exact q
 | brk=>exact q
 | cont=>exact q
def Zw5:TS:=fun D σ H=>D.bk σ H
theorem Xo8:PS X (.Break pos) Zw5:=by with_unfolding_all exact (fun _ _ σ H _ I h=>wpAny_Break ⟨σ,H,I,h⟩)
theorem Inv.quiet {pins:List (Addr×Obj)} {σ:St} {H:Hp} {s:Shared} (I:Inv X pins σ H s):interactive X.env=false:=by simp[interactive,I.ok.kind]
def Xv6 (te:TE):TS:=fun D σ H=>te σ H fun _ H1=>D.nx σ H1
theorem Zx9 (he:PE X e te) (hs:swapsWith e none pos.line X.env=pure false:=by rfl):PS X (.Expr e pos) (Xv6 te):=by with_unfolding_all
 intro pins s σ H D I h;exact wpAny_Expr_any (thn (he pins s σ H _ I h) fun v s1 ⟨x,H1,I1,r1,q1⟩=>⟨σ,H1,I1,q1⟩) I.quiet hs
def tRet (te:TE):TS:=fun D σ H=>te σ H D.rt
theorem Zb2 (he:PE X e te):PS X (.Return (some e) pos) (tRet te):=by with_unfolding_all
 intro pins s σ H D I h;exact wpAny_Return_some (thn (he pins s σ H _ I h) fun v s1 ⟨x,H1,I1,r1,q1⟩=>⟨x,σ,H1,I1,r1,q1⟩)
def tIfS (c:TT) (t u:TS):TS:=fun D σ H=>c σ H fun b H1=>if b=true then t D σ H1 else u D σ H1
theorem Zd7 {c:Expr} {a b:List Stmt} {tc:TT} (hc:PT X c tc) (ha:PSs X a t) (hb:PSs X b u):PS X (.If c a b pos) (tIfS tc t u):=by with_unfolding_all
 intro pins s σ H D I h;refine wpAny_If (thn (hc pins s σ H _ I h) fun d s1 zq=>?_);obtain⟨H1,I1,q1⟩:=zq
 cases d with
 | true=>exact ha pins s1 σ H1 D I1 q1
 | false=>exact hb pins s1 σ H1 D I1 q1
end
noncomputable abbrev TG:=V→St→Hp→(St→Hp→Prop)→Prop
noncomputable abbrev TGs:=List V→St→Hp→(St→Hp→Prop)→Prop
@[irreducible] def PG (X:Cx) (target:Expr) (t:TG):Prop :=
 ∀ (pins:List (Addr×Obj)) (s:Shared) (σ:St) (H:Hp) (v:V) (u:Value) (Q:St→Hp→Prop),Inv X pins σ H s→RelV v u→t v σ H Q →
  wpAny (model X.prog X.w) X.A (assign target X.env u) (fun _ s'=>∃ σ' H',Inv X pins σ' H' s'∧Q σ' H') X.xe s
@[irreducible] def PGs (X:Cx) (ts:List Expr) (t:TGs):Prop :=
 ∀ (pins:List (Addr×Obj)) (s:Shared) (σ:St) (H:Hp) (vs:List V) (us:List Value) (Q:St→Hp→Prop),Inv X pins σ H s→Vals vs us→t vs σ H Q →
  wpAny (model X.prog X.w) X.A (assignInOrder ((assignEach ts X.env).map (·.2)) us) (fun _ s'=>∃ σ' H',Inv X pins σ' H' s'∧Q σ' H') X.xe s
noncomputable abbrev TSet:=V→V→V→Hp→(Hp→Prop)→Prop
def PSet (X:Cx) (t:TSet):Prop :=
 ∀ (pins:List (Addr×Obj)) (s:Shared) (σ:St) (H:Hp) (o i v:V) (ov iv u:Value) (Q:Hp→Prop),Inv X pins σ H s→RelV o ov→RelV i iv→RelV v u→t o i v H Q →
  wpAny (model X.prog X.w) X.A (setItem ov iv u) (fun _ s'=>∃ H',Inv X pins σ H' s'∧Q H') X.xe s
section
variable {X:Cx} {pos:Pos}
def Zv1 (i:Nat):TG:=fun v σ H Q=>Q (σ.set i (some v)) H
theorem Zc2 {i:Nat} {x:Str} (hN:X.N.Nodup) (hi:X.N[i]?=some x) (hx:Loc X.env.scope x) (hf:X.fn x=true∨X.env.scope.names.lookup x=some .local:=by first | exact .inl rfl | exact .inr rfl | assumption):PG X (.Name x pos) (Zv1 i):=by with_unfolding_all
 intro pins s σ H v u Q I r h;exact wpAny_assign_Name (Zv4 I hN hi hx r (fun s' I'=>⟨_,H,I',h⟩) hf)
def gNil:TGs:=fun vs σ H Q=>vs=[]∧Q σ H
def Xj2 (t:TG) (u:TGs):TGs:=fun vs σ H Q=>∃ v r,vs=v :: r∧t v σ H fun σ' H'=>u r σ' H' Q
theorem Zi6:PGs X [] gNil:=by with_unfolding_all
 intro pins s σ H vs us Q I r h;obtain⟨e,h⟩:=h;subst e;cases r;exact assignInOrder_nil ⟨σ,H,I,h⟩
theorem Zc6 {e:Expr} {es:List Expr} {t:TG} {u:TGs} (h1:PG X e t) (h2:PGs X es u)
  (hs:(assignEach (e :: es) X.env).map (·.2)=assign e X.env :: (assignEach es X.env).map (·.2):=by rfl):PGs X (e :: es) (Xj2 t u):=by with_unfolding_all
 intro pins s σ H vs us Q I r h;obtain⟨v,vr,e1,h⟩:=h;subst e1
 cases r with
 | cons r rr =>
  rw[hs];refine assignInOrder_cons (thn (h1 pins s σ H _ _ _ I r h) fun _ s1 zq=>?_);obtain⟨σ1,H1,I1,q1⟩:=zq;exact h2 pins s1 σ1 H1 _ _ Q I1 rr q1
def gTup (K:W.Frag) (n:Nat) (t:TGs):TG:=fun v σ H Q=>∃ a xs,v=.ref a∧SqT K H a xs∧xs.length=n∧t xs σ H Q
theorem Zy2 {es:List Expr} {k:Nat} {t:TGs} {n:Nat} (hc:X.calm=true) (h:PGs X es t)
  (hn:(assignEach es X.env).length=n:=by rfl) (hst:(assignEach es X.env).findIdx? (·.1)=none:=by rfl):PG X (.Tuple es k pos) (gTup X.K n t):=by with_unfolding_all
 intro pins s σ H v u Q I r hw;obtain⟨a,xs,e1,hq,hl,hw⟩:=hw;subst e1;cases r;obtain⟨its,rv,ht,hz⟩:=I.tuple hq;refine assign_Tuple_tuple (I.ok.hd hc) ht (by simp[hn,← hl,rv.length]) hst fun h' hx=>?_;have I1:Inv X pins σ H { s with heap:=h' }:=I.kept (t':=s.toks) fun b o e=>hx b o (Nat.ne_of_lt (Heap.lt_size e)) e;exact h pins _ σ H xs _ Q I1 (by simpa using rv) hw
def gSub (to ti:TE) (t:TSet):TG:=fun v σ H Q=>to σ H fun o H1=>ti σ H1 fun i H2=>t o i v H2 fun H3=>Q σ H3
theorem Wd8 {o i:Expr} {to ti:TE} {t:TSet} (ho:PE X o to) (hi:PE X i ti) (hs:PSet X t)
  (ha:∀ v,assign (.Subscript o i pos) X.env v=(do
   let ov ← holding [v] (eval o X.env)
   let iv ← holding [v,ov] (eval i X.env)
   standAt pos
   holding [v,ov,iv] (setItem ov iv v)
   release [v,ov,iv] []):=by intro _;rfl):PG X (.Subscript o i pos) (gSub to ti t):=by with_unfolding_all
 intro pins s σ H v u Q I r h;rw[ha];refine wpAny_bind (wpAny_holding (thn (ho pins s σ H _ I h) fun ov s1 zq=>?_));obtain⟨x,H1,I1,r1,q1⟩:=zq;refine wpAny_bind (wpAny_holding (thn (hi pins s1 σ H1 _ I1 q1) fun iv s2 zq=>?_));obtain⟨y,H2,I2,r2,q2⟩:=zq;refine wpAny_bind (wpAny_standAt (wpAny_bind (wpAny_holding (thn (hs pins s2 σ H2 x y v ov iv u _ I2 r1 r2 r q2) fun _ s3 zq=>?_))));obtain⟨H3,I3,q3⟩:=zq;exact wpAny_release ⟨σ,H3,I3,q3⟩
def tAsg (te:TE) (g:TG):TS:=fun D σ H=>te σ H fun x H1=>g x σ H1 D.nx
theorem Yb7 {tg e:Expr} {te:TE} {g:TG} (he:PE X e te) (hg:PG X tg g) (hs:swapsWithSole [tg] e pos.line X.env=pure false:=by rfl) (hw:swappedStores [tg] e X.env=pure none:=by rfl)
  (h1:(assignEach [tg] X.env).map (·.2)=[assign tg X.env]:=by rfl):PS X (.Assign [tg] e pos) (tAsg te g):=by with_unfolding_all
 intro pins s σ H D I h;refine wpAny_Assign_stores (thn (he pins s σ H _ I h) fun v s1 ⟨x,H1,I1,r1,q1⟩=>?_) hs hw;rw[h1];exact thn (hg pins s1 σ H1 x v _ I1 r1 q1) fun _ s2 q=>q
theorem Zu1 {i:Nat} {x:Str} {e:Expr} {te:TE} {pos':Pos} (hN:X.N.Nodup) (hi:X.N[i]?=some x) (hx:Loc X.env.scope x) (he:PE X e te) (hs:swapsWith e (some (.Name x pos')) pos.line X.env=pure false:=by rfl) (hf:X.fn x=true∨X.env.scope.names.lookup x=some .local:=by first | exact .inl rfl | exact .inr rfl | assumption) :
  PS X (.Assign [.Name x pos'] e pos) (tAsg te (Zv1 i)):=by with_unfolding_all
 intro pins s σ H D I h;refine wpAny_Assign_Name (thn (he pins s σ H _ I h) fun v s1 ⟨y,H1,I1,r1,q1⟩=>?_) hs;exact Zv4 I1 hN hi hx r1 (fun s2 I2=>⟨_,H1,I2,q1⟩) hf
end
section
variable {X:Cx} {pos:Pos}
def Wb6 (c:TT) (tb:TS):TS:=fun D σ H=>∃ W:Nat→St→Hp→Prop,(∃ m,W m σ H)∧∀ m σ H,W m σ H →
 c σ H fun b H1=>if b=true then ∃ N:St→Hp→Prop,(∀ σ' H',N σ' H'→∃ m',m' < m∧W m' σ' H')∧tb { D with nx:=N,ct:=N,bk:=D.nx } σ H1 else D.nx σ H1
theorem Xo7 {c:Expr} {body:List Stmt} {tc:TT} {tb:TS} (hp:PassesOwn (model X.prog X.w) X.A X.env X.xe) (hc:PT X c tc) (hb:PSs X body tb):PS X (.While c body [] pos) (Wb6 tc tb):=by with_unfolding_all
 intro pins s σ H D I h;obtain⟨W,⟨m0,w0⟩,turn⟩:=h;refine wpAny_While (codeAny_whileLoop (fun n s'=>∃ σ' H',Inv X pins σ' H' s'∧W n σ' H') ?_ m0 ⟨σ,H,I,w0⟩);rintro n s1 ⟨σ1,H1,I1,w1⟩;refine wpAny_passesOwn hp (thn (hc pins s1 σ1 H1 _ I1 (turn n σ1 H1 w1)) fun b s2 zq=>?_);obtain⟨H2,I2,q2⟩:=zq
 cases b with
 | true =>
  obtain⟨N,hN,q2⟩:=q2;rw[if_pos rfl];refine wpAny_passesOwn hp (thn (hb pins s2 σ1 H2 _ I2 q2) fun f s3 q3=>?_)
  cases f with
  | next =>
   obtain⟨σ3,H3,I3,n3⟩:=q3;obtain⟨m',hm,w3⟩:=hN σ3 H3 n3;exact⟨m',hm,σ3,H3,I3,w3⟩
  | cont =>
   obtain⟨σ3,H3,I3,n3⟩:=q3;obtain⟨m',hm,w3⟩:=hN σ3 H3 n3;exact⟨m',hm,σ3,H3,I3,w3⟩
  | brk=>exact q3
  | ret v=>exact q3
 | false =>
  rw[if_neg Bool.false_ne_true];exact wpAny_execs_nil ⟨σ1,H2,I2,q2⟩
end
structure It where
 go:Nat→Hp→Prop
 yld:Nat→Hp→V→Hp→Prop
 stop:Nat→Hp→Prop
def FpOk (X:Cx) (pins:List (Addr×Obj)) (H:Hp) (b:Addr):Prop :=
 H b=none∧b≠X.env.locals∧b ∉ X.fs∧(b∈X.ex∨X.s₀.heap.objs.size≤b)∧(∀ x c,X.env.cells.lookup x=some c→c≠b)∧∀ p∈X.pn++pins,p.1≠b
theorem Inv.fpOk {X:Cx} {pins:List (Addr×Obj)} {σ:St} {H H':Hp} {s:Shared} {b:Addr} (I:Inv X pins σ H s) (hb:s.heap.objs.size≤b) (hn:H' b=none):FpOk X pins H' b:=by
 refine⟨hn,Nat.ne_of_gt (Nat.lt_of_lt_of_le I.lt hb),I.nofs hb,.inr (Nat.le_trans I.sz hb),fun x c e z=>?_,fun p hp z=>?_⟩
 ·obtain⟨v,q⟩:=I.cell x c e
  exact absurd (Nat.lt_of_lt_of_le q.lt (by rw[z];exact hb)) (Nat.lt_irrefl _)
 ·exact absurd (Nat.lt_of_lt_of_le (Heap.lt_size (I.pin p hp).1) (by rw[z];exact hb)) (Nat.lt_irrefl _)
structure Turn (P:Program) (w:World) (K:W.Frag) (tg:Expr) (J:It) (fp:List Addr) (it:Addr) (tn:Nat→Heap→Prop):Prop where
  mem:it∈fp
  obj:∀ i h,tn i h→∀ b∈fp,∃ o,h.get? b=some o∧∀ v,o.data≠.cell v
  keep:∀ i h h',tn i h→(∀ b∈fp,∀ o,h.get? b=some o→h'.get? b=some o)→tn i h'
  item:∀ (X:Cx),X.prog=P→X.w=w→X.K=K→X.calm=true→∀ (i:Nat) (pins:List (Addr×Obj)) (s:Shared) (σ:St) (H:Hp) (E:Value→Shared→Prop),Inv X pins σ H s→(∀ b∈fp,FpOk X pins H b)→tn i s.heap→J.go i H →
    wpAny (model P w) X.A (pyNext (.ref it)) (fun r s1=>∃ u,r=some u ∧
      wpAny (model P w) X.A (letOwnedTupleGo tg (.ref it) u) (fun _ s2=>∃ x H',Inv X pins σ H' s2∧RelV x u∧J.yld i H x H'∧tn (i+1) s2.heap∧∀ b∈fp,H' b=none) E s1) E s
  done:∀ (X:Cx),X.prog=P→X.w=w→X.K=K→X.calm=true→∀ (i:Nat) (pins:List (Addr×Obj)) (s:Shared) (σ:St) (H:Hp) (E:Value→Shared→Prop),Inv X pins σ H s→(∀ b∈fp,FpOk X pins H b)→tn i s.heap→J.stop i H →
    wpAny (model P w) X.A (pyNext (.ref it)) (fun r s1=>r=none∧Inv X pins σ H s1) E s
  self:∀ (A:Around) (i:Nat) (s:Shared) (Q:Value→Shared→Prop) (E:Value→Shared→Prop),tn i s.heap→Q (.ref it) s→wpAny (model P w) A (pyIter (.ref it)) Q E s
noncomputable abbrev TI:=St→Hp→(It→Hp→Prop)→Prop
def PIE (X:Cx) (pins:List (Addr×Obj)) (σ:St) (tg:Expr) (R:It→Hp→Prop) (itv:Value) (s2:Shared):Prop :=
 ∃ (it:Addr) (fp:List Addr) (tn:Nat→Heap→Prop) (J:It) (H':Hp),itv=.ref it∧Inv X pins σ H' s2∧Turn X.prog X.w X.K tg J fp it tn∧tn 0 s2.heap∧(∀ b∈fp,FpOk X pins H' b)∧R J H'
@[irreducible] def PI (X:Cx) (tg iter:Expr) (wi:TI):Prop :=
 ∀ (pins:List (Addr×Obj)) (s:Shared) (σ:St) (H:Hp) (R:It→Hp→Prop),Inv X pins σ H s→wi σ H R →
  wpAny (model X.prog X.w) X.A (eval iter X.env) (fun v s1=>wpAny (model X.prog X.w) X.A (pyIter v) (PIE X pins σ tg R) X.xe s1) X.xe s
theorem Xj0 {M:Model} {A:Around} {E:Value→Shared→Prop} {s:Shared} {tg:Expr} {it:Addr} {u:Value} {o:Obj} {n:String} {vs:Array Value} {Q:Unit→Shared→Prop} (ho:s.heap.get? it=some o) (hc:o.cls=.type n) (hd:o.data=.fields vs)
    (hn:["enumerate","zip","dict_itemiterator","dict_reverseitemiterator","odict_iterator","itertools.zip_longest","itertools.pairwise"].contains n=false) (hQ:Q () s):wpAny M A (letOwnedTupleGo tg (.ref it) u) Q E s:=by
  unfold letOwnedTupleGo
  cases tg<;>first
    | exact wpAny_pure hQ
    | (cases u<;>first
        | exact wpAny_pure hQ
        | (refine wpAny_bind (wpAny_load ho ?_)
           rw[hc,hd];show wpAny M A (if (["enumerate","zip","dict_itemiterator","dict_reverseitemiterator","odict_iterator","itertools.zip_longest","itertools.pairwise"].contains n&&vs[0]? == some (rawInt _))=true then _ else _) Q E s;rw[if_neg (by intro h;rw[hn,Bool.false_and] at h;cases h)]
           exact wpAny_pure hQ))
noncomputable def Itl (K:W.Frag) (a:Addr):It :=
 ⟨fun i H=>∃ xs x,SqL K H a xs∧xs[i]?=some x,fun i H x H'=>H'=H∧∀ xs,SqL K H a xs→xs[i]?=some x,fun i H=>∃ xs,SqL K H a xs∧xs.length≤i⟩
noncomputable def Itt (K:W.Frag) (a:Addr):It :=
 ⟨fun i H=>∃ xs x,SqT K H a xs∧xs[i]?=some x,fun i H x H'=>H'=H∧∀ xs,SqT K H a xs→xs[i]?=some x,fun i H=>∃ xs,SqT K H a xs∧xs.length≤i⟩
noncomputable def Itr (lo:Int) (n:Nat):It:=⟨fun i _=>i < n,fun i H x H'=>H'=H∧x=.int (lo+i),fun i _=>n≤i⟩
theorem Xb6 {P:Program} {w:World} {K:W.Frag} {tg:Expr} (a it:Addr):Turn P w K tg (Itl K a) [it] it (fun i h=>h.IsListIter it a i) where
  mem:=by simp
  obj:=fun i h st b hb=>by
    have e:b=it:=by simpa using hb
    subst e;obtain⟨o,e,c,d⟩:=st;exact⟨o,e,fun v z=>by rw[d] at z;cases z⟩
  keep:=fun i h h' st k=>st.at fun o e=>k it (by simp) o e
  item:=by
    intro X hP hw hK hc i pins s σ H E I hf st hg;subst hP hw hK;obtain⟨xs,x,hq,hx⟩:=hg;obtain⟨its,rv,p,hz⟩:=I.list hq;obtain⟨u,hu,ru⟩:=rv.get hx;obtain⟨f0,f1,f2,f3,f4,f5⟩:=hf it (by simp);refine wpAny_pyNext_list_item st p.isList (x:=u) (by simpa using hu) fun h' st' sb=>?_;have I1:Inv X pins σ H { s with heap:=h' }:=I.turned (t':=s.toks) (fun b o hb e=>(sb.2 b hb).trans e) f0 f1 f3 f4 f5;obtain⟨o,e,c,d⟩:=id st';exact⟨u,rfl,Xj0 (s:={ s with heap:=h' }) e c d (by decide) ⟨x,H,I1,ru,⟨rfl,fun ys hy=>by rw[I.list_inj hy hq];exact hx⟩,st',fun b hb=>(hf b hb).1⟩⟩
  done:=by
    intro X hP hw hK hc i pins s σ H E I hf st hg;subst hP hw hK;obtain⟨xs,hq,hx⟩:=hg;obtain⟨its,rv,p,hz⟩:=I.list hq;obtain⟨f0,f1,f2,f3,f4,f5⟩:=hf it (by simp);have hl:=rv.length;exact wpAny_pyNext_list_end (I.ok.hd hc) st p.isList (by simp;walk_at "o") fun h' eb=>⟨rfl,I.turned (t':=s.toks) (fun b o hb e=>eb b o hb e) f0 f1 f3 f4 f5⟩
  self:=fun _ _ _ _ _ st h=>wpAny_pyIter_listiter st h
theorem Yx0 {P:Program} {w:World} {K:W.Frag} {tg:Expr} (a it:Addr):Turn P w K tg (Itt K a) [it] it (fun i h=>h.IsTupleIter it a i) where
  mem:=by simp
  obj:=fun i h st b hb=>by
    have e:b=it:=by simpa using hb
    subst e;obtain⟨o,e,c,d⟩:=st;exact⟨o,e,fun v z=>by rw[d] at z;cases z⟩
  keep:=fun i h h' st k=>st.at fun o e=>k it (by simp) o e
  item:=by
    intro X hP hw hK hc i pins s σ H E I hf st hg;subst hP hw hK;obtain⟨xs,x,hq,hx⟩:=hg;obtain⟨its,rv,p,hz⟩:=I.tuple hq;obtain⟨u,hu,ru⟩:=rv.get hx;obtain⟨f0,f1,f2,f3,f4,f5⟩:=hf it (by simp);refine wpAny_pyNext_tuple_item st (show s.heap.IsTuple a its.toArray from p) (x:=u) (by simpa using hu) fun h' st' sb=>?_;have I1:Inv X pins σ H { s with heap:=h' }:=I.turned (t':=s.toks) (fun b o hb e=>(sb.2 b hb).trans e) f0 f1 f3 f4 f5;obtain⟨o,e,c,d⟩:=id st';exact⟨u,rfl,Xj0 (s:={ s with heap:=h' }) e c d (by decide) ⟨x,H,I1,ru,⟨rfl,fun ys hy=>by rw[I.tuple_inj hy hq];exact hx⟩,st',fun b hb=>(hf b hb).1⟩⟩
  done:=by
    intro X hP hw hK hc i pins s σ H E I hf st hg;subst hP hw hK;obtain⟨xs,hq,hx⟩:=hg;obtain⟨its,rv,p,hz⟩:=I.tuple hq;obtain⟨f0,f1,f2,f3,f4,f5⟩:=hf it (by simp);have hl:=rv.length;exact wpAny_pyNext_tuple_end (I.ok.hd hc) st (show s.heap.IsTuple a its.toArray from p) (by simp;walk_at "o") fun h' eb=>⟨rfl,I.turned (t':=s.toks) (fun b o hb e=>eb b o hb e) f0 f1 f3 f4 f5⟩
  self:=fun _ _ _ _ _ st h=>wpAny_pyIter_tupleiter st h
theorem Yx1 {P:Program} {w:World} {K:W.Frag} {tg:Expr} (it:Addr) (lo:Int) (n:Nat):Turn P w K tg (Itr lo n) [it] it (fun i h=>IsRangeIter h it (lo+(i:Nat)*1) ((n:Int) - (i:Nat)) 1) where
  mem:=by simp
  obj:=fun i h st b hb=>by
    have e:b=it:=by simpa using hb
    subst e
    exact⟨_,st,fun v z=>by
      have z':Data.fields _=Data.cell v:=z
      cases z'⟩
  keep:=fun i h h' st k=>k it (by simp) _ st
  item:=by
    intro X hP hw hK hc i pins s σ H E I hf st hg;subst hP hw hK;obtain⟨f0,f1,f2,f3,f4,f5⟩:=hf it (by simp);have W:=Walks.range (prog:=X.prog) (w:=X.w) (I.ok.hd hc) it lo 1 n;refine W.item i s _ _ hg st fun v h' tk hv st' kk=>?_;obtain⟨t,rfl⟩:=hv;have I1:Inv X pins σ H { s with heap:=h',toks:=tk }:=I.turned (fun b o hb e=>kk b o (by simpa using hb) e) f0 f1 f3 f4 f5;refine⟨_,rfl,Xj0 (s:={ s with heap:=h',toks:=tk }) (n:="range_iterator") st' rfl rfl (by decide) ⟨.int (lo+i),H,I1,⟨t,?_⟩,⟨rfl,rfl⟩,st',fun b hb=>(hf b hb).1⟩⟩;rw[Int.mul_one]
  done:=by
    intro X hP hw hK hc i pins s σ H E I hf st hg;subst hP hw hK;obtain⟨f0,f1,f2,f3,f4,f5⟩:=hf it (by simp);exact wpAny_pyNext_range_end (I.ok.hd hc) st (by have:n≤i:=hg;walk_at "o") fun h' eb=>⟨rfl,I.turned (t':=s.toks) (fun b o hb e=>eb b o hb e) f0 f1 f3 f4 f5⟩
  self:=fun _ _ _ _ _ st h=>wpAny_pyIter_rangeiter st h
section
variable {X:Cx} {tg:Expr}
def Yq5 (K:W.Frag) (tl:TE):TI:=fun σ H R=>tl σ H fun x H1=>∃ a,x=.ref a∧(∃ xs,SqL K H1 a xs)∧R (Itl K a) H1
def iTup (K:W.Frag) (tl:TE):TI:=fun σ H R=>tl σ H fun x H1=>∃ a,x=.ref a∧(∃ xs,SqT K H1 a xs)∧R (Itt K a) H1
theorem Yo9 {l:Expr} {tl:TE} (hl:PE X l tl):PI X tg l (Yq5 X.K tl):=by with_unfolding_all
 intro pins s σ H R I h;refine thn (hl pins s σ H _ I h) fun v s1 zq=>?_;obtain⟨x,H1,I1,r1,q1⟩:=zq;obtain⟨a,e,⟨xs,hq⟩,q⟩:=q1;subst e;cases r1;obtain⟨its,rv,p,hz⟩:=I1.list hq;refine wpAny_pyIter_list p.isList ?_;refine⟨s1.heap.objs.size,[s1.heap.objs.size],_,_,H1,rfl,I1.kept (t':=s1.toks) fun b o e=>Heap.get?_push_of_some _ e,Xb6 a _,⟨_,Heap.get?_push_size _ rfl,rfl,rfl⟩,fun b hb=>?_,q⟩
 have e:b=s1.heap.objs.size:=by simpa using hb
 subst e;exact I1.fpOk (Nat.le_refl _) (I1.hok.fresh (Nat.le_refl _))
theorem Wd7 {l:Expr} {tl:TE} (hl:PE X l tl):PI X tg l (iTup X.K tl):=by with_unfolding_all
 intro pins s σ H R I h;refine thn (hl pins s σ H _ I h) fun v s1 zq=>?_;obtain⟨x,H1,I1,r1,q1⟩:=zq;obtain⟨a,e,⟨xs,hq⟩,q⟩:=q1;subst e;cases r1;obtain⟨its,rv,p,hz⟩:=I1.tuple hq;refine wpAny_pyIter_tuple (show s1.heap.IsTuple a its.toArray from p) ?_;refine⟨s1.heap.objs.size,[s1.heap.objs.size],_,_,H1,rfl,I1.kept (t':=s1.toks) fun b o e=>Heap.get?_push_of_some _ e,Yx0 a _,⟨_,Heap.get?_push_size _ rfl,rfl,rfl⟩,fun b hb=>?_,q⟩
 have e:b=s1.heap.objs.size:=by simpa using hb
 subst e;exact I1.fpOk (Nat.le_refl _) (I1.hok.fresh (Nat.le_refl _))
theorem Xo4 {pins:List (Addr×Obj)} {σ:St} {H:Hp} {s:Shared} {R:It→Hp→Prop} {E:Value→Shared→Prop} {lo hi:Int} {t u v:Tok} {tk:Nat} (I:Inv X pins σ H s) (h1:-(2 ^ 62)≤lo) (h2:lo < 2 ^ 62) (h3:-(2 ^ 62)≤hi) (h4:hi < 2 ^ 62)
  (q:R (Itr lo (hi - lo).toNat) H):wpAny (model X.prog X.w) X.A (pyIter (.ref s.heap.objs.size)) (PIE X pins σ tg R) E { s with heap:=s.heap.push { cls:=.type "range",data:=.fields #[.int lo t,.int hi u,.int 1 v] },toks:=tk }:=by
 refine wpAny_pyIter_range (IsRange.new ..) (small_one h1 h2 h3 h4) ?_;have I1:Inv X pins σ H { s with heap:=s.heap.push { cls:=.type "range",data:=.fields #[.int lo t,.int hi u,.int 1 v] },toks:=tk }:=I.kept fun b o e=>Heap.get?_push_of_some _ e
 refine⟨(s.heap.push { cls:=.type "range",data:=.fields #[.int lo t,.int hi u,.int 1 v] }).objs.size,[(s.heap.push { cls:=.type "range",data:=.fields #[.int lo t,.int hi u,.int 1 v] }).objs.size],_,_,H,rfl,
  I1.kept (t':=tk) fun b o e=>Heap.get?_push_of_some _ e,Yx1 _ lo (hi - lo).toNat,?_,fun b hb=>?_,q⟩
 ·have e1:lo+((0:Nat):Int)*1=lo:=by simp
  have e2:(((hi - lo).toNat:Nat):Int) - ((0:Nat):Int)=Builtin.Range.rangeSize lo hi 1:=by rw[rangeSize_one];split<;>walk_at "o"
  show IsRangeIter _ _ (lo+((0:Nat):Int)*1) ((((hi - lo).toNat:Nat):Int) - ((0:Nat):Int)) 1;rw[e1,e2];exact Heap.get?_push_size _ rfl
 ·have e:b=(s.heap.push { cls:=.type "range",data:=.fields #[.int lo t,.int hi u,.int 1 v] }).objs.size:=by simpa using hb
  subst e;exact I1.fpOk (Nat.le_refl _) (I1.hok.fresh (Nat.le_refl _))
def Yq2 (ta:TA):TI:=fun σ H R=>ta σ H fun vs H1=>∃ j:Int,vs=[.int j]∧-(2 ^ 62)≤j∧j < 2 ^ 62∧R (Itr 0 j.toNat) H1
theorem Zh3 {a:Expr} {ta:TA} {p pos:Pos} (hg:Gl X "range") (hm:X.mg "range"=none) (ha:PA X [a] ta) (hs:starEach [a] X.env=[(false,eval a X.env)]:=by rfl):PI X tg (.Call (.Name "range" p) [a] [] pos) (Yq2 ta):=by with_unfolding_all
 intro pins s σ H R I h;refine Call_ (Zn7 I hg hm boot_range (PyProof.Rows.callWith_type1 (thn (ha pos pins s σ H _ I h) fun us s1 ⟨vs,H1,I1,r1,q1⟩=>?_) hs rfl));obtain⟨j,e,q1,q2,q⟩:=q1;subst e
 cases r1 with
 | cons r rr =>
  cases rr;obtain⟨t,rfl⟩:=r;exact call_range_1 (Xo4 I1 (by walk_at "o") (by walk_at "o") q1 q2 (by simpa using q))
def tFor (wi:TI) (g:TG) (tb:TS):TS:=fun D σ H=>wi σ H fun J H1=>∃ W:Nat→Nat→St→Hp→Prop,(∃ m,W 0 m σ H1)∧∀ i m σ H,W i m σ H →
 (J.stop i H∧D.nx σ H)∨(J.go i H∧∃ N:St→Hp→Prop,(∀ σ' H',N σ' H'→∃ m',m' < m∧W (i+1) m' σ' H')∧∀ x H',J.yld i H x H'→g x σ H' fun σ2 H2=>tb { D with nx:=N,ct:=N,bk:=D.nx } σ2 H2)
noncomputable def Yu3 (fp:List Addr) (h:Heap):List (Addr×Obj):=fp.filterMap fun b=>(h.get? b).map fun o=>(b,o)
theorem Zj1 {fp:List Addr} {h:Heap} {b:Addr} {o:Obj} (hb:b∈fp) (e:h.get? b=some o):(b,o)∈Yu3 fp h:=List.mem_filterMap.mpr ⟨b,hb,by rw[e];rfl⟩
theorem Xg0 {fp:List Addr} {h:Heap} {p:Addr×Obj} (hp:p∈Yu3 fp h):p.1∈fp∧h.get? p.1=some p.2:=by
 obtain⟨b,hb,e⟩:=List.mem_filterMap.mp hp
 cases q:h.get? b with
 | none=>rw[q] at e;cases e
 | some o =>
  rw[q] at e;have e':(b,o)=p:=Option.some.inj e;subst e';exact⟨hb,q⟩
theorem Inv.pinned {pins:List (Addr×Obj)} {σ:St} {H:Hp} {s:Shared} {fp:List Addr} (I:Inv X pins σ H s) (hf:∀ b∈fp,FpOk X pins H b) (ho:∀ b∈fp,∃ o,s.heap.get? b=some o∧∀ v,o.data≠.cell v):Inv X (pins++Yu3 fp s.heap) σ H s :=
 I.pins_of fun p hp=>(List.mem_append.mp hp).elim (fun z=>I.pin p (List.mem_append_right _ z)) fun z=>by
  obtain⟨hb,e⟩:=Xg0 z;obtain⟨f0,f1,f2,_⟩:=hf p.1 hb;obtain⟨o,e',d⟩:=ho p.1 hb;rw[e] at e';cases e';exact⟨e,f0,f1,f2,d⟩
theorem Inv.unpinned {pins pl:List (Addr×Obj)} {σ:St} {H:Hp} {s:Shared} (I:Inv X (pins++pl) σ H s):Inv X pins σ H s:=I.pins_of fun p hp=>I.pin p (List.mem_append_right _ (List.mem_append_left _ hp))
theorem Zm3 {iter:Expr} {body:List Stmt} {wi:TI} {g:TG} {tb:TS} {pos:Pos} (hp:PassesOwn (model X.prog X.w) X.A X.env X.xe) (hc:X.calm=true) (hi:PI X tg iter wi) (hg:PG X tg g) (hb:PSs X body tb)
  (hs:∀ x,foldedSetIterable iter X.env x=pure x:=by intro _;rfl):PS X (.For tg iter body [] pos) (tFor wi g tb):=by with_unfolding_all
 intro pins s σ H D I h;refine wpAny_For (thn (hi pins s σ H _ I h) fun v s1 h1=>thn h1 fun itv s2 h2=>?_) hs;obtain⟨it,fp,tn,J,H2,e,I2,T,st2,f2,W,⟨m0,w0⟩,turn⟩:=h2;subst e;have stat:∀ {H':Hp},(∀ b∈fp,H' b=none)→∀ b∈fp,FpOk X pins H' b:=fun hn b hb=>⟨hn b hb,(f2 b hb).2⟩;refine codeAny_forLoop_any (fun n s'=>∃ i σ' H',Inv X pins σ' H' s'∧tn i s'.heap∧(∀ b∈fp,H' b=none)∧W i n σ' H') ?_ m0 ⟨0,σ,H2,I2,st2,fun b hb=>(f2 b hb).1,w0⟩;rintro n s3 ⟨i,σ3,H3,I3,st3,fr3,w3⟩;rcases turn i n σ3 H3 w3 with ⟨stop,qn⟩ | ⟨go,N,hN,step⟩
 ·refine wpAny_passesOwn hp (thn (T.done X rfl rfl rfl hc i pins s3 σ3 H3 X.xe I3 (stat fr3) st3 stop) fun r s4 zq=>?_);obtain⟨hr,I4⟩:=zq
  subst hr;exact wpAny_execs_nil ⟨σ3,H3,I4,qn⟩
 ·refine wpAny_passesOwn hp (thn (T.item X rfl rfl rfl hc i pins s3 σ3 H3 X.xe I3 (stat fr3) st3 go) fun r s4 zq=>?_);obtain⟨u,hr,h4⟩:=zq
  subst hr;refine wpAny_passesOwn hp (thn h4 fun _ s5 zq=>?_);obtain⟨x,H5,I5,r5,y5,st5,fr5⟩:=zq;have I5':=I5.pinned (stat fr5) (T.obj _ _ st5);refine wpAny_passesOwn hp (thn (hg _ s5 σ3 H5 x u _ I5' r5 (step x H5 y5)) fun _ s6 zq=>?_);obtain⟨σ6,H6,I6,q6⟩:=zq;refine wpAny_passesOwn hp (thn (hb _ s6 σ6 H6 _ I6 q6) fun f s7 q7=>?_)
  have again:∀ {σ7:St} {H7:Hp},Inv X (pins++Yu3 fp s5.heap) σ7 H7 s7→N σ7 H7→∃ m,m < n∧∃ i σ' H',Inv X pins σ' H' s7∧tn i s7.heap∧(∀ b∈fp,H' b=none)∧W i m σ' H':=fun {σ7 H7} I7 n7=>by
   obtain⟨m',hm,w7⟩:=hN σ7 H7 n7;refine⟨m',hm,i+1,σ7,H7,I7.unpinned,T.keep _ _ _ st5 fun b hb o e=>(I7.pin (b,o) (List.mem_append_right _ (List.mem_append_right _ (Zj1 hb e)))).1,fun b hb=>?_,w7⟩;obtain⟨o,e,d⟩:=T.obj _ _ st5 b hb;exact (I7.pin (b,o) (List.mem_append_right _ (List.mem_append_right _ (Zj1 hb e)))).2.1
  cases f with
  | next=>obtain⟨σ7,H7,I7,n7⟩:=q7;exact again I7 n7
  | cont=>obtain⟨σ7,H7,I7,n7⟩:=q7;exact again I7 n7
  | brk=>obtain⟨σ7,H7,I7,q7⟩:=q7;exact⟨σ7,H7,I7.unpinned,q7⟩
  | ret v=>obtain⟨x7,σ7,H7,I7,r7,q7⟩:=q7;exact⟨x7,σ7,H7,I7.unpinned,r7,q7⟩
end
theorem Xq5 {K:W.Frag} {a:Addr} {xs:List V} {g:TG} {tb:TS} {D:Ends} {σ:St} {H:Hp} (Pv:Nat→St→Hp→Prop) (h0:Pv 0 σ H) (hl:∀ i σ H,i≤xs.length→Pv i σ H→SqL K H a xs)
  (hs:∀ i x σ H,xs[i]?=some x→Pv i σ H→g x σ H fun σ2 H2=>tb { D with nx:=Pv (i+1),ct:=Pv (i+1),bk:=D.nx } σ2 H2) (hd:∀ σ H,Pv xs.length σ H→D.nx σ H) :
  ∃ W:Nat→Nat→St→Hp→Prop,(∃ m,W 0 m σ H)∧∀ i m σ H,W i m σ H →
   ((Itl K a).stop i H∧D.nx σ H)∨((Itl K a).go i H∧∃ N:St→Hp→Prop,(∀ σ' H',N σ' H'→∃ m',m' < m∧W (i+1) m' σ' H')∧∀ x H',(Itl K a).yld i H x H'→g x σ H' fun σ2 H2=>tb { D with nx:=N,ct:=N,bk:=D.nx } σ2 H2):=by
 refine⟨fun i m σ H=>m=xs.length - i∧i≤xs.length∧Pv i σ H,⟨xs.length,by simp,Nat.zero_le _,h0⟩,?_⟩;rintro i m σ H ⟨rfl,hi,p⟩;have q:=hl i σ H hi p
 by_cases hlt:i < xs.length
 ·refine .inr ⟨⟨xs,xs[i],q,by simp[hlt]⟩,Pv (i+1),fun σ' H' p'=>⟨xs.length - (i+1),by walk_at "o",rfl,hlt,p'⟩,fun x H' y=>?_⟩
  obtain⟨e,y⟩:=y;subst e;exact hs i x σ _ (y xs q) p
 ·have e:i=xs.length:=by walk_at "o"
  subst e;exact .inl ⟨⟨xs,q,Nat.le_refl _⟩,hd σ H p⟩
theorem Zj5 {lo:Int} {n:Nat} {g:TG} {tb:TS} {D:Ends} {σ:St} {H:Hp} (Pv:Nat→St→Hp→Prop) (h0:Pv 0 σ H)
  (hs:∀ i σ H,i < n→Pv i σ H→g (.int (lo+i)) σ H fun σ2 H2=>tb { D with nx:=Pv (i+1),ct:=Pv (i+1),bk:=D.nx } σ2 H2) (hd:∀ σ H,Pv n σ H→D.nx σ H) :
  ∃ W:Nat→Nat→St→Hp→Prop,(∃ m,W 0 m σ H)∧∀ i m σ H,W i m σ H →
   ((Itr lo n).stop i H∧D.nx σ H)∨((Itr lo n).go i H∧∃ N:St→Hp→Prop,(∀ σ' H',N σ' H'→∃ m',m' < m∧W (i+1) m' σ' H')∧∀ x H',(Itr lo n).yld i H x H'→g x σ H' fun σ2 H2=>tb { D with nx:=N,ct:=N,bk:=D.nx } σ2 H2):=by
 refine⟨fun i m σ H=>m=n - i∧i≤n∧Pv i σ H,⟨n,by simp,Nat.zero_le _,h0⟩,?_⟩;rintro i m σ H ⟨rfl,hi,p⟩
 by_cases hlt:i < n
 ·refine .inr ⟨hlt,Pv (i+1),fun σ' H' p'=>⟨n - (i+1),by walk_at "o",rfl,hlt,p'⟩,fun x H' y=>?_⟩
  obtain⟨e,y⟩:=y;subst e y;exact hs i σ _ hlt p
 ·have e:i=n:=by walk_at "o"
  subst e;exact .inl ⟨Nat.le_refl _,hd σ H p⟩
noncomputable abbrev R2:=V→V→Hp→VK→Prop
def OpR (X:Cx) (f:Value→Value→Sem Value) (r:R2):Prop :=
 ∀ (pins:List (Addr×Obj)) (s:Shared) (σ:St) (H:Hp) (x y:V) (v u:Value) (Q:VK),Inv X pins σ H s→RelV x v→RelV y u→r x y H Q →
  wpAny (model X.prog X.w) X.A (f v u) (EP X pins σ Q) X.xe s
def UnR (X:Cx) (f:Value→Sem Value) (r:V→Hp→VK→Prop):Prop :=
 ∀ (pins:List (Addr×Obj)) (s:Shared) (σ:St) (H:Hp) (x:V) (v:Value) (Q:VK),Inv X pins σ H s→RelV x v→r x H Q →
  wpAny (model X.prog X.w) X.A (f v) (EP X pins σ Q) X.xe s
def Yh1 (X:Cx) (f:Value) (r:List V→Hp→VK→Prop):Prop :=
 ∀ (pins:List (Addr×Obj)) (s:Shared) (σ:St) (H:Hp) (xs:List V) (us:List Value) (Q:VK),Inv X pins σ H s→Vals xs us→r xs H Q →
  wpAny (model X.prog X.w) X.A (call f us) (EP X pins σ Q) X.xe s
def TruR (X:Cx) (r:V→Hp→(Bool→Hp→Prop)→Prop):Prop :=
 ∀ (pins:List (Addr×Obj)) (s:Shared) (σ:St) (H:Hp) (x:V) (v:Value) (Q:Bool→Hp→Prop),Inv X pins σ H s→RelV x v→r x H Q →
  wpAny (model X.prog X.w) X.A (truthy v) (TP X pins σ Q) X.xe s
def tOp (r:R2) (ta tb:TE):TE:=fun σ H Q=>ta σ H fun x H1=>tb σ H1 fun y H2=>r x y H2 Q
def tUn (r:V→Hp→VK→Prop) (ta:TE):TE:=fun σ H Q=>ta σ H fun x H1=>r x H1 Q
def rI (C:Int→Int→Prop) (g:Int→Int→V):R2:=fun x y H Q=>∃ i j,x=.int i∧y=.int j∧C i j∧Q (g i j) H
def rI0 (g:Int→Int→V):R2:=fun x y H Q=>∃ i j,x=.int i∧y=.int j∧Q (g i j) H
def rU (g:Int→V):V→Hp→VK→Prop:=fun x H Q=>∃ i,x=.int i∧Q (g i) H
section
variable {X:Cx} {a b c:Expr} {ta tb tc:TE} {pos:Pos}
theorem binT (ha:PE X a ta) (hb:PE X b tb) {pins:List (Addr×Obj)} {s:Shared} {σ:St} {H:Hp} {R:V→V→Hp→Prop} (I:Inv X pins σ H s)
  (h:ta σ H fun x H1=>tb σ H1 fun y H2=>R x y H2) {Q:Value→Shared→Prop} {f:Value→Value→Sem Value}
  (hf:∀ v u s2 x y H2,Inv X pins σ H2 s2→RelV x v→RelV y u→R x y H2→wpAny (model X.prog X.w) X.A (f v u) Q X.xe s2) :
  wpAny (model X.prog X.w) X.A (eval a X.env) (fun v s₁=>wpAny (model X.prog X.w) X.A (eval b X.env) (fun u s₂=>wpAny (model X.prog X.w) X.A (f v u) Q X.xe s₂) X.xe s₁) X.xe s:=by with_unfolding_all
 refine thn (ha pins s σ H _ I h) fun v s1 zq=>?_;obtain⟨x,H1,I1,r1,q1⟩:=zq;refine thn (hb pins s1 σ H1 _ I1 q1) fun u s2 zq=>?_;obtain⟨y,H2,I2,r2,q2⟩:=zq;exact hf v u s2 x y H2 I2 r1 r2 q2
theorem Zb8 {op:Operator} {r:R2} (ho:OpR X (binaryOp op) r) (ha:PE X a ta) (hb:PE X b tb):PE X (.BinOp a op b pos) (tOp r ta tb):=by with_unfolding_all
 intro pins s σ H Q I h;exact wpAny_BinOp (binT ha hb I h fun v u s2 x y H2 I2 rx ry q=>ho pins s2 σ H2 x y v u Q I2 rx ry q)
theorem Wd9 {op:UnaryOp} {r:V→Hp→VK→Prop} (ho:UnR X (unaryOp op) r) (ha:PE X a ta):PE X (.UnaryOp op a pos) (tUn r ta):=by with_unfolding_all
 intro pins s σ H Q I h;exact UnaryOp_ (thn (ha pins s σ H _ I h) fun v s1 ⟨x,H1,I1,r1,q1⟩=>ho pins s1 σ H1 x v Q I1 r1 q1)
theorem opI {f:Value→Value→Sem Value} {C:Int→Int→Prop} {g:Int→Int→Int}
  (rule:∀ (i j:Int) (t u:Tok) (s:Shared) (Q:Value→Shared→Prop) (E:Value→Shared→Prop),C i j→Q (.int (g i j) s.toks) { s with toks:=s.toks+1 }→wpAny (model X.prog X.w) X.A (f (.int i t) (.int j u)) Q E s) :
  OpR X f (rI C fun i j=>.int (g i j)):=by
 intro pins s σ H x y v u Q I rx ry h;obtain⟨i,j,rfl,rfl,hc,q⟩:=h;obtain⟨t,rfl⟩:=rx;obtain⟨t',rfl⟩:=ry;exact rule i j t t' s _ _ hc ⟨.int (g i j),H,I.tok _,⟨_,rfl⟩,q⟩
theorem opI0 {f:Value→Value→Sem Value} {g:Int→Int→Int}
  (rule:∀ (i j:Int) (t u:Tok) (s:Shared) (Q:Value→Shared→Prop) (E:Value→Shared→Prop),Q (.int (g i j) s.toks) { s with toks:=s.toks+1 }→wpAny (model X.prog X.w) X.A (f (.int i t) (.int j u)) Q E s) :
  OpR X f (rI0 fun i j=>.int (g i j)):=by
 intro pins s σ H x y v u Q I rx ry h;obtain⟨i,j,rfl,rfl,q⟩:=h;obtain⟨t,rfl⟩:=rx;obtain⟨t',rfl⟩:=ry;exact rule i j t t' s _ _ ⟨.int (g i j),H,I.tok _,⟨_,rfl⟩,q⟩
theorem opB0 {f:Value→Value→Sem Value} {g:Int→Int→Bool}
  (rule:∀ (i j:Int) (t u:Tok) (s:Shared) (Q:Value→Shared→Prop) (E:Value→Shared→Prop),Q (.bool (g i j)) s→wpAny (model X.prog X.w) X.A (f (.int i t) (.int j u)) Q E s) :
  OpR X f (rI0 fun i j=>.bl (g i j)):=by
 intro pins s σ H x y v u Q I rx ry h;obtain⟨i,j,rfl,rfl,q⟩:=h;obtain⟨t,rfl⟩:=rx;obtain⟨t',rfl⟩:=ry;exact rule i j t t' s _ _ ⟨.bl (g i j),H,I,rfl,q⟩
def CDiv (i j:Int):Prop:=0 < j∧j < 1073741824
def CMul (i j:Int):Prop:=(-(2 ^ 64) < i∧i < 2 ^ 64)∨(-(2 ^ 64) < j∧j < 2 ^ 64)
theorem CMul.ok {i j:Int} (h:CMul i j):IntMulOk i j:=by
 rcases h with ⟨h1,h2⟩ | ⟨h1,h2⟩
 ·exact .of_left (intBits_le_64 h1 h2)
 ·exact .of_right (intBits_le_64 h1 h2)
theorem Wf0:OpR X (binaryOp .Add) (rI0 fun i j=>.int (i+j)):=opI0 fun _ _ _ _ _ _ _ q=>add_int q
theorem We6:OpR X (binaryOp .Sub) (rI0 fun i j=>.int (i - j)):=opI0 fun _ _ _ _ _ _ _ q=>sub_int q
theorem We7:OpR X (binaryOp .Mult) (rI CMul fun i j=>.int (i*j)):=opI fun _ _ _ _ _ _ _ hc q=>mul_int q hc.ok
theorem Xx2:OpR X (binaryOp .FloorDiv) (rI CDiv fun i j=>.int (i / j)):=opI fun i j _ _ _ _ _ hc q=>by
 have h1:(0:Int) < j:=hc.1;have h2:j < 1073741824:=hc.2;exact floordiv_int (by walk_at "o") (by rw[Int.fdiv_eq_ediv_of_nonneg i (by walk_at "o")];exact q) (.inl (PyProof.noPylong_small (by walk_at "o")))
theorem We8:OpR X (binaryOp .Mod) (rI (fun _ j=>0 < j) fun i j=>.int (i % j)):=opI fun i j _ _ _ _ _ hc q=>by
 have h1:(0:Int) < j:=hc;exact mod_int' (by walk_at "o") (by rw[Int.fmod_eq_emod_of_nonneg i (by walk_at "o")];exact q)
theorem unI {f:Value→Sem Value} {g:Int→Int}
  (rule:∀ (i:Int) (t:Tok) (s:Shared) (Q:Value→Shared→Prop) (E:Value→Shared→Prop),Q (.int (g i) s.toks) { s with toks:=s.toks+1 }→wpAny (model X.prog X.w) X.A (f (.int i t)) Q E s) :
  UnR X f (rU fun i=>.int (g i)):=by
 intro pins s σ H x v Q I rx h;obtain⟨i,rfl,q⟩:=h;obtain⟨t,rfl⟩:=rx;exact rule i t s _ _ ⟨.int (g i),H,I.tok _,⟨_,rfl⟩,q⟩
theorem Xr5:UnR X (unaryOp .USub) (rU fun i=>.int (-i)):=unI fun _ _ _ _ _ q=>neg_int q
end
noncomputable def scal:V→V→Bool
 | .non,.non=>true | .non,.int _=>true | .int _,.non=>true | .non,.bl _=>true | .bl _,.non=>true | .non,.str _=>true | .str _,.non=>true
 | .int _,.int _=>true | .bl _,.bl _=>true | .str _,.str _=>true | .byt _,.byt _=>true
 | .int _,.str _=>true | .str _,.int _=>true | .bl _,.str _=>true | .str _,.bl _=>true
 | _,_=>false
def rEq:R2:=fun x y H Q=>scal x y=true∧Q (.bl (decide (x=y))) H
def rNe:R2:=fun x y H Q=>scal x y=true∧Q (.bl (!decide (x=y))) H
theorem Xk3 {i j:Int}:decide (V.int i=V.int j)=(i == j):=by
 rw[Bool.eq_iff_iff];simp
theorem Xt7 {i j:Bool}:decide (V.bl i=V.bl j)=(i == j):=by
 rw[Bool.eq_iff_iff];simp
theorem Xk2 {i j:Str}:decide (V.str i=V.str j)=(i == j):=by
 rw[Bool.eq_iff_iff];simp
theorem Xk4 {i j:Array UInt8}:decide (V.byt i=V.byt j)=(i.toList == j.toList):=by
 rw[Bool.eq_iff_iff];cases i;cases j;simp
section
variable {X:Cx} {a b c:Expr} {ta tb tc:TE} {pos:Pos}
theorem Zd9 {pins:List (Addr×Obj)} {σ:St} {H:Hp} {s:Shared} {Q:VK} {k k':Bool} (I:Inv X pins σ H s) (q:Q (.bl k) H) (e:k=k'):EP X pins σ Q (.bool k') s:=by
 subst e;exact⟨.bl k,H,I,rfl,q⟩
theorem Zf2:OpR X (compareOp .Eq) rEq:=by
 intro pins s σ H x y v u Q I rx ry h;obtain⟨hs,q⟩:=h
 cases x with
 | non =>
  cases rx
  cases y with
  | non=>cases ry;exact PySem.EqNone.eq_none_none (Zd9 I q (by simp))
  | bl j=>cases ry;exact PySem.EqNone.eq_none_bool (Zd9 I q (by simp))
  | int j=>obtain⟨t',rfl⟩:=ry;exact PySem.EqNone.eq_none_int (Zd9 I q (by simp))
  | str j=>obtain⟨t',rfl⟩:=ry;exact PySem.EqNone.eq_none_str (Zd9 I q (by simp))
  | _=>exact absurd (show false=true from hs) Bool.false_ne_true
 | bl i =>
  cases rx
  cases y with
  | non=>cases ry;exact PySem.EqNone.eq_bool_none (Zd9 I q (by simp))
  | bl j=>cases ry;exact eq_bool (Zd9 I q Xt7)
  | str j=>obtain⟨t',rfl⟩:=ry;exact PySem.EqMixed.eq_bool_str (Zd9 I q (by simp))
  | _=>exact absurd (show false=true from hs) Bool.false_ne_true
 | int i =>
  obtain⟨t,rfl⟩:=rx
  cases y with
  | non=>cases ry;exact PySem.EqNone.eq_int_none (Zd9 I q (by simp))
  | int j=>obtain⟨t',rfl⟩:=ry;exact eq_int (Zd9 I q Xk3)
  | str j=>obtain⟨t',rfl⟩:=ry;exact PySem.EqMixed.eq_int_str (Zd9 I q (by simp))
  | _=>exact absurd (show false=true from hs) Bool.false_ne_true
 | str i =>
  obtain⟨t,rfl⟩:=rx
  cases y with
  | non=>cases ry;exact PySem.EqNone.eq_str_none (Zd9 I q (by simp))
  | bl j=>cases ry;exact PySem.EqMixed.eq_str_bool (Zd9 I q (by simp))
  | int j=>obtain⟨t',rfl⟩:=ry;exact PySem.EqMixed.eq_str_int (Zd9 I q (by simp))
  | str j=>obtain⟨t',rfl⟩:=ry;exact eq_str (Zd9 I q Xk2)
  | _=>exact absurd (show false=true from hs) Bool.false_ne_true
 | byt i =>
  obtain⟨t,rfl⟩:=rx
  cases y with
  | byt j=>obtain⟨t',rfl⟩:=ry;exact W.eq_bytes (Zd9 I q Xk4)
  | _=>exact absurd (show false=true from hs) Bool.false_ne_true
 | _=>cases y<;>exact absurd (show false=true from hs) Bool.false_ne_true
theorem Xf5:OpR X (compareOp .NotEq) rNe:=by
 intro pins s σ H x y v u Q I rx ry h;obtain⟨hs,q⟩:=h
 cases x with
 | non =>
  cases rx
  cases y with
  | non=>cases ry;exact PySem.EqNone.ne_none_none (Zd9 I q (by simp))
  | bl j=>cases ry;exact PySem.EqNone.ne_none_bool (Zd9 I q (by simp))
  | int j=>obtain⟨t',rfl⟩:=ry;exact PySem.EqNone.ne_none_int (Zd9 I q (by simp))
  | str j=>obtain⟨t',rfl⟩:=ry;exact PySem.EqNone.ne_none_str (Zd9 I q (by simp))
  | _=>exact absurd (show false=true from hs) Bool.false_ne_true
 | bl i =>
  cases rx
  cases y with
  | non=>cases ry;exact PySem.EqNone.ne_bool_none (Zd9 I q (by simp))
  | bl j=>cases ry;exact ne_bool (Zd9 I q (congrArg not Xt7))
  | str j=>obtain⟨t',rfl⟩:=ry;exact PySem.EqMixed.ne_bool_str (Zd9 I q (by simp))
  | _=>exact absurd (show false=true from hs) Bool.false_ne_true
 | int i =>
  obtain⟨t,rfl⟩:=rx
  cases y with
  | non=>cases ry;exact PySem.EqNone.ne_int_none (Zd9 I q (by simp))
  | int j=>obtain⟨t',rfl⟩:=ry;exact ne_int (Zd9 I q (congrArg not Xk3))
  | str j=>obtain⟨t',rfl⟩:=ry;exact PySem.EqMixed.ne_int_str (Zd9 I q (by simp))
  | _=>exact absurd (show false=true from hs) Bool.false_ne_true
 | str i =>
  obtain⟨t,rfl⟩:=rx
  cases y with
  | non=>cases ry;exact PySem.EqNone.ne_str_none (Zd9 I q (by simp))
  | bl j=>cases ry;exact PySem.EqMixed.ne_str_bool (Zd9 I q (by simp))
  | int j=>obtain⟨t',rfl⟩:=ry;exact PySem.EqMixed.ne_str_int (Zd9 I q (by simp))
  | str j=>obtain⟨t',rfl⟩:=ry;exact ne_str (Zd9 I q (congrArg not Xk2))
  | _=>exact absurd (show false=true from hs) Bool.false_ne_true
 | byt i =>
  obtain⟨t,rfl⟩:=rx
  cases y with
  | byt j=>obtain⟨t',rfl⟩:=ry;exact W.ne_bytes (Zd9 I q (congrArg not Xk4))
  | _=>exact absurd (show false=true from hs) Bool.false_ne_true
 | _=>cases y<;>exact absurd (show false=true from hs) Bool.false_ne_true
theorem Wl8:OpR X (compareOp .Lt) (rI0 fun i j=>.bl (decide (i < j))):=opB0 fun _ _ _ _ _ _ _ q=>lt_int q
theorem Wl9:OpR X (compareOp .LtE) (rI0 fun i j=>.bl (decide (i≤j))):=opB0 fun _ _ _ _ _ _ _ q=>le_int q
theorem Wm0:OpR X (compareOp .Gt) (rI0 fun i j=>.bl (decide (j < i))):=opB0 fun _ _ _ _ _ _ _ q=>gt_int q
theorem Wm1:OpR X (compareOp .GtE) (rI0 fun i j=>.bl (decide (j≤i))):=opB0 fun _ _ _ _ _ _ _ q=>ge_int q
theorem Zy5 (b:Expr) {op:CmpOp} (h:op≠.In:=by decide) (h2:op≠.NotIn:=by decide):behindInMarks op b=false:=by
 have e1:(op == CmpOp.In)=false:=by cases op<;>first | rfl | exact absurd rfl h
 have e2:(op == CmpOp.NotIn)=false:=by cases op<;>first | rfl | exact absurd rfl h2
 cases b<;>simp[behindInMarks,e1,e2]
theorem Zs8 {op:CmpOp} {r:R2} (ho:OpR X (compareOp op) r) (ha:PE X a ta) (hb:PE X b tb) (hm:behindInMarks op b=false):PE X (.Compare a [op] [b] pos) (tOp r ta tb):=by with_unfolding_all
 intro pins s σ H Q I h;exact wpAny_Compare1 (binT ha hb I h fun v u s2 x y H2 I2 rx ry q=>ho pins s2 σ H2 x y v u Q I2 rx ry q) hm
def Ya5 (t:TE):TT:=fun σ H Q=>t σ H fun x H'=>∃ k,x=.bl k∧Q k H'
theorem Yo8 {op:CmpOp} {r:R2} (ho:OpR X (compareOp op) r) (ha:PE X a ta) (hb:PE X b tb) (hm:behindInMarks op b=false):PT X (.Compare a [op] [b] pos) (Ya5 (tOp r ta tb)):=by with_unfolding_all
 intro pins s σ H Q I h
 refine wpAny_isTrue_Compare1 (thn (ha pins s σ H _ I h) fun v s1 ⟨x,H1,I1,r1,q1⟩=>thn (hb pins s1 σ H1 _ I1 q1) fun u s2 ⟨y,H2,I2,r2,q2⟩ =>
  thn (ho pins s2 σ H2 x y v u _ I2 r1 r2 q2) fun c s3 ⟨z,H3,I3,r3,k,e,q3⟩=>?_) hm
 subst e;cases r3;exact wpAny_truthy_bool ⟨H3,I3,q3⟩
def Zw3 (r r':R2) (ta tb tc:TE):TE:=fun σ H Q=>ta σ H fun x H1=>tb σ H1 fun y H2=>r x y H2 fun z H3=>∃ k,z=.bl k ∧
 (if k=true then tc σ H3 fun w' H4=>r' y w' H4 Q else Q (.bl false) H3)
theorem Xo6 {op op':CmpOp} {r r':R2} (ho:OpR X (compareOp op) r) (ho':OpR X (compareOp op') r') (ha:PE X a ta) (hb:PE X b tb) (hc:PE X c tc)
  (hm:lastMarks [op,op'] [b,c]=false:=by with_unfolding_all rfl):PT X (.Compare a [op,op'] [b,c] pos) (Ya5 (Zw3 r r' ta tb tc)):=by with_unfolding_all
 intro pins s σ H Q I h
 refine isTrue_chain (thn (ha pins s σ H _ I h) fun v s1 ⟨x,H1,I1,r1,q1⟩=>test_link (thn (hb pins s1 σ H1 _ I1 q1) fun u s2 ⟨y,H2,I2,r2,q2⟩ =>
  thn (ho pins s2 σ H2 x y v u _ I2 r1 r2 q2) fun d s3 ⟨z,H3,I3,r3,k,e,q3⟩=>?_)) hm
 subst e;cases r3;refine wpAny_truthy_bool ?_
 cases k with
 | false =>
  obtain⟨k',e',q'⟩:=q3;cases e';exact ite_ff ⟨H3,I3,q'⟩
 | true =>
  refine ite_tt (test_last (thn (hc pins s3 σ H3 _ I3 q3) fun w' s4 ⟨z',H4,I4,r4,q4⟩=>thn (ho' pins s4 σ H4 y z' u w' _ I4 r2 r4 q4) fun d' s5 zq=>?_));obtain⟨z2,H5,I5,r5,k2,e2,q5⟩:=zq;subst e2;cases r5;exact wpAny_truthy_bool ⟨H5,I5,q5⟩
def TruV (K:W.Frag) (x:V) (H:Hp) (k:Bool):Prop :=
 match x with
 | .non=>k=false
 | .bl b=>k=b
 | .int i=>k=(i != 0)
 | .str y=>y.length≤sizeLine∧k=((y.length:Int) != 0)
 | .byt y=>y.size≤sizeLine∧k=((y.size:Int) != 0)
 | .ref p=>(∃ xs,SqL K H p xs∧k=!xs.isEmpty)∨(∃ xs,SqT K H p xs∧k=!xs.isEmpty)∨∃ kvs,H p=some (.dK kvs)∧k=!kvs.isEmpty
 | _=>False
theorem Yz1 {κ:Type} {kvs:List (κ×V)} {vs:List (κ×Value)} (r:KV kvs vs):(!vs.isEmpty)=!kvs.isEmpty:=by
 cases r<;>rfl
theorem Yc2 {xs:List V} {its:List Value} (r:Vals xs its):(!its.toArray.isEmpty)=!xs.isEmpty:=by
 cases r<;>simp
theorem Zu3:(sizeLine:Nat) < 2 ^ 63:=by rw[sizeLine_eq];decide
theorem Wb2:TruR X (fun x H Q=>∃ k,TruV X.K x H k∧Q k H):=by
 intro pins s σ H x v Q I rx h;obtain⟨k,e,q⟩:=h;have hl:=Zu3;have hs:sizeLine=16777216:=sizeLine_eq
 cases x with
 | non =>
  cases rx;have e':k=false:=e;subst e';exact truthy_none ⟨H,I,q⟩
 | bl b =>
  cases rx;have e':k=b:=e;subst e';exact wpAny_truthy_bool ⟨H,I,q⟩
 | int i =>
  obtain⟨t,rfl⟩:=rx;have e':k=(i != 0):=e;subst e';exact PySem.P.truthy_int ⟨H,I,q⟩
 | str y =>
  obtain⟨t,rfl⟩:=rx;obtain⟨hy,e'⟩:y.length≤sizeLine∧k=((y.length:Int) != 0):=e;subst e';exact PySem.P.truthy_str (by walk_at "o") ⟨H,I.tok _,q⟩
 | byt y =>
  obtain⟨t,rfl⟩:=rx;obtain⟨hy,e'⟩:y.size≤sizeLine∧k=((y.size:Int) != 0):=e;subst e';exact W.truthy_bytes (by walk_at "o") ⟨H,I.tok _,q⟩
 | ref p =>
  cases rx;have e':(∃ xs,SqL X.K H p xs∧k=!xs.isEmpty)∨(∃ xs,SqT X.K H p xs∧k=!xs.isEmpty)∨∃ kvs,H p=some (.dK kvs)∧k=!kvs.isEmpty:=e;rcases e' with ⟨xs,hx,e'⟩ | ⟨xs,hx,e'⟩ | ⟨kvs,hx,e'⟩
  ·subst e'
   obtain⟨its,r,pl,hz⟩:=I.list hx;have hlen:=r.length;exact wpAny_truthy_list pl.isList (by simp only[List.size_toArray];walk_at "o") ⟨H,I.tok _,by rw[Yc2 r];exact q⟩
  ·subst e'
   obtain⟨its,r,pl,hz⟩:=I.tuple hx;have hlen:=r.length;exact truthy_tuple pl (by simp only[List.size_toArray];walk_at "o") ⟨H,I.tok _,by rw[Yc2 r];exact q⟩
  ·subst e'
   obtain⟨hz,hS,vs,r,m⟩:kvs.length≤sizeLine∧(p == sysModules)=false∧∃ vs,KV kvs vs∧s.heap.DictOf (Ze4 X.prog X.w) p vs:=I.hok p _ hx;have hlen:kvs.length=vs.length:=Paired.length r;exact wpAny_truthy_dict hS m (by walk_at "o") ⟨H,I.tok _,by rw[Yz1 r];exact q⟩
 | _=>exact (show False from e).elim
theorem Xo5 (ha:PE X a ta) (he:∀ whole,isTrue a X.env whole=(do let v ← whole;standAt a.pos;holding [v] (truthy v))) :
  PT X a (fun σ H Q=>ta σ H fun x H'=>∃ k,TruV X.K x H' k∧Q k H'):=by with_unfolding_all
 intro pins s σ H Q I h;exact isTrue_plain (thn (ha pins s σ H _ I h) fun v s1 ⟨x,H1,I1,r1,q1⟩=>Wb2 pins s1 σ H1 x v Q I1 r1 q1) (he _)
theorem Yb9:OpR X (binaryOp .Add) (fun x y H Q=>∃ i j,x=.str i∧y=.str j∧i.length+j.length≤sizeLine∧Q (.str (i++j)) H):=by
 intro pins s σ H x y v u Q I rx ry h;obtain⟨i,j,rfl,rfl,hz,q⟩:=h;obtain⟨t,rfl⟩:=rx;obtain⟨t',rfl⟩:=ry;exact add_str (fun t' tk=>⟨.str (i++j),H,I.tok _,⟨_,rfl⟩,q⟩) hz
theorem Ym7 {x:V} {us:List Value} (r:Vals [x] us):∃ u,us=[u]∧RelV x u:=by
 cases r with
 | cons r1 r2=>cases r2;exact⟨_,rfl,r1⟩
theorem Xu9 {x y:V} {us:List Value} (r:Vals [x,y] us):∃ u w',us=[u,w']∧RelV x u∧RelV y w':=by
 cases r with
 | cons r1 r2 =>
  cases r2 with
  | cons r3 r4=>cases r4;exact⟨_,_,rfl,r1,r3⟩
theorem Ya1 (hc:X.calm=true):Yh1 X (.builtin "max") (fun xs H Q=>∃ i j,xs=[.int i,.int j]∧Q (.int (if j > i then j else i)) H):=by
 intro pins s σ H xs us Q I r h;obtain⟨i,j,rfl,q⟩:=h;obtain⟨u,w',rfl,⟨t,rfl⟩,⟨t',rfl⟩⟩:=Xu9 r;refine max_two_ints (I.ok.hd hc) fun h' tk k=>⟨_,H,I.kept k,?_,q⟩
 by_cases hj:j > i
 ·rw[if_pos hj,if_pos hj];exact⟨_,rfl⟩
 ·rw[if_neg hj,if_neg hj];exact⟨_,rfl⟩
theorem Yl7:Yh1 X (.type "int") (fun xs H Q=>(∃ i,xs=[.int i]∧Q (.int i) H)∨∃ k,xs=[.bl k]∧Q (.int (if k then 1 else 0)) H):=by
 intro pins s σ H xs us Q I r h;rcases h with ⟨i,rfl,q⟩ | ⟨k,rfl,q⟩
 ·obtain⟨u,rfl,t,rfl⟩:=Ym7 r
  exact call_int_int ⟨.int i,H,I,⟨_,rfl⟩,q⟩
 ·obtain⟨u,rfl,r1⟩:=Ym7 r
  cases r1;exact call_int_bool ⟨.int (if k then 1 else 0),H,I.tok _,⟨_,rfl⟩,q⟩
end
structure ObjM (h:Heap) (x dx C:Addr) (mA:Str→Option Value):Prop where
 obj:h.get? x=some (W.instObj C dx)
 ns:h.Ns1 dx mA
 ne:dx≠x
theorem Xg8 {h:Heap} {dx:Addr} {mA:Str→Option Value} (n:h.Ns1 dx mA):∃ od,h.get? dx=some od∧∀ name,W.lookIn name od=some (mA name):=by
 obtain⟨o,es,ep,ho,hd,hk,_,hm⟩:=n;refine⟨o,ho,fun name=>?_⟩;have e:=hm name;unfold nsFind findBy at e;rw[← Array.find?_toList] at e;unfold W.lookIn;rw[hd];dsimp only
 split
 ·rename_i y q
  rw[q] at e;exact congrArg some e
 ·rename_i q
  rw[q] at e
  have a:es.toList.any (·.refKey)=false:=by
   rw[List.any_eq_false];intro y hy;obtain⟨z,t,hkey⟩:=hk y (Array.mem_toList_iff.mp hy);simp[DictEntry.refKey,hkey]
  have a':¬ es.toList.any (·.refKey)=true:=by rw[a];exact Bool.false_ne_true
  rw[if_neg a'];exact congrArg some e
theorem ObjM.look {h:Heap} {x dx C:Addr} {mA:Str→Option Value} (I:ObjM h x dx C mA):∃ od,W.InstAt h x (W.instObj C dx) C (some od)∧∀ name,W.lookIn name od=some (mA name) :=
 let ⟨od,ho,hl⟩:=Xg8 I.ns
 ⟨od,⟨I.obj,rfl,rfl,ho⟩,hl⟩
theorem RelO.some_of {v:V} {o:Option Value} (r:RelO (some v) o):∃ u,o=some u∧RelV v u:=by
 cases o with
 | none=>exact (show False from r).elim
 | some u=>exact⟨u,rfl,r⟩
section
variable {P:Program} {w:World} {H H':Hp} {h h':Heap} {a C dx:Addr} {fs fs':List (Str×V)}
theorem Xz1 (hok:HOk P w H h) (e:H a=some (.ins C dx fs)):∃ mA,ObjM h a dx C mA∧(∀ f,RelO (fs.lookup f) (mA f))∧PySem.Within mA (fs.map (·.1))∧fs.length≤1000∧H dx=some (.own a):=by
 obtain⟨d,z,ne,ob,mA,n,r,q⟩:=(show ObjOk P w H h a (.ins C dx fs) from hok a _ e);exact⟨mA,⟨ob,n,ne⟩,r,q,z,d⟩
end
structure Cls (K:W.Frag) (C:Addr):Prop where
 pg:W.plainGet K C Str.empty=true
 hd:W.hasDictIn K C=true
 po:W.plainOver K C=true
 sa:W.findIn K (.ref C) "__setattr__"=some (some (.builtin "object.__setattr__"))
theorem Cls.get {K:W.Frag} {C:Addr} (c:Cls K C) (f:Str):W.plainGet K C f=true:=c.pg
section
variable {X:Cx} {pins:List (Addr×Obj)} {σ:St} {H:Hp} {s:Shared} {A:Around} {E:Value→Shared→Prop} {Q:Value→Shared→Prop} {c:Value} {b:Bool}
inductive TyOf (K:W.Frag) (H:Hp):V→Value→Prop where
 | non:TyOf K H .non (.type "NoneType")
 | bl (x:Bool):TyOf K H (.bl x) (.type "bool")
 | int (i:Int):TyOf K H (.int i) (.type "int")
 | str (x:Str):TyOf K H (.str x) (.type "str")
 | flt (x:UInt64):TyOf K H (.flt x) (.type "float")
 | lst {a:Addr} {xs:List V} (e:H a=some (.lst xs)):TyOf K H (.ref a) (.type "list")
 | frz {a:Addr} {o:Obj} {xs:List V} (e:H a=some (.frz o (.lst xs))):TyOf K H (.ref a) (.type "list")
 | tup {a:Addr} {xs:List V} (e:H a=some (.tup xs)):TyOf K H (.ref a) (.type "tuple")
 | dK {a:Addr} {kvs:List (Key×V)} (e:H a=some (.dK kvs)):TyOf K H (.ref a) (.type "dict")
 | dT {a:Addr} {kvs:List (List Key×V)} (e:H a=some (.dT kvs)):TyOf K H (.ref a) (.type "dict")
 | ins {a C dx:Addr} {fs:List (Str×V)} (e:H a=some (.ins C dx fs)) (cl:Cls K C) (ha:W.findIn K (.ref C) "__class__"=some (some (.builtin "object.__class__")))
   (hn:W.specialIn K (.builtin "object.__class__") "__get__"=some (some (.builtin "getset_descriptor.__get__"))) (htk:W.takesIn K (.builtin "object.__class__")=some true)
   (hm:W.mroIn K C (.type "object")=some true):TyOf K H (.ref a) (.ref C)
theorem Xh9 {x:V} {u t:Value} (I:Inv X pins σ H s) (rx:RelV x u) (ty:TyOf X.K H x t) (e:W.kitOne X.K t c=some b) (h:∀ tk,Q (.bool b) { s with toks:=tk }) :
  wpAny (model X.prog X.w) A (call (.builtin "isinstance") [u,c]) Q E s:=by
 cases ty with
 | non=>cases (show u=Value.none from rx);exact W.kia_one W.kitx_none I.kIn True.intro e (fun z=>nomatch z) h
 | bl y=>cases (show u=Value.bool y from rx);exact W.kia_one W.kitx_bool I.kIn True.intro e (fun z=>nomatch z) h
 | int i=>obtain⟨t,q⟩:=(show ∃ t,u=Value.int i t from rx);cases q;exact W.kia_one W.kitx_int I.kIn True.intro e (fun z=>nomatch z) h
 | str y=>obtain⟨t,q⟩:=(show ∃ t,u=Value.str y t from rx);cases q;exact W.kia_one W.kitx_str I.kIn True.intro e (fun z=>nomatch z) h
 | flt y=>obtain⟨t,q⟩:=(show ∃ t,u=Value.float y t from rx);cases q;exact W.kia_one W.kitx_float I.kIn True.intro e (fun z=>nomatch z) h
 | @lst a xs ea =>
  cases (show u=Value.ref a from rx);obtain⟨_,_,n,_,h1⟩:=(show ObjOk X.prog X.w H s.heap a (.lst xs) from I.hok a _ ea);exact W.kia_one W.kitx_list I.kIn ⟨_,h1,rfl⟩ e (fun z=>nomatch z) h
 | @frz a ob xs ea =>
  cases (show u=Value.ref a from rx);obtain⟨_,_,_,n,_,h1⟩:=(show ObjOk X.prog X.w H s.heap a (.frz ob (.lst xs)) from I.hok a _ ea);exact W.kia_one W.kitx_list I.kIn ⟨_,h1,rfl⟩ e (fun z=>nomatch z) h
 | @tup a xs ea =>
  cases (show u=Value.ref a from rx);obtain⟨_,_,_,p⟩:=(show ObjOk X.prog X.w H s.heap a (.tup xs) from I.hok a _ ea);obtain⟨o,h1,h2,_⟩:=p;exact W.kia_one W.kitx_tuple I.kIn ⟨o,h1,h2⟩ e (fun z=>nomatch z) h
 | @dK a kvs ea =>
  cases (show u=Value.ref a from rx);obtain⟨_,_,vs,_,p⟩:=(show ObjOk X.prog X.w H s.heap a (.dK kvs) from I.hok a _ ea);obtain⟨o,es,ep,h1,h2,_⟩:=p;exact W.kia_one W.kitx_dict I.kIn ⟨o,h1,h2.1⟩ e (fun z=>nomatch z) h
 | @dT a kvs ea =>
  cases (show u=Value.ref a from rx);obtain⟨_,_,xs,_,o,es,ep,h1,h2,_⟩:=(show ObjOk X.prog X.w H s.heap a (.dT kvs) from I.hok a _ ea);exact W.kia_one W.kitx_dict I.kIn ⟨o,h1,h2.1⟩ e (fun z=>nomatch z) h
 | @ins a C dx fs ea cl ha hn htk hm =>
  cases (show u=Value.ref a from rx);obtain⟨mA,O,_⟩:=Xz1 I.hok ea;obtain⟨od,J,_⟩:=O.look;exact W.kia_one (W.kitx_own (cl.get _) cl.hd ha hn htk hm) I.kIn J e (fun z=>nomatch z) h
end
structure Room (k:Nat) (A:Around):Prop where
 hd:A.handled=none
 dp:A.depth+3*k+5 < recursionLimit
 un:A.units+16*k+200 < cLine
theorem Room.mono {j k:Nat} {A:Around} (r:Room k A) (h:j≤k):Room j A:=⟨r.hd,by have:=r.dp;walk_at "o",by have:=r.un;walk_at "o"⟩
theorem Room.deeper {k:Nat} {A:Around} (r:Room (k+1) A) (env:Env):Room k (A.deeper env) :=
 ⟨r.hd,by have:=r.dp;show A.depth+1+3*k+5 < _;walk_at "o",by have:=r.un;show A.units+3+16*k+200 < _;walk_at "o"⟩
theorem Room.depth {k:Nat} {A:Around} (r:Room k A):A.depth < recursionLimit:=by have:=r.dp;walk_at "o"
theorem Room.units {k:Nat} {A:Around} (r:Room k A):A.units+64 < cLine:=by have:=r.un;walk_at "o"
def tNil:TA:=fun _ H Q=>Q [] H
def Yi1 (ta:TE) (tr:TA):TA:=fun σ H Q=>ta σ H fun x H1=>tr σ H1 fun xs H2=>Q (x :: xs) H2
section
variable {X:Cx} {e:Expr} {es:List Expr} {te:TE} {t:TA} {pos:Pos}
theorem Za1:PA X [] tNil:=by with_unfolding_all exact (fun _ _ _ _ H Q I h=>Calls.spliced_nil ⟨[],H,I,.nil,h⟩)
theorem Za0 (ha:PE X e te) (hr:PA X es t) (hs:starEach (e :: es) X.env=(false,eval e X.env) :: starEach es X.env:=by rfl):PA X (e :: es) (Yi1 te t):=by with_unfolding_all
 intro pos pins s σ H Q I h;rw[hs];show wpAny _ _ (spliced ((false,eval e X.env) :: backTo pos (starEach es X.env))) _ _ s;refine Calls.spliced_cons (thn (ha pins s σ H _ I h) fun u s1 zq=>?_);obtain⟨x,H1,I1,r1,q1⟩:=zq;exact thn (hr pos pins s1 σ H1 _ I1 q1) fun us s2 ⟨xs,H2,I2,r2,q2⟩=>⟨x :: xs,H2,I2,.cons r1 r2,q2⟩
def tTup (t:TA):TE:=fun σ H Q=>t σ H fun xs H1=>xs.length≤sizeLine∧∀ p,H1 p=none→Q (.ref p) (upd H1 p (.tup xs))
def tLst (t:TA):TE:=fun σ H Q=>t σ H fun xs H1=>xs.length≤sizeLine∧∀ p,H1 p=none→Q (.ref p) (upd H1 p (.lst xs))
theorem Zb1 {x1} (h:PA X es t):PE X (.Tuple es x1 pos) (tTup t):=by with_unfolding_all
 intro pins s σ H Q I hq;refine wpAny_Tuple_spliced (thn (h pos pins s σ H _ I hq) fun us s1 ⟨xs,H1,I1,r,z,q⟩=>⟨by rw[← r.length];exact z,?_⟩);have hf:H1 s1.heap.objs.size=none:=I1.hok.fresh (Nat.le_refl _);refine⟨.ref s1.heap.objs.size,upd H1 s1.heap.objs.size (.tup xs),I1.laid (t':=s1.toks) (fun b u e=>Heap.get?_push_of_some _ e) (Nat.le_refl _) ?_,rfl,q _ hf⟩;exact⟨z,us,r,⟨_,Heap.get?_push_size _ rfl,rfl,_,rfl⟩⟩
theorem Zf9 (h:PA X es t):PE X (.List es pos) (tLst t):=by with_unfolding_all
 intro pins s σ H Q I hq;refine wpAny_List_spliced (thn (h pos pins s σ H _ I hq) fun us s1 ⟨xs,H1,I1,r,z,q⟩=>⟨by rw[← r.length];exact z,?_⟩);have hf:H1 s1.heap.objs.size=none:=I1.hok.fresh (Nat.le_refl _);refine⟨.ref s1.heap.objs.size,upd H1 s1.heap.objs.size (.lst xs),I1.laid (t':=s1.toks) (fun b u e=>Heap.get?_push_of_some _ e) (Nat.le_refl _) ?_,rfl,q _ hf⟩;exact⟨z,us,0,r,Heap.get?_push_size _ rfl⟩
end
noncomputable abbrev Sp:=List V→Hp→VK→XK→Prop
noncomputable abbrev CXT:=List Env→Hp→Shared→XK→Value→Shared→Prop
structure Env0 (P:Program) (w:World) (K:W.Frag) (mg:Str→Option Value) (base:Heap) (A:Around) (outer:List Env) (s:Shared) (H:Hp):Prop where
 frames:A.frames=some outer
 mod:Mod K mg base
 bs:∀ b o,base.get? b=some o→s.heap.get? b=some o∧H b=none
 bsz:base.objs.size≤s.heap.objs.size
 funs:s.heap.FunFrames base outer
 frf:∀ b∈frs outer,H b=none
 hok:HOk P w H s.heap
 bare:AllBare s.gens
def CE (outer:List Env) (P:Program) (w:World) (H:Hp) (s:Shared) (Q:VK) (u:Value) (s':Shared):Prop :=
 ∃ v H',s'.os=s.os∧AllBare s'.gens∧Un (frs outer) [] H H' s.heap s'.heap∧HOk P w H' s'.heap∧RelV v u∧Q v H'
def CR (CX:CXT) (outer:List Env) (P:Program) (w:World) (H:Hp) (s:Shared) (Q:VK) (E:XK) (r:Result) (s':Shared):Prop :=
 match r with
 | .ok (.ret u)=>CE outer P w H s Q u s'
 | .ok _=>False
 | .error e=>CX outer H s E e s'
structure FnOk (P:Program) (w:World) (K:W.Frag) (mg:Str→Option Value) (base:Heap) (CX:CXT) (k:Nat) (f:Addr) (fd:FuncData) (ps:List Str) (sp:Sp):Prop where
 len:∀ vs H Q E,sp vs H Q E→vs.length=ps.length
 run:∀ (A:Around) (outer:List Env) (s:Shared) (H:Hp) (args:Args) (us:List Value) (vs:List V) (Q:VK) (E:XK),Room k A→Env0 P w K mg base A outer s H→BindsTo s fd args (ps.zip us)→Vals vs us→sp vs H Q E →
  codeAny (model P w) A (.call (.ref f) args) (CR CX outer P w H s Q E) s
theorem FnOk.mono {P:Program} {w:World} {K:W.Frag} {mg:Str→Option Value} {base:Heap} {CX:CXT} {j k:Nat} {f:Addr} {fd:FuncData} {ps:List Str} {sp:Sp} (F:FnOk P w K mg base CX j f fd ps sp) (h:j≤k) :
  FnOk P w K mg base CX k f fd ps sp:=⟨F.len,fun A outer s H args us vs Q E hr=>F.run A outer s H args us vs Q E (hr.mono h)⟩
section
variable {X:Cx} {pins:List (Addr×Obj)} {σ:St} {H:Hp} {s s':Shared}
theorem Inv.env0 (I:Inv X pins σ H s):Env0 X.prog X.w X.K X.mg X.base X.A X.stack s H :=
 ⟨I.ok.frames,I.ok.mod,I.bs,Nat.le_trans I.ok.bsz I.sz,I.stack,I.stkFree,I.hok,I.bare⟩
theorem Inv.after {Q:VK} {u:Value} (I:Inv X pins σ H s) (h:CE X.stack X.prog X.w H s Q u s'):EP X pins σ Q u s':=by
 obtain⟨v,H',os,bare,un,hok,r,q⟩:=h;obtain⟨hh,g,d,t,os'⟩:=s';obtain rfl:os'=s.os:=os;exact⟨v,H',I.call (h':=hh) (g':=g) (d':=d) (t':=t) (ch:=[]) un hok bare (fun b z=>absurd z (by simp)),r,q⟩
end
def Ya6 (sp:Sp) (dvs:List V) (E:XK) (t:TA):TE:=fun σ H Q=>t σ H fun vs H1=>sp (vs++dvs) H1 Q E
def Binds (K:W.Frag) (fd:FuncData) (ps:List Str) (ds:List Value):Prop :=
 ∀ (s:Shared) (us:List Value),K.In s.heap→(us++ds).length=ps.length→BindsTo s fd ⟨us,[]⟩ (ps.zip (us++ds))
theorem Binds.all {K:W.Frag} {fd:FuncData} {ps:List Str} (h:∀ us:List Value,us.length=ps.length→bindArgs fd ⟨us,[]⟩=pure (ps.zip us)):Binds K fd ps []:=fun s us _ hl=>by
 rw[List.append_nil] at hl ⊢;exact .of_eq (h us hl)
def Yd1 (CX:CXT) (X:Cx) (E:XK):Prop:=∀ (pins:List (Addr×Obj)) (σ:St) (H:Hp) (s:Shared) (e:Value) (s':Shared),Inv X pins σ H s→CX X.stack H s E e s'→X.xe e s'
section
variable {X:Cx} {CX:CXT} {k:Nat} {f C:Addr} {fd:FuncData} {ps:List Str} {sp:Sp} {dvs:List V} {ds:List Value} {E:XK} {x m:Str} {p pos apos:Pos} {e o:Expr} {es:List Expr} {ta:TE} {t:TA}
theorem Xr8 {pins:List (Addr×Obj)} {σ:St} {H:Hp} {s:Shared} {Q:VK} {us:List Value} {vs:List V} (F:FnOk X.prog X.w X.K X.mg X.base CX k f fd ps sp) (hr:Room k X.A) (hb:Binds X.K fd ps ds) (hd:Vals dvs ds) (hx:Yd1 CX X E)
  (I:Inv X pins σ H s) (r:Vals vs us) (h:sp (vs++dvs) H Q E):wpAny (model X.prog X.w) X.A (call (.ref f) us) (EP X pins σ Q) X.xe s:=by
 have r2:Vals (vs++dvs) (us++ds):=r.append hd
 have hl:(us++ds).length=ps.length:=by rw[← r2.length];exact F.len _ _ _ _ h
 refine wpAny_call (codeAny_mono (F.run X.A X.stack s H ⟨us,[]⟩ (us++ds) (vs++dvs) Q E hr I.env0 (hb s us I.kIn hl) r2 h) fun r s' hq=>?_)
 cases r with
 | error e=>exact hx pins σ H s e s' I hq
 | ok fl =>
  cases fl with
  | ret u=>exact I.after hq
  | next=>exact False.elim hq
  | brk=>exact False.elim hq
  | cont=>exact False.elim hq
theorem Zo3 (F:FnOk X.prog X.w X.K X.mg X.base CX k f fd ps sp) (hr:Room k X.A) (hg:Gl X x) (hm:X.mg x=some (.ref f)) (hk:W.keepIn X.K (.ref f)=true) (hb:Binds X.K fd ps ds) (hd:Vals dvs ds) (hx:Yd1 CX X E)
  (ha:PA X (e :: es) t) (hdb:(x == ("__debug__":Str))=false:=by decide) (he:starEach (e :: es) X.env=(false,eval e X.env) :: starEach es X.env:=by rfl) (hpl:(backTo pos (starEach es X.env)).any (·.1)=false:=by rfl) :
  PE X (.Call (.Name x p) (e :: es) [] pos) (Ya6 sp dvs E t):=by with_unfolding_all
 intro pins s σ H Q I h;refine wpAny_Call_Name_kw (Zt3 I hg hm ?_ hdb);refine W.callWith_K (h₀:=X.base) I.ok.mod.kin hk (thn (ha pos pins s σ H _ I h) fun us s1 ⟨vs,H1,I1,r,q⟩=>⟨I1.kIn,?_⟩) he hpl;exact Xr8 F hr hb hd hx I1 r q
end
structure FnScope (N P:List Str) (sc:Scope):Prop where
 kind:sc.kind=.function
 co:sc.isCoroutine=false
 gen:sc.isGenerator=false
 nd:N.Nodup
 pre:N.take P.length=P
 par:∀ x∈P,sc.names.lookup x=some .local∨sc.names.lookup x=some .cell
 nofree:∀ y∈sc.names,y.2≠.free
theorem Yl8 {kindOf:Str→Option NameKind} {x:Str}:∀ {binds:List (Str×Value)} {m:Str→Option Value},(∀ v,(x,v) ∉ binds)→bindL kindOf binds m x=m x
 | [],_,_=>rfl
 | (n,v) :: r,m,h=>by
  unfold bindL;rw[Yl8 fun w hw=>h w (List.mem_cons_of_mem _ hw)]
  split
  ·have:x≠n:=by rintro rfl;exact h v List.mem_cons_self
   simp[this]
  ·rfl
theorem Ym0 {kindOf:Str→Option NameKind} {x:Str}:∀ {binds:List (Str×Value)} {m:Str→Option Value},(∀ v,(x,v) ∉ binds)→bindC kindOf binds m x=m x
 | [],_,_=>rfl
 | (n,v) :: r,m,h=>by
  unfold bindC;rw[Ym0 fun w hw=>h w (List.mem_cons_of_mem _ hw)]
  split
  ·rfl
  ·have:x≠n:=by rintro rfl;exact h v List.mem_cons_self
   simp[this]
theorem Yl9 {kindOf:Str→Option NameKind} {x:Str} {v:Value}:∀ {P:List Str} {vs:List Value} {i:Nat} {m:Str→Option Value},P.Nodup→P[i]?=some x→vs[i]?=some v→kindOf x=some .local →
  bindL kindOf (P.zip vs) m x=some v
 | [],_,_,_,_,h,_,_=>by simp at h
 | _ :: _,[],_,_,_,_,h,_=>by simp at h
 | p :: P,w :: vs,0,m,nd,h1,h2,hk=>by
  simp at h1 h2;subst h1;subst h2;show bindL kindOf ((p,w) :: P.zip vs) m p=_;unfold bindL;rw[Yl8 fun v hv=>(List.nodup_cons.mp nd).1 (List.of_mem_zip hv).1,if_pos hk];simp
 | p :: P,w :: vs,i+1,m,nd,h1,h2,hk=>by
  show bindL kindOf ((p,w) :: P.zip vs) m x=_;unfold bindL;exact Yl9 (i:=i) (List.nodup_cons.mp nd).2 (by simpa using h1) (by simpa using h2) hk
theorem Ym1 {kindOf:Str→Option NameKind} {x:Str} {v:Value}:∀ {P:List Str} {vs:List Value} {i:Nat} {m:Str→Option Value},P.Nodup→P[i]?=some x→vs[i]?=some v→kindOf x≠some .local →
  bindC kindOf (P.zip vs) m x=some v
 | [],_,_,_,_,h,_,_=>by simp at h
 | _ :: _,[],_,_,_,_,h,_=>by simp at h
 | p :: P,w :: vs,0,m,nd,h1,h2,hk=>by
  simp at h1 h2;subst h1;subst h2;show bindC kindOf ((p,w) :: P.zip vs) m p=_;unfold bindC;rw[Ym0 fun v hv=>(List.nodup_cons.mp nd).1 (List.of_mem_zip hv).1,if_neg hk];simp
 | p :: P,w :: vs,i+1,m,nd,h1,h2,hk=>by
  show bindC kindOf ((p,w) :: P.zip vs) m x=_;unfold bindC;exact Ym1 (i:=i) (List.nodup_cons.mp nd).2 (by simpa using h1) (by simpa using h2) hk
noncomputable def start (N:List Str) (vs:List V):St:=vs.map some++List.replicate (N.length - vs.length) none
noncomputable def cxOf (CX:CXT) (P:Program) (w:World) (K:W.Frag) (mg:Str→Option Value) (base:Heap) (N:List Str) (qual:Str) (scope:Scope) (f:Addr) (cd:Value) (A:Around) (outer:List Env) (s:Shared) (H:Hp) (E:XK):Cx where
 prog:=P
 w:=w
 K:=K
 mg:=mg
 base:=base
 A:=A.deeper (envOfC qual scope s.heap.objs.size f cd)
 N:=N
 s₀:=s
 H₀:=H
 env:=envOfC qual scope s.heap.objs.size f cd
 outer:=outer
 stack:=envOfC qual scope s.heap.objs.size f cd :: outer
 ex:=[]
 calm:=true
 fn:=fun _=>true
 pn:=[]
 xe:=fun e s'=>wpAny (model P w) (A.deeper (envOfC qual scope s.heap.objs.size f cd)) (leaving (envOfC qual scope s.heap.objs.size f cd) e) (fun _ s''=>CX outer H s E e s'') (fun e' s''=>CX outer H s E e' s'') s'
theorem Zl4 {sc:Scope} {n:Nat} {x:Str} (h:sc.names.lookup x=some .cell):∃ c,(cellsFrom n sc.names []).lookup x=some c:=by
 have q:=W.cellsFrom_some sc.names n [] (.inl h);exact Option.isSome_iff_exists.mp q
theorem Xi0 {CX:CXT} {P:Program} {w:World} {K:W.Frag} {mg:Str→Option Value} {base:Heap} {N ps:List Str} {qual:Str} {scope:Scope} {f:Addr} {cd:Value} {A:Around} {outer:List Env} {s s1:Shared} {H:Hp} {E:XK} {us:List Value} {vs:List V}
  (S:FnScope N ps scope) (hd:A.handled=none) (e0:Env0 P w K mg base A outer s H) (hl:vs.length=ps.length) (r:Vals vs us)
  (x:InCallC s s.heap.objs.size (bindL (envOfC qual scope s.heap.objs.size f cd).kindOf (ps.zip us) fun _=>none) (cellsFrom (s.heap.objs.size+1) scope.names []) (bindC (envOfC qual scope s.heap.objs.size f cd).kindOf (ps.zip us) fun _=>none) s1) :
  Inv (cxOf CX P w K mg base N qual scope f cd A outer s H E) [] (start N vs) H s1:=by
 have hpl:ps.length≤N.length:=by have:=congrArg List.length S.pre;rw[List.length_take] at this;walk_at "o"
 obtain⟨h1,tk,rfl,hk⟩:=x.done;have noA:∀ b:Addr,b ∉ (cxOf CX P w K mg base N qual scope f cd A outer s H E).ex:=fun b z=>absurd (show b∈([]:List Addr) from z) (by simp)
 refine⟨⟨e0.mod,S.kind,rfl,rfl,Nat.le_refl _,fun y z c h1 h2=>?_,fun y hy=>?_,fun y c _ h=>?_,fun _=>hd,Around.frames_deeper e0.frames,.inr ⟨rfl,rfl⟩,fun b z=>absurd z (noA b),e0.bs,e0.bsz,fun b _ _=>noA b,fun b z=>absurd z (noA b),e0.funs,e0.frf⟩,
  rfl,e0.bare,Un.kept hk,⟨_,x.toInCall.ns,fun i y v h1 h2 h3=>?_⟩,fun y c h=>⟨_,x.cell y c h⟩,e0.hok.fresh (Nat.le_refl _),fun y c h=>?_,fun p hp=>absurd (show p∈([]:List (Addr×Obj)) from hp) (by simp),e0.hok.kept hk,?_⟩
 ·exact name_of_addr x.apart (PySem.mem_of_lookup h1) (PySem.mem_of_lookup h2)
 ·have hy:scope.names.lookup y=some .cell∨scope.names.lookup y=some .free:=hy
  rcases hy with hy | hy
  ·exact Zl4 hy
  ·exact absurd rfl (S.nofree _ (PySem.mem_of_lookup hy))
 ·exact Nat.le_of_lt (x.above y c (PySem.mem_of_lookup h))
 ·have hi:i < vs.length:=by
   unfold start at h2
   by_cases hi:i < vs.length
   ·exact hi
   ·rw[List.getElem?_append_right (by simpa using hi)] at h2
    rw[List.getElem?_replicate] at h2
    split at h2<;>cases h2
  have ha:vs[i]?=some v:=by
   unfold start at h2;rw[List.getElem?_append_left (by simpa using hi),List.getElem?_map] at h2
   cases e:vs[i]? with
   | none=>rw[e] at h2;cases h2
   | some a=>rw[e] at h2;cases h2;rfl
  obtain⟨u,hu,rv⟩:=r.get ha
  have hp:ps[i]?=some y:=by
   rw[← S.pre,List.getElem?_take_of_lt (by walk_at "o")];exact h1
  have ndP:ps.Nodup:=by rw[← S.pre];exact S.nd.sublist (List.take_sublist _ _)
  refine⟨u,rv,?_⟩;rcases S.par y (List.mem_of_getElem? hp) with k | k
  ·exact .inl ⟨k,Yl9 ndP hp hu k⟩
  ·obtain⟨c,e⟩:=Zl4 (n:=s.heap.objs.size+1) k
   refine .inr ⟨.inl k,c,e,?_⟩;have q:=x.cell y c e;rw[Ym1 ndP hp hu (by show scope.names.lookup y≠_;rw[k];decide)] at q;exact q
 ·exact e0.hok.fresh (Nat.le_of_lt (x.above y c (PySem.mem_of_lookup h)))
 ·unfold start
  show _=N.length;rw[List.length_append,List.length_map,List.length_replicate];walk_at "o"
theorem fn_of {CX:CXT} {P:Program} {w:World} {K:W.Frag} {mg:Str→Option Value} {base:Heap} {k:Nat} {f:Addr} {name qual:Str} {params:Arguments} {body:List Stmt} {scope:Scope} {dV kV doc pm cdv ct oc:Value} {an od:Option Addr}
  {osl:Array (Option Value)} {N ps:List Str} {sp:Sp} (lk:K.lookup f=some ⟨oc,od,.func (W.fnOf name qual params body scope dV kV doc pm an cdv ct),osl⟩) (hcd:W.codeIn K cdv qual=true) (S:FnScope N ps scope)
  (len:∀ vs H Q E,sp vs H Q E→vs.length=ps.length)
  (hbody:∀ (A:Around) (outer:List Env) (s:Shared) (H:Hp) (vs:List V) (Q:VK) (E:XK),Room k (A.deeper (envOfC qual scope s.heap.objs.size f cdv))→sp vs H Q E →
   ∃ t,PSs (cxOf CX P w K mg base N qual scope f cdv A outer s H E) body t∧t { nx:=fun _ H'=>Q .non H',rt:=Q } (start N vs) H) :
  FnOk P w K mg base CX (k+1) f (W.fnOf name qual params body scope dV kV doc pm an cdv ct) ps sp:=by with_unfolding_all
 refine⟨len,fun A outer s H args us vs Q E hr e0 hb r hsp=>?_⟩;have hl:=len _ _ _ _ hsp;have KX:K.In s.heap:=e0.mod.kin.keeps fun b o e=>(e0.bs b o e).1;have lim:s.heap.NoLimit:=e0.mod.nolimit.keeps fun b o e=>(e0.bs b o e).1
 have hkind:∀ y∈ps.zip us,scope.names.lookup y.1=some .local∨(scope.names.lookup y.1=some .cell∧((cellsFrom (s.heap.objs.size+1) scope.names []).lookup y.1).isSome=true):=fun⟨n,v⟩ hy=>by
  rcases S.par n (List.of_mem_zip hy).1 with q | q
  ·exact .inl q
  ·exact .inr ⟨q,W.cellsFrom_some _ _ _ (.inl q)⟩
 refine codeAny_call_function hr.depth (KX _ _ lk) rfl S.co S.gen rfl (W.codeRec_of KX hcd) (hb _ _ _ _ ?_);refine wpAny_newFunctionEnv_cells S.kind hkind fun env he s1 x=>?_;subst he;refine⟨lim.keeps x.toInCall.keep,codeAny_func ?_⟩;obtain⟨t,ht,hq⟩:=hbody A outer s H vs Q E (hr.deeper _) hsp;have I:Inv (cxOf CX P w K mg base N qual scope f cdv A outer s H E) [] (start N vs) H s1:=Xi0 S hr.hd e0 hl r x;refine wpAny_mono (ht [] s1 (start N vs) H _ I hq) (fun fl s' hs=>?_) fun e s' hs=>hs
 have fin:∀ {σ':St} {H':Hp} {v:V} {u:Value},Inv (cxOf CX P w K mg base N qual scope f cdv A outer s H E) [] σ' H' s'→RelV v u→Q v H'→CE outer P w H s Q u s' :=
  fun {σ' H' v u} J rv q=>⟨v,H',J.os,J.bare,J.base,J.hok,rv,q⟩
 cases fl with
 | ret u =>
  obtain⟨v,σ',H',J,rv,q⟩:=hs;exact fin J rv q
 | next =>
  obtain⟨σ',H',J,q⟩:=hs;exact fin (v:=V.non) (u:=Value.none) J rfl q
 | brk =>
  obtain⟨_,_,_,q⟩:=hs;exact False.elim q
 | cont =>
  obtain⟨_,_,_,q⟩:=hs;exact False.elim q
section
variable {X:Cx} {x:Str} {p pos:Pos} {e:Expr} {es:List Expr} {t:TA} {id T:String} {r:List V→Hp→VK→Prop}
def tCB (r:List V→Hp→VK→Prop) (t:TA):TE:=fun σ H Q=>t σ H fun vs H1=>r vs H1 Q
theorem Zd2 (hc:Yh1 X (.builtin id) r) (hg:Gl X x) (hm:X.mg x=none) (hv:bootBuiltins x=some (.builtin id)) (ha:PA X (e :: es) t) (hn:x≠"__name__":=by decide) (hdb:(x == ("__debug__":Str))=false:=by decide)
  (he:starEach (e :: es) X.env=(false,eval e X.env) :: starEach es X.env:=by rfl) (hpl:(backTo pos (starEach es X.env)).any (·.1)=false:=by rfl):PE X (.Call (.Name x p) (e :: es) [] pos) (tCB r t):=by with_unfolding_all
 intro pins s σ H Q I h;refine wpAny_Call_Name_kw (Zn7 I hg hm hv ?_ hn hdb);exact PyProof.Rows.callWith_builtin1 (thn (ha pos pins s σ H _ I h) fun us s1 ⟨vs,H1,I1,r1,q1⟩=>hc pins s1 σ H1 vs us Q I1 r1 q1) he hpl
theorem Zq2 (hc:Yh1 X (.type T) r) (hg:Gl X x) (hm:X.mg x=none) (hv:bootBuiltins x=some (.type T)) (ha:PA X (e :: es) t) (hn:x≠"__name__":=by decide) (hdb:(x == ("__debug__":Str))=false:=by decide)
  (he:starEach (e :: es) X.env=(false,eval e X.env) :: starEach es X.env:=by rfl) (hpl:(backTo pos (starEach es X.env)).any (·.1)=false:=by rfl):PE X (.Call (.Name x p) (e :: es) [] pos) (tCB r t):=by with_unfolding_all
 intro pins s σ H Q I h;refine wpAny_Call_Name_kw (Zn7 I hg hm hv ?_ hn hdb);exact PyProof.Rows.callWith_type1 (thn (ha pos pins s σ H _ I h) fun us s1 ⟨vs,H1,I1,r1,q1⟩=>hc pins s1 σ H1 vs us Q I1 r1 q1) he hpl
end
end L2
namespace HT
open PySem PyProof.Rows
section
variable {prog:Program} {w:World} {A:Around} {E:Value→Shared→Prop} {s:Shared}
theorem cat_tup {t b:Addr} {vs ws:List Value} {Q:Value→Shared→Prop} (ht:IsTup s.heap t vs.toArray) (hb:IsTup s.heap b ws.toArray) (hv:vs≠[])
  (h1:ws=[]→Q (.ref t) s) (h2:ws≠[]→Q (.ref s.heap.objs.size) { s with heap:=s.heap.push { cls:=.type "tuple",data:=.seq (vs++ws).toArray } })
  (hsz:vs.length+ws.length≤sizeLine):wpAny (model prog w) A (binaryOp .Add (.ref t) (.ref b)) Q E s:=by
 obtain⟨⟨cls,dd,data,sl⟩,ho,hc,n,hd⟩:=id ht;obtain⟨⟨cls2,dd2,data2,sl2⟩,ho2,hc2,n2,hd2⟩:=id hb;simp only at hc hd hc2 hd2;subst hc hd hc2 hd2
 have e:vs.toArray++ws.toArray=(vs++ws).toArray:=by simp
 by_cases hw:ws=[]
 ·exact concat_meets ⟨_,ho,rfl⟩ ⟨_,ho2,rfl⟩ noFill_tuple_add seq_tuple_add PySem.F.slot_tuple_add PySem.F.entry_tuple_add (PySem.F.args_tuple_add_2 _ _)
   (tuple_addW1 t b vs.toArray ws.toArray n n2 dd dd2 sl sl2 (by simpa using hv) (by simp[hw])) ⟨ho,ho2,h1 hw⟩
 ·refine concat_meets ⟨_,ho,rfl⟩ ⟨_,ho2,rfl⟩ noFill_tuple_add seq_tuple_add PySem.F.slot_tuple_add PySem.F.entry_tuple_add (PySem.F.args_tuple_add_2 _ _)
   (tuple_addW2 t b vs.toArray ws.toArray n n2 dd dd2 sl sl2 (by simpa using hv) (by simpa using hw) (by rw[List.size_toArray,List.size_toArray];exact hsz)) ⟨ho,ho2,?_⟩
  rw[e];exact h2 hw
noncomputable def sIx (n d:Nat):Option Int→Nat
 | none=>d
 | some v=>if v < 0 then (v+(n:Int)).toNat else min v.toNat n
theorem sIx_none (n d:Nat):sIx n d none=d:=rfl
theorem sIx_nat (n d k:Nat):sIx n d (some (k:Int))=min k n:=by
 show (if (k:Int) < 0 then ((k:Int)+(n:Int)).toNat else min (k:Int).toNat n)=min k n;rw[if_neg (by walk_at "o"),Int.toNat_natCast]
theorem Wd1 (n d:Nat) (hd:d≤n) (o:Option Int):sIx n d o≤n:=by
 cases o with
 | none=>exact hd
 | some v =>
  show (if v < 0 then (v+(n:Int)).toNat else min v.toNat n)≤n
  by_cases hv:v < 0
  ·rw[if_pos hv];walk_at "o"
  ·rw[if_neg hv];exact Nat.min_le_right _ _
theorem Xl7 (v:Int) (n d:Nat):(if v < 0 then max (v+(n:Int)) 0 else min v (n:Int))=((sIx n d (some v):Nat):Int):=by
 show (if v < 0 then max (v+(n:Int)) 0 else min v (n:Int))=(((if v < 0 then (v+(n:Int)).toNat else min v.toNat n):Nat):Int)
 by_cases hv:v < 0
 ·simp only[if_pos hv];walk_at "o"
 ·simp only[if_neg hv];walk_at "o"
theorem Xa7 (lo hi:Option Int) (n:Nat):Builtin.Slice.sliceAdjust lo hi 1 (n:Int)=(((sIx n 0 lo:Nat):Int),((sIx n n hi:Nat):Int)):=by
 have h1:¬ ((1:Int) < 0):=by walk_at "o"
 unfold Builtin.Slice.sliceAdjust;simp only[h1,if_false];refine Prod.ext ?_ ?_
 ·cases lo with
  | none=>rfl
  | some v=>exact Xl7 v n 0
 ·cases hi with
  | none=>rfl
  | some v=>exact Xl7 v n n
theorem Yy1 (i j:Nat):Builtin.Slice.slicePlaces (i:Int) (j:Int) 1=j - i:=by
 unfold Builtin.Slice.slicePlaces
 have h1:(1:Int) > 0:=by walk_at "o"
 simp only[h1,if_true,Int.ediv_one]
 split<;>walk_at "o"
theorem Yb5 {v:Value} {o:Option Int} {Q:Option Int→Shared→Prop} (p:IsPart v o) (h:Q o s):wpAny (model prog w) A (Builtin.Slice.slicePartIndex v) Q E s:=by
 cases p with
 | none=>exact slicePart_none h
 | int i t=>exact slicePart_int h
theorem Zu7 {sl:Addr} {vl vu:Value} {lo hi:Option Int} {n:Nat} {Q:Int×Int×Nat→Shared→Prop} (hs:s.heap.IsSliceOf sl vl vu .none) (pl:IsPart vl lo) (pu:IsPart vu hi)
  (h:Q (((sIx n 0 lo:Nat):Int),1,sIx n n hi - sIx n 0 lo) s):wpAny (model prog w) A (Builtin.Slice.sliceApplied (.ref sl) (pure (n:Int))) Q E s:=by
 obtain⟨os,hos,hcs,hds⟩:=id hs;unfold Builtin.Slice.sliceApplied Builtin.Slice.sliceFields;refine wpAny_bind (wpAny_bind (wpAny_field hos hds (x:=vl) rfl (wpAny_bind (wpAny_field hos hds (x:=vu) rfl (wpAny_bind (wpAny_field hos hds (x:=.none) rfl (wpAny_pure ?_)))))));refine wpAny_bind (slicePart_none ?_);show wpAny _ _ (if ((1:Int) == 0)=true then _ else _) _ _ s;rw[if_neg (by decide)];refine wpAny_bind (Yb5 pl (wpAny_bind (Yb5 pu (wpAny_bind (wpAny_pure ?_)))));show wpAny _ _ (match Builtin.Slice.sliceAdjust lo hi 1 (n:Int) with | (lo,hi)=>pure (lo,(1:Int),Builtin.Slice.slicePlaces lo hi 1)) _ _ s;rw[Xa7 lo hi n];show wpAny _ _ (pure (((sIx n 0 lo:Nat):Int),(1:Int),Builtin.Slice.slicePlaces ((sIx n 0 lo:Nat):Int) ((sIx n n hi:Nat):Int) 1)) _ _ s;rw[Yy1];exact wpAny_pure h
theorem Xp1 (xs:Array Value) (i k:Nat):((List.range k).filterMap fun (m:Nat)=>xs[((i:Int)+(m:Int)*1).toNat]?).toArray=((xs.toList.drop i).take k).toArray:=by
 have e:(fun (m:Nat)=>xs[((i:Int)+(m:Int)*1).toNat]?)=fun m=>xs[i+m]?:=by
  funext m
  have:((i:Int)+(m:Int)*1).toNat=i+m:=by walk_at "o"
  rw[this]
 rw[e];have:=pick_run xs i k;rw[List.filterMap_map] at this;have e2:((fun x=>xs[x]?) ∘ fun x=>i+x)=fun m=>xs[i+m]?:=rfl;rw[e2] at this;rw[this]
theorem getItem_tuple_cut {t sl:Addr} {items:Array Value} {vl vu:Value} {lo hi:Option Int} {Q:Value→Shared→Prop} (ht:IsTup s.heap t items) (hs:s.heap.IsSliceOf sl vl vu .none) (pl:IsPart vl lo) (pu:IsPart vu hi)
  (hw:¬ (sIx items.size 0 lo=0∧sIx items.size items.size hi=items.size))
  (h:Q (.ref s.heap.objs.size) { s with heap:=s.heap.push { cls:=.type "tuple",data:=.seq ((items.toList.drop (sIx items.size 0 lo)).take (sIx items.size items.size hi - sIx items.size 0 lo)).toArray } })
  (hsz:items.size≤sizeLine):wpAny (model prog w) A (getItem (.ref t) (.ref sl)) Q E s:=by
 have htake:sizeOk (.seq ((items.toList.drop (sIx items.size 0 lo)).take (sIx items.size items.size hi - sIx items.size 0 lo)).toArray):=by
  show ((items.toList.drop (sIx items.size 0 lo)).take (sIx items.size items.size hi - sIx items.size 0 lo)).toArray.size≤sizeLine;rw[List.size_toArray,List.length_take,List.length_drop,Array.length_toList];walk_at "o"
 have hj:sIx items.size items.size hi≤items.size:=Wd1 _ _ (Nat.le_refl _) hi;obtain⟨os,hos,hcs,hds⟩:=id hs;have hTs:s.TypeIs (.ref sl) "slice":=⟨os,hos,hcs⟩;unfold getItem
 try with_reducible refine wpAny_holding ?_
 first | refine wpAny_bind (wpAny_pure ?_) | skip
 refine wpAny_bind (wpAny_sequenceKey ht.typeIs (by decide) ?_)
 refine wpAny_bind (wpAny_callSpecial?_slot (name:=Str.ofString "__getitem__") ht.typeIs PyProof.Rows.slot_tuple_getitem
  (wpAny_call_entry PyProof.Rows.slot_tuple_getitem ht.typeIs entry_tuple_getitem ?_ (args_tuple_getitem _ _)))
 show wpAny _ _ (Builtin.Tuple.tupleItemsOf (.ref t) >>= _) _ _ s;refine wpAny_bind (tupleItemsOf_ ht ?_);refine wpAny_bind (wpAny_typeOf hTs ?_);rw[if_pos (by decide)];refine wpAny_bind (Zu7 hs pl pu ?_)
 have hno:¬ ((((sIx items.size 0 lo:Nat):Int) == 0&&(1:Int) == 1&&(sIx items.size items.size hi - sIx items.size 0 lo) == items.size)=true):=by
  intro q;rw[Bool.and_eq_true,Bool.and_eq_true] at q;have q1:((sIx items.size 0 lo:Nat):Int)=0:=eq_of_beq q.1.1;have q2:sIx items.size items.size hi - sIx items.size 0 lo=items.size:=eq_of_beq q.2;exact hw ⟨by walk_at "o",by walk_at "o"⟩
 show wpAny _ _ (if (((sIx items.size 0 lo:Nat):Int) == 0&&(1:Int) == 1&&(sIx items.size items.size hi - sIx items.size 0 lo) == items.size)=true then _ else _) _ _ s;rw[if_neg hno,Xp1]
 first
  | exact wpAny_bind (m:=Builtin.Tuple.tupleExact _) (wpAny_newObj_type (wpAny_pure ⟨_,rfl,wpAny_pure h⟩) htake)
  | exact wpAny_bind (m:=Builtin.Tuple.tupleExact _) (wpAny_newObj_type (wpAny_bind (wpAny_pure (wpAny_pure ⟨_,rfl,wpAny_pure h⟩))) htake)
  | exact wpAny_bind (wpAny_bind (m:=Builtin.Tuple.tupleExact _) (wpAny_newObj_type (wpAny_pure (wpAny_pure ⟨_,rfl,wpAny_pure h⟩)) htake))
  | exact wpAny_bind (wpAny_bind (m:=Builtin.Tuple.tupleExact _) (wpAny_newObj_type (wpAny_pure ⟨_,rfl,wpAny_pure h⟩) htake))
end
end HT
namespace L2
open PySem PySem.Spec PyProof.Rows
noncomputable abbrev TO:=St→Hp→(Option Int→Hp→Prop)→Prop
def PO (X:Cx) (e:Option Expr) (t:TO):Prop :=
 ∀ (pins:List (Addr×Obj)) (s:Shared) (σ:St) (H:Hp) (Q:Option Int→Hp→Prop),Inv X pins σ H s→t σ H Q →
  wpAny (model X.prog X.w) X.A (evalPart e X.env) (fun u s'=>∃ o H',Inv X pins σ H' s'∧IsPart u o∧Q o H') X.xe s
noncomputable def Zn9:TO:=fun _ H Q=>Q none H
noncomputable def Ym9 (t:TE):TO:=fun σ H Q=>t σ H fun x H1=>∃ i,x=.int i∧Q (some i) H1
section
variable {X:Cx} {e:Expr} {te:TE} {lo hi:Option Expr} {tl th:TO} {pos p2:Pos}
theorem Yf0:PO X none Zn9:=by
 intro pins s σ H Q I h;rw[evalPart_none];exact wpAny_pure ⟨none,H,I,.none,h⟩
theorem Ye9 (h:PE X e te):PO X (some e) (Ym9 te):=by with_unfolding_all
 intro pins s σ H Q I hw;rw[evalPart_some];refine thn (h pins s σ H _ I hw) fun u s1 zq=>?_;obtain⟨x,H1,I1,r1,q1⟩:=zq;obtain⟨i,rfl,q⟩:=q1;obtain⟨t,rfl⟩:=r1;exact⟨some i,H1,I1,.int i t,q⟩
def SlR (X:Cx) (r:V→Option Int→Option Int→Hp→VK→Prop):Prop :=
 ∀ (pins:List (Addr×Obj)) (s:Shared) (σ:St) (H:Hp) (x:V) (v vl vu:Value) (lo hi:Option Int) (sl:Addr) (Q:VK),Inv X pins σ H s→RelV x v→s.heap.IsSliceOf sl vl vu .none→IsPart vl lo→IsPart vu hi→r x lo hi H Q →
  ∃ T id,typeLookup (.type T) "__getitem__"=pure (some (.builtin id))∧s.TypeIs v T∧wpAny (model X.prog X.w) X.A (getItem v (.ref sl)) (EP X pins σ Q) X.xe s
def tSl (r:V→Option Int→Option Int→Hp→VK→Prop) (te:TE) (tl th:TO):TE:=fun σ H Q=>te σ H fun x H1=>tl σ H1 fun l H2=>th σ H2 fun u H3=>r x l u H3 Q
theorem Zv5 {r:V→Option Int→Option Int→Hp→VK→Prop} (hr:SlR X r) (he:PE X e te) (hl:PO X lo tl) (hu:PO X hi th):PE X (.Subscript e (.Slice lo hi none p2) pos) (tSl r te tl th):=by with_unfolding_all
 intro pins s σ H Q I h;refine Subscript_ (thn (he pins s σ H _ I h) fun v s1 zq=>?_);obtain⟨x,H1,I1,r1,q1⟩:=zq;refine wpAny_Slice (thn (hl pins s1 σ H1 _ I1 q1) fun vl s2 ⟨l,H2,I2,pl,q2⟩=>thn (hu pins s2 σ H2 _ I2 q2) fun vu s3 zq=>?_);obtain⟨u,H3,I3,pu,q3⟩:=zq;rw[evalPart_none];refine wpAny_pure ?_;have I4:Inv X pins σ H3 { s3 with heap:=s3.heap.push { cls:=.type "slice",data:=.fields #[vl,vu,.none] } }:=I3.kept (t':=s3.toks) fun b ob q=>Heap.get?_push_of_some _ q;obtain⟨T,id,hT,ht,hg⟩:=hr pins { s3 with heap:=s3.heap.push { cls:=.type "slice",data:=.fields #[vl,vu,.none] } } σ H3 x v vl vu l u s3.heap.objs.size Q I4 r1 (Heap.IsSliceOf.new ..) pl pu q3;show wpAny (model X.prog X.w) X.A (subscriptTail e (.Slice lo hi none p2) v (.ref s3.heap.objs.size)) (EP X pins σ Q) X.xe { s3 with heap:=s3.heap.push { cls:=.type "slice",data:=.fields #[vl,vu,.none] } };exact tail_any (ops:=[.ref s3.heap.objs.size,v]) ht hT hg (by with_unfolding_all rfl)
noncomputable def cutV (xs:List V) (lo hi:Option Int):List V:=(xs.drop (HT.sIx xs.length 0 lo)).take (HT.sIx xs.length xs.length hi - HT.sIx xs.length 0 lo)
theorem Zl2 (xs:List V) (lo hi:Option Int):(cutV xs lo hi).length≤xs.length:=by
 unfold cutV;rw[List.length_take,List.length_drop];walk_at "o"
def rSlT (K:W.Frag):V→Option Int→Option Int→Hp→VK→Prop:=fun x lo hi H Q=>∃ a xs,x=.ref a∧SqT K H a xs ∧
 ¬ (HT.sIx xs.length 0 lo=0∧HT.sIx xs.length xs.length hi=xs.length)∧∀ p,H p=none→Q (.ref p) (upd H p (.tup (cutV xs lo hi)))
theorem Wc0:SlR X (rSlT X.K):=by
 intro pins s σ H x v vl vu lo hi sl Q I rx hs pl pu h;obtain⟨a,xs,rfl,hx,hw,q⟩:=h;cases rx;obtain⟨its,r,ht,hz⟩:=I.tuple hx
 have hlen:its.toArray.size=xs.length:=by rw[List.size_toArray];exact r.length.symm
 refine⟨"tuple",_,PyProof.Rows.slot_tuple_getitem.lookup,ht.typeIs,?_⟩;refine HT.getItem_tuple_cut ht hs pl pu (by rw[hlen];exact hw) ?_ (by rw[hlen];exact hz);rw[hlen];refine⟨.ref s.heap.objs.size,_,I.laid (t':=s.toks) (o:=.tup (cutV xs lo hi)) (fun b ob q=>Heap.get?_push_of_some _ q) (Nat.le_refl _) ?_,rfl,q _ (I.hok.fresh (Nat.le_refl _))⟩;exact⟨Nat.le_trans (Zl2 xs lo hi) hz,_,(r.drop (HT.sIx xs.length 0 lo)).take (HT.sIx xs.length xs.length hi - HT.sIx xs.length 0 lo),IsTup.new _ _⟩
def Yo6 (K:W.Frag):R2:=fun x y H Q=>∃ a b xs ys,x=.ref a∧y=.ref b∧SqT K H a xs∧SqT K H b ys∧xs≠[]∧xs.length+ys.length≤sizeLine ∧
 (ys=[]→Q (.ref a) H)∧(ys≠[]→∀ p,H p=none→Q (.ref p) (upd H p (.tup (xs++ys))))
theorem Vals.nil_iff {xs:List V} {us:List Value} (r:Vals xs us):us=[]↔xs=[]:=by
 cases r with
 | nil=>simp
 | cons _ _=>simp
theorem Xf7:OpR X (binaryOp .Add) (Yo6 X.K):=by
 intro pins s σ H x y v u Q I rx ry h;obtain⟨a,b,xs,ys,rfl,rfl,ha,hb,hx,hz,q1,q2⟩:=h;cases rx;cases ry;obtain⟨its,r1,p1,_⟩:=I.tuple ha;obtain⟨its2,r2,p2,_⟩:=I.tuple hb;refine HT.cat_tup p1 p2 (fun z=>hx (r1.nil_iff.mp z)) (fun z=>⟨.ref a,H,I,rfl,q1 (r2.nil_iff.mp z)⟩) (fun z=>?_) (by rw[← r1.length,← r2.length];exact hz);refine⟨.ref s.heap.objs.size,_,I.laid (t':=s.toks) (o:=.tup (xs++ys)) (fun b ob q=>Heap.get?_push_of_some _ q) (Nat.le_refl _) ?_,rfl,q2 (fun w=>z (r2.nil_iff.mpr w)) _ (I.hok.fresh (Nat.le_refl _))⟩;exact⟨by rw[List.length_append];exact hz,_,r1.append r2,IsTup.new _ _⟩
end
noncomputable def ixN (n:Nat) (i:Int):Option Nat:=if 0≤i then (if i < n then some i.toNat else none) else if -(n:Int)≤i then some (i+n).toNat else none
noncomputable def atI {α:Type} (xs:List α) (i:Int):Option α:=(ixN xs.length i).bind fun j=>xs[j]?
theorem Xh6 {n:Nat} {i:Int} {j:Nat} (h:ixN n i=some j):seqIndex? i n=some j∧j < n∧-(n:Int)≤i∧i < n:=by
 unfold ixN at h
 by_cases h0:0≤i
 ·rw[if_pos h0] at h
  by_cases h1:i < n
  ·rw[if_pos h1] at h
   have e:i.toNat=j:=Option.some.inj h;exact⟨by rw[seqIndex_of h0 h1,e],by walk_at "o",by walk_at "o",h1⟩
  ·rw[if_neg h1] at h;cases h
 ·rw[if_neg h0] at h
  by_cases h1:-(n:Int)≤i
  ·rw[if_pos h1] at h
   have e:(i+n).toNat=j:=Option.some.inj h;exact⟨by rw[seqIndex_neg (by walk_at "o") h1,e],by walk_at "o",h1,by walk_at "o"⟩
  ·rw[if_neg h1] at h;cases h
theorem Yr9 {α:Type} {xs:List α} {i:Int} {v:α} (h:atI xs i=some v):∃ j,seqIndex? i xs.length=some j∧xs[j]?=some v∧j < xs.length∧-(xs.length:Int)≤i∧i < xs.length:=by
 unfold atI at h
 cases e:ixN xs.length i with
 | none=>rw[e] at h;cases h
 | some j =>
  rw[e] at h;obtain⟨h1,h2,h3,h4⟩:=Xh6 e;exact⟨j,h1,h,h2,h3,h4⟩
theorem Zb9 {α:Type} {xs:List α} {j:Nat} {v:α} (h:xs[j]?=some v):atI xs (j:Int)=some v:=by
 have hj:j < xs.length:=(List.getElem?_eq_some_iff.mp h).1
 have e:ixN xs.length (j:Int)=some j:=by
  unfold ixN;rw[if_pos (by walk_at "o"),if_pos (by walk_at "o")];simp
 unfold atI;rw[e];exact h
theorem Xr4 {α:Type} (xs:List α) (v:α):atI (xs++[v]) (-1)=some v:=by
 have hl:(xs++[v]).length=xs.length+1:=by simp
 have e:ixN (xs++[v]).length (-1)=some xs.length:=by
  unfold ixN;rw[hl,if_neg (by decide),if_pos (by walk_at "o")]
  congr 1
  walk_at "o"
 unfold atI;rw[e];show (xs++[v])[xs.length]?=some v;simp
def Ys1 (b:Expr):Prop:=∀ o i,subscripted b false o i=operate [o,i] (getItem o i)
def IxR (X:Cx) (r:R2):Prop :=
 ∀ (value slice:Expr) (pins:List (Addr×Obj)) (s:Shared) (σ:St) (H:Hp) (x y:V) (v u:Value) (Q:VK),Inv X pins σ H s→RelV x v→RelV y u→r x y H Q →
  subscripted slice false v u=operate [v,u] (getItem v u)→wpAny (model X.prog X.w) X.A (subscriptTail value slice v u) (EP X pins σ Q) X.xe s
def MtR (X:Cx) (id:String) (r:V→List V→Hp→VK→Prop):Prop :=
 ∀ (pins:List (Addr×Obj)) (s:Shared) (σ:St) (H:Hp) (x:V) (xs:List V) (v:Value) (us:List Value) (Q:VK),Inv X pins σ H s→RelV x v→Vals xs us→r x xs H Q →
  wpAny (model X.prog X.w) X.A (call (.builtin id) (v :: us)) (EP X pins σ Q) X.xe s
section
variable {X:Cx} {a b:Expr} {ta tb:TE} {pos:Pos}
theorem Xw8 {r:R2} (hr:IxR X r) (ha:PE X a ta) (hb:PE X b tb) (hs:Ys1 b):PE X (.Subscript a b pos) (tOp r ta tb):=by with_unfolding_all
 intro pins s σ H Q I h;exact Subscript_ (binT ha hb I h fun v u s2 x y H2 I2 rx ry q=>hr a b pins s2 σ H2 x y v u Q I2 rx ry q (hs _ _))
def rIxL (K:W.Frag):R2:=fun x y H Q=>∃ p xs i v,x=.ref p∧y=.int i∧SqL K H p xs∧atI xs i=some v∧Q v H
def rIxT (K:W.Frag):R2:=fun x y H Q=>∃ p xs i v,x=.ref p∧y=.int i∧SqT K H p xs∧atI xs i=some v∧Q v H
def rIxS:R2:=fun x y H Q=>∃ z i c,x=.str z∧y=.int i∧z.length≤sizeLine∧atI z.cps.toList i=some c∧Q (.str ⟨#[c]⟩) H
theorem Xy6:IxR X (rIxL X.K):=by
 intro value slice pins s σ H x y v u Q I rx ry h hs;obtain⟨p,xs,i,z,rfl,rfl,hq,he,q⟩:=h;cases rx;obtain⟨t,rfl⟩:=ry;obtain⟨its,r,pl,hz⟩:=I.list hq;obtain⟨j,h1,h2,h3,h4,h5⟩:=Yr9 he;obtain⟨w,ew,rw'⟩:=r.get h2;have hl:=r.length;have hn:=Zu3;have fin:EP X pins σ Q w s:=⟨z,H,I,rw',q⟩
 by_cases h0:0≤i
 ·have hj:i.toNat=j:=by
   rw[seqIndex_of h0 h5] at h1;exact Option.some.inj h1
  exact item_listR pl.isList h0 (by walk_at "o") (by rw[hj];simpa using ew) fin hs
 ·have hj:(i+(its.toArray.size:Int)).toNat=j:=by
   rw[seqIndex_neg (by walk_at "o") h4] at h1;rw[List.size_toArray,← hl];exact Option.some.inj h1
  exact subscriptTail_builtinR (x:=w) pl.isList.typeIs slot_list_getitem.lookup
   (wpAny_getItem_list_neg (Q:=fun r s'=>r=w∧EP X pins σ Q r s') pl.isList (by walk_at "o") (by rw[List.size_toArray]<;>walk_at "o") (by walk_at "o") (by rw[hj];simpa using ew) ⟨rfl,fin⟩) hs
theorem Wi7:IxR X (rIxT X.K):=by
 intro value slice pins s σ H x y v u Q I rx ry h hs;obtain⟨p,xs,i,z,rfl,rfl,hq,he,q⟩:=h;cases rx;obtain⟨t,rfl⟩:=ry;obtain⟨its,r,pl,hz⟩:=I.tuple hq;obtain⟨j,h1,h2,h3,h4,h5⟩:=Yr9 he;obtain⟨w,ew,rw'⟩:=r.get h2;have hl:=r.length;have hn:=Zu3;have fin:EP X pins σ Q w s:=⟨z,H,I,rw',q⟩;exact subscriptTail_builtinR (x:=w) pl.typeIs slot_tuple_getitem.lookup
  (getItem_tuple (j:=j) (Q:=fun r s'=>r=w∧EP X pins σ Q r s') pl (by walk_at "o") (by walk_at "o") (by rw[List.size_toArray,← hl];exact h1) (by simpa using ew) ⟨rfl,fin⟩) hs
theorem Wi8:IxR X rIxS:=by
 intro value slice pins s σ H x y v u Q I rx ry h hs;obtain⟨z,i,c,rfl,rfl,hz,he,q⟩:=h;obtain⟨t,rfl⟩:=rx;obtain⟨t',rfl⟩:=ry;obtain⟨j,h1,h2,h3,h4,h5⟩:=Yr9 he
 have hl:z.cps.toList.length=z.length:=by simp[Str.length]
 rw[hl] at h1 h4 h5;have hn:=Zu3
 exact tail_any (typeIs_str s z t) slot_str_getitem.lookup (getItem_str (c:=c) (by
  have e1:decide (i < -(2 ^ 63:Int))=false:=decide_eq_false (by walk_at "o");have e2:decide (i ≥ 2 ^ 63)=false:=decide_eq_false (by walk_at "o")
  rw[e1,e2,Bool.or_false]) (by rw[h1];simpa using h2) ⟨.str ⟨#[c]⟩,H,I.tok _,⟨_,rfl⟩,q⟩) hs
theorem Yy5 (its:List Value) (n j:Nat) (u:Value):Obj.mapSeq (·.setIfInBounds j u) { cls:=.type "list",data:=.seq its.toArray n }={ cls:=.type "list",data:=.seq (its.set j u).toArray n }:=by
 simp[Obj.mapSeq]
theorem Inv.lst {pins:List (Addr×Obj)} {σ:St} {H:Hp} {s:Shared} {p:Addr} {xs:List V} (I:Inv X pins σ H s) (h:H p=some (.lst xs)) :
  ∃ (its:List Value) (n:Nat),Vals xs its∧s.heap.get? p=some { cls:=.type "list",data:=.seq its.toArray n }∧xs.length≤sizeLine:=by
 obtain⟨z,its,n,r,e⟩:=I.hok p _ h;exact⟨its,n,r,e,z⟩
theorem Inv.lstUpd {pins:List (Addr×Obj)} {σ:St} {H:Hp} {s:Shared} {p:Addr} {xs ys:List V} {its its':List Value} {n n':Nat} {f:Obj→Obj} (I:Inv X pins σ H s) (h:H p=some (.lst xs))
  (ho:s.heap.get? p=some { cls:=.type "list",data:=.seq its.toArray n }) (hf:f { cls:=.type "list",data:=.seq its.toArray n }={ cls:=.type "list",data:=.seq its'.toArray n' }) (r:Vals ys its') (hz:ys.length≤sizeLine) (t:Nat) :
  Inv X pins σ (upd H p (.lst ys)) { s with heap:=s.heap.update p f,toks:=t }:=by
 have e:(s.heap.update p f).get? p=some { cls:=.type "list",data:=.seq its'.toArray n' }:=by
  rw[Heap.get?_update_self f ho (by rw[hf]<;>rfl),hf]
 refine I.write (x:=p) (e:=p) (by rw[h];trivial) (.inl rfl) (fun b u hb q=>(Heap.get?_update_other _ _ (Ne.symm hb)).trans q) ⟨_,e⟩ ?_;exact⟨hz,its',n',r,e⟩
def Yo4:V→V→V→Hp→(Hp→Prop)→Prop:=fun o i v H Q=>∃ p xs k j,o=.ref p∧i=.int k∧H p=some (.lst xs)∧ixN xs.length k=some j∧Q (upd H p (.lst (xs.set j v)))
theorem Xn7:PSet X Yo4:=by
 intro pins s σ H o i v ov iv u Q I ro ri rv h;obtain⟨p,xs,k,j,rfl,rfl,hp,hj,q⟩:=h;cases ro;obtain⟨t,rfl⟩:=ri;obtain⟨its,n,r,ho,hz⟩:=I.lst hp;obtain⟨h1,h2,h3,h4⟩:=Xh6 hj;have hl:=r.length;have hn:=Zu3
 have I':Inv X pins σ (upd H p (.lst (xs.set j v))) { s with heap:=s.heap.update p (Obj.mapSeq (·.setIfInBounds j u)) } :=
  I.lstUpd hp ho (Yy5 its n j u) (r.set rv j) (by rw[List.length_set];exact hz) s.toks
 by_cases h0:0≤k
 ·have hk:k.toNat=j:=by
   rw[seqIndex_of h0 h4] at h1;exact Option.some.inj h1
  exact W.ki_setAt ho h0 (by walk_at "o") (by rw[List.size_toArray,← hl];exact h4) (by rw[hk];exact⟨_,I',q⟩)
 ·have hk:(k+(its.toArray.size:Int)).toNat=j:=by
   rw[seqIndex_neg (by walk_at "o") h3] at h1;rw[List.size_toArray,← hl];exact Option.some.inj h1
  exact W.ki_setBack ho (by walk_at "o") (by rw[List.size_toArray,← hl];exact h3) (by walk_at "o") (by rw[hk];exact⟨_,I',q⟩)
theorem Yi9 (lo hi:Option Int) (n:Nat):(sliceBounds lo hi none n).1=((HT.sIx n 0 lo:Nat):Int)∧(sliceBounds lo hi none n).2.1=((HT.sIx n n hi:Nat):Int)∧(sliceBounds lo hi none n).2.2=1:=by
 refine⟨?_,?_,rfl⟩
 ·cases lo with
  | none=>simp[sliceBounds,HT.sIx]
  | some i =>
   simp only[sliceBounds,HT.sIx,Option.getD_none,show (1:Int) > 0 by decide,if_true]
   by_cases h:i < 0
   ·simp only[h,if_true]<;>walk_at "o"
   ·simp only[h,if_false]<;>walk_at "o"
 ·cases hi with
  | none=>simp[sliceBounds,HT.sIx]
  | some i =>
   simp only[sliceBounds,HT.sIx,Option.getD_none,show (1:Int) > 0 by decide,if_true]
   by_cases h:i < 0
   ·simp only[h,if_true]<;>walk_at "o"
   ·simp only[h,if_false]<;>walk_at "o"
theorem Yd9 (its:List Value) (lo hi:Option Int):slicePick its.toArray lo hi none=((its.drop (HT.sIx its.length 0 lo)).take (HT.sIx its.length its.length hi - HT.sIx its.length 0 lo)).toArray:=by
 obtain⟨h1,h2,h3⟩:=Yi9 lo hi its.toArray.size;unfold slicePick;rw[h1,h2,h3]
 simp only[sliceRange_one,pick_run,List.size_toArray]<;>rfl
def rSlL (K:W.Frag):V→Option Int→Option Int→Hp→VK→Prop:=fun x lo hi H Q=>∃ a xs,x=.ref a∧SqL K H a xs∧∀ p,H p=none→Q (.ref p) (upd H p (.lst (cutV xs lo hi)))
theorem Yn7:SlR X (rSlL X.K):=by
 intro pins s σ H x v vl vu lo hi sl Q I rx hs pl pu h;obtain⟨a,xs,rfl,hx,q⟩:=h;cases rx;obtain⟨its,r,ht,hz⟩:=I.list hx;have hlen:=r.length;refine⟨"list",_,slot_list_getitem.lookup,ht.isList.typeIs,?_⟩;refine wpAny_getItem_list_slice ht.isList hs pl pu .none (by simp) ?_ (by rw[List.size_toArray]<;>walk_at "o");rw[Yd9,← hlen];refine⟨.ref s.heap.objs.size,_,I.laid (t':=s.toks) (o:=.lst (cutV xs lo hi)) (fun b ob q=>Heap.get?_push_of_some _ q) (Nat.le_refl _) ?_,rfl,q _ (I.hok.fresh (Nat.le_refl _))⟩;exact⟨Nat.le_trans (Zl2 xs lo hi) hz,_,0,(r.drop (HT.sIx xs.length 0 lo)).take (HT.sIx xs.length xs.length hi - HT.sIx xs.length 0 lo),Heap.get?_push_size _ rfl⟩
noncomputable def Yg2:V→Bool
 | .non=>true
 | .bl _=>true
 | .int _=>true
 | .str _=>true
 | _=>false
noncomputable def eqV:V→V→Bool
 | .non,.non=>true
 | .bl a,.bl b=>a == b
 | .bl a,.int b=>(if a then 1 else 0) == b
 | .int a,.bl b=>a == (if b then 1 else 0)
 | .int a,.int b=>a == b
 | .str a,.str b=>a == b
 | _,_=>false
theorem Wj6 {A:Around} {s:Shared} {y x:V} {u v:Value} (ry:RelV y u) (rx:RelV x v) (fy:Yg2 y=true) (fx:Yg2 x=true):SeqAt.EqAt A s u v (eqV y x):=by
 cases y with
 | non =>
  cases ry
  cases x with
  | non=>cases rx;exact SeqAt.EqAt.same _
  | bl b=>cases rx;exact SeqAt.EqAt.none_bool b
  | int b=>obtain⟨t,rfl⟩:=rx;exact SeqAt.EqAt.none_int b t
  | str b=>obtain⟨t,rfl⟩:=rx;exact SeqAt.EqAt.none_str b t
  | _=>exact absurd (show false=true from fx) Bool.false_ne_true
 | bl a =>
  cases ry
  cases x with
  | non=>cases rx;exact SeqAt.EqAt.bool_none a
  | bl b=>cases rx;exact SeqAt.EqAt.bool_bool a b
  | int b=>obtain⟨t,rfl⟩:=rx;exact SeqAt.EqAt.bool_int a b t
  | str b=>obtain⟨t,rfl⟩:=rx;exact SeqAt.EqAt.bool_str a b t
  | _=>exact absurd (show false=true from fx) Bool.false_ne_true
 | int a =>
  obtain⟨t',rfl⟩:=ry
  cases x with
  | non=>cases rx;exact SeqAt.EqAt.int_none a t'
  | bl b=>cases rx;exact SeqAt.EqAt.int_bool a t' b
  | int b=>obtain⟨t,rfl⟩:=rx;exact SeqAt.EqAt.int_int a t' b t
  | str b=>obtain⟨t,rfl⟩:=rx;exact SeqAt.EqAt.int_str a t' b t
  | _=>exact absurd (show false=true from fx) Bool.false_ne_true
 | str a =>
  obtain⟨t',rfl⟩:=ry
  cases x with
  | non=>cases rx;exact SeqAt.EqAt.str_none a t'
  | bl b=>cases rx;exact SeqAt.EqAt.str_bool a t' b
  | int b=>obtain⟨t,rfl⟩:=rx;exact SeqAt.EqAt.str_int a t' b t
  | str b=>obtain⟨t,rfl⟩:=rx;exact SeqAt.EqAt.str_str a t' b t
  | _=>exact absurd (show false=true from fx) Bool.false_ne_true
 | _=>exact absurd (show false=true from fy) Bool.false_ne_true
noncomputable def eqU (x:V) (u:Value):Bool:=match u with
 | .none=>eqV .non x
 | .bool b=>eqV (.bl b) x
 | .int i _=>eqV (.int i) x
 | .str z _=>eqV (.str z) x
 | _=>false
theorem Xt6 {x y:V} {u:Value} (r:RelV y u) (f:Yg2 y=true):eqU x u=eqV y x:=by
 cases y with
 | non=>cases r;rfl
 | bl b=>cases r;rfl
 | int i=>obtain⟨t,rfl⟩:=r;rfl
 | str z=>obtain⟨t,rfl⟩:=r;rfl
 | _=>exact absurd (show false=true from f) Bool.false_ne_true
theorem Ys0 {x:V}:∀ {xs:List V} {us:List Value},Vals xs us→xs.all Yg2=true→us.any (eqU x)=xs.any fun y=>eqV y x
 | _,_,.nil,_=>rfl
 | y :: xs,u :: us,.cons r t,f=>by
  rw[List.all_cons,Bool.and_eq_true] at f;rw[List.any_cons,List.any_cons,Xt6 r f.1,Ys0 t f.2]
theorem Yf9 {A:Around} {s:Shared} {x:V} {v:Value} (rx:RelV x v) (fx:Yg2 x=true):∀ {xs:List V} {us:List Value},Vals xs us→xs.all Yg2=true→∀ u∈us,SeqAt.EqAt A s u v (eqU x u)
 | _,_,.nil,_=>fun u hu=>by cases hu
 | y :: xs,u :: us,.cons r t,f=>fun u' hu=>by
  rw[List.all_cons,Bool.and_eq_true] at f;rcases List.mem_cons.mp hu with rfl | hu
  ·rw[Xt6 r f.1];exact Wj6 r rx f.1 fx
  ·exact Yf9 rx fx t f.2 u' hu
noncomputable def inV (x:V) (xs:List V):Bool:=xs.any fun y=>eqV y x
def rIn (K:W.Frag) (neg:Bool):R2:=fun x y H Q=>∃ p xs,y=.ref p∧(SqL K H p xs∨SqT K H p xs)∧Yg2 x=true∧xs.all Yg2=true∧Q (.bl (if neg then !inV x xs else inV x xs)) H
theorem Zq6:OpR X (compareOp .In) (rIn X.K false):=by
 intro pins s σ H x y v u Q I rx ry h;obtain⟨p,xs,rfl,hq,fx,fs,q⟩:=h;cases ry;rcases hq with hq | hq
 ·obtain⟨its,r,pl,hz⟩:=I.list hq
  refine SeqAt.in_listAt (eqU x) pl.isList (fun w hw=>Yf9 rx fx r fs w (by simpa using hw)) ⟨.bl _,H,I,rfl,?_⟩;rw[show its.toArray.any (eqU x)=its.any (eqU x) by simp,Ys0 r fs];exact q
 ·obtain⟨its,r,pl,hz⟩:=I.tuple hq
  refine SeqAt.in_tupleAt (eqU x) pl (fun w hw=>Yf9 rx fx r fs w (by simpa using hw)) ⟨.bl _,H,I,rfl,?_⟩;rw[show its.toArray.any (eqU x)=its.any (eqU x) by simp,Ys0 r fs];exact q
theorem Zc3:Yh1 X (.builtin "len") (fun xs H Q=>∃ p ys,xs=[.ref p]∧(SqL X.K H p ys∨SqT X.K H p ys)∧Q (.int ys.length) H):=by
 intro pins s σ H xs us Q I r h;obtain⟨p,ys,rfl,hq,q⟩:=h;obtain⟨u,rfl,rx⟩:=Ym7 r;cases rx;have hn:=Zu3;rcases hq with hq | hq
 ·obtain⟨its,r',pl,hz⟩:=I.list hq
  have hlen:=r'.length;exact Calls.call_len_list pl.isList (by simp only[List.size_toArray]<;>walk_at "o") ⟨.int ys.length,H,I.tok _,⟨s.toks+1,by rw[List.size_toArray,hlen]⟩,q⟩
 ·obtain⟨its,r',pl,hz⟩:=I.tuple hq
  have hlen:=r'.length;exact len_tuple pl (by simp only[List.size_toArray]<;>walk_at "o") ⟨.int ys.length,H,I.tok _,⟨s.toks+1,by rw[List.size_toArray,hlen]⟩,q⟩
theorem Yl6:Yh1 X (.type "list") (fun xs H Q=>∃ p ys,xs=[.ref p]∧(SqL X.K H p ys∨SqT X.K H p ys)∧∀ l,H l=none→Q (.ref l) (upd H l (.lst ys))):=by
 intro pins s σ H xs us Q I r h;obtain⟨p,ys,rfl,hq,q⟩:=h;obtain⟨u,rfl,rx⟩:=Ym7 r;cases rx
 have fin:∀ (its:List Value),Vals ys its→ys.length≤sizeLine→∀ (h':Heap) (c':Nat),(∀ b o',s.heap.get? b=some o'→h'.get? b=some o') →
   h'.get? s.heap.objs.size=some { cls:=.type "list",dict:=none,data:=.seq its.toArray c',slots:=#[] }→EP X pins σ Q (.ref s.heap.objs.size) { s with heap:=h' }:=fun its r' hz h' c' kp e =>
  ⟨.ref s.heap.objs.size,_,I.laid (t':=s.toks) kp (Nat.le_refl _) (show ObjOk X.prog X.w _ h' _ (.lst ys) from ⟨hz,its,c',r',e⟩),rfl,q _ (I.hok.fresh (Nat.le_refl _))⟩
 rcases hq with hq | hq
 ·obtain⟨its,r',pl,hz⟩:=I.list hq
  have hlen:=r'.length;obtain⟨o,ho,hc,n,hd⟩:=pl.isList;exact call_list_seq p (.inl rfl) ho hc hd (fun h' c' kp e=>fin its r' hz h' c' kp e) (by simp only[List.size_toArray]<;>walk_at "o")
 ·obtain⟨its,r',pl,hz⟩:=I.tuple hq
  have hlen:=r'.length;obtain⟨o,ho,hc,n,hd⟩:=pl;exact call_list_seq p (.inr rfl) ho hc hd (fun h' c' kp e=>fin its r' hz h' c' kp e) (by simp only[List.size_toArray]<;>walk_at "o")
theorem Yg7:Yh1 X (.type "tuple") (fun xs H Q=>∃ p ys,xs=[.ref p]∧((SqL X.K H p ys∧∀ l,H l=none→Q (.ref l) (upd H l (.tup ys)))∨(SqT X.K H p ys∧Q (.ref p) H))):=by
 intro pins s σ H xs us Q I r h;obtain⟨p,ys,rfl,h⟩:=h;obtain⟨u,rfl,rx⟩:=Ym7 r;cases rx;rcases h with ⟨hq,q⟩ | ⟨hq,q⟩
 ·obtain⟨its,r',pl,hz⟩:=I.list hq
  have hlen:=r'.length;refine call_tuple_list pl.isList (fun h' kp=>?_) (by simp only[List.size_toArray]<;>walk_at "o");have I1:Inv X pins σ H { s with heap:=h' }:=I.kept (t':=s.toks) kp
  have I2:Inv X pins σ (upd H h'.objs.size (.tup ys)) { s with heap:=h'.push { cls:=.type "tuple",data:=.seq its.toArray } } :=
   I1.laid (t':=s.toks) (fun b o e=>Heap.get?_push_of_some _ e) (Nat.le_refl _) (show ObjOk X.prog X.w _ _ _ (.tup ys) from ⟨hz,its,r',IsTup.new _ _⟩)
  exact⟨.ref h'.objs.size,_,I2,rfl,q _ (I1.hok.fresh (Nat.le_refl _))⟩
 ·obtain⟨its,r',pl,hz⟩:=I.tuple hq
  exact call_tuple_same pl ⟨.ref p,H,I,rfl,q⟩
def tyV (K:W.Frag) (T:String) (x:V) (H:Hp):Prop:=match x with
 | .str _=>T="str"
 | .int _=>T="int"
 | .ref p=>(T="list"∧∃ xs,SqL K H p xs)∨(T="tuple"∧∃ o,K.lookup p=some o∧o.cls=.type "tuple"∧o.dict=none) ∨
   (T="dict"∧((∃ kvs,H p=some (.dK kvs))∨∃ kvs,H p=some (.dT kvs)))∨(T="set"∧∃ S n,H p=some (.set S n))
 | _=>False
theorem Xr6 {pins:List (Addr×Obj)} {σ:St} {H:Hp} {s:Shared} {T:String} {x:V} {v:Value} (I:Inv X pins σ H s) (r:RelV x v) (ty:tyV X.K T x H) :
  s.TypeIs v T∧∀ a,v=.ref a→∃ ob,s.heap.get? a=some ob∧ob.dict=none:=by
 cases x with
 | str z =>
  obtain⟨t,rfl⟩:=r;cases (show T="str" from ty);exact⟨typeIs_str s z t,fun _ e=>nomatch e⟩
 | int i =>
  obtain⟨t,rfl⟩:=r;cases (show T="int" from ty);exact⟨typeIs_int s i t,fun _ e=>nomatch e⟩
 | ref p =>
  cases r;rcases ty with ⟨rfl,xs,hq⟩ | ⟨rfl,o,hk,hc,hd⟩ | ⟨rfl,hk⟩ | ⟨rfl,S,n,hk⟩
  ·obtain⟨its,_,pl,_⟩:=I.list hq
   refine⟨pl.isList.typeIs,fun a e=>?_⟩;cases e;obtain⟨o,n,e,c,hd,_⟩:=pl;exact⟨o,e,hd⟩
  ·refine⟨⟨o,I.kIn p o hk,hc⟩,fun a e=>?_⟩
   cases e;exact⟨o,I.kIn _ o hk,hd⟩
  ·have z:∃ o,s.heap.get? p=some o∧o.ExactDict:=by
    rcases hk with ⟨kvs,hk⟩ | ⟨kvs,hk⟩
    ·obtain⟨_,_,_,_,o,_,_,e,ex,_⟩:=I.hok p _ hk
     exact⟨o,e,ex⟩
    ·obtain⟨_,_,_,_,o,_,_,e,ex,_⟩:=I.hok p _ hk
     exact⟨o,e,ex⟩
   obtain⟨o,e,ex⟩:=z;refine⟨⟨o,e,ex.1⟩,fun a e2=>?_⟩;cases e2;exact⟨o,e,ex.2.1⟩
  ·obtain⟨o,_,_,_,e,ex,_⟩:=I.hok p _ hk
   refine⟨⟨o,e,ex.1⟩,fun a e2=>?_⟩;cases e2;exact⟨o,e,ex.2.1⟩
 | _=>exact False.elim ty
def tBM0 (K:W.Frag) (T:String) (r:V→List V→Hp→VK→Prop) (to:TE):TE:=fun σ H Q=>to σ H fun x H1=>tyV K T x H1∧r x [] H1 Q
def tBM (K:W.Frag) (T:String) (r:V→List V→Hp→VK→Prop) (to:TE) (t:TA):TE:=fun σ H Q=>to σ H fun x H1=>tyV K T x H1∧t σ H1 fun xs H2=>r x xs H2 Q
variable {o e:Expr} {es:List Expr} {to:TE} {t:TA} {name:Str} {apos cpos:Pos} {T id:String} {r:V→List V→Hp→VK→Prop}
theorem Xs5 (pa:PlainAttrs T) (slot:Slot T name id) (hty:typeOf (.builtin id)=pure (.type "method_descriptor")) (hm:MtR X id r) (ho:PE X o to)
  (hbase:attributeBase o name X.env (eval o X.env)=eval o X.env:=by rfl) (hline:(apos.endLine == cpos.line)=true:=by rfl):PE X (.Call (.Attribute o name apos) [] [] cpos) (tBM0 X.K T r to):=by with_unfolding_all
 intro pins s σ H Q I h;refine wpAny_Call_method0_late hbase hline (thn (ho pins s σ H _ I h) fun v s1 zq=>?_);obtain⟨x,H1,I1,r1,ty,q1⟩:=zq;obtain⟨h1,h2⟩:=Xr6 I1 r1 ty;exact⟨T,id,pa,slot,hty,h1,h2,Calls.callWith_builtin rfl (PySem.evalArgs_none (hm pins s1 σ H1 x [] v [] Q I1 r1 .nil q1))⟩
theorem Xf3 (pa:PlainAttrs T) (slot:Slot T name id) (hty:typeOf (.builtin id)=pure (.type "method_descriptor")) (hm:MtR X id r) (ho:PE X o to) (ha:PA X (e :: es) t)
  (hbase:attributeBase o name X.env (eval o X.env)=eval o X.env:=by rfl)
  (hfew:((backTo cpos (starEach (e :: es) X.env)).all (fun x=>!x.1)&&(backToKw cpos (keywordEach [] X.env)).all (fun x=>x.1.isSome)
   && decide ((e :: es).length+([]:List Keyword).length+(if ([]:List Keyword).isEmpty then 0 else 1) < 30))=true:=by rfl)
  (hline:(apos.endLine == cpos.line)=true:=by rfl) (hs:starEach (e :: es) X.env=(false,eval e X.env) :: starEach es X.env:=by rfl) (hplain:(backTo cpos (starEach es X.env)).any (·.1)=false:=by rfl) :
  PE X (.Call (.Attribute o name apos) (e :: es) [] cpos) (tBM X.K T r to t):=by with_unfolding_all
 intro pins s σ H Q I h;refine wpAny_Call_method_late hbase hfew hline rfl (thn (ho pins s σ H _ I h) fun v s1 zq=>?_);obtain⟨x,H1,I1,r1,ty,q1⟩:=zq;obtain⟨h1,h2⟩:=Xr6 I1 r1 ty;refine⟨T,id,pa,slot,hty,h1,h2,?_⟩;have hA:=ha cpos pins s1 σ H1 _ I1 q1;rw[hs] at hA ⊢;refine Calls.callWith_builtin (by show (false||(backTo cpos (starEach es X.env)).any (·.1))=false;rw[hplain]<;>rfl) (Calls.evalArgs_plain ?_);exact thn hA fun us s2 ⟨vs,H2,I2,r2,q2⟩=>hm pins s2 σ H2 x vs v us Q I2 r1 r2 q2
end
def MtM (X:Cx) (id:String) (r:V→List V→Hp→VK→Prop):Prop :=
 ∀ (pins:List (Addr×Obj)) (s:Shared) (σ:St) (H:Hp) (x:V) (xs:List V) (v:Value) (us:List Value) (Q:VK),Inv X pins σ H s→RelV x v→Vals xs us→r x xs H Q →
  wpAny (model X.prog X.w) X.A (call (.builtin id) (v :: us)) (EP X pins σ Q) X.xe s
theorem Vals.one:∀ {x:V} {us:List Value},Vals [x] us→∃ u,us=[u]∧RelV x u
 | _,_,.cons r .nil=>⟨_,rfl,r⟩
theorem Vals.zero:∀ {us:List Value},Vals [] us→us=[]
 | _,.nil=>rfl
theorem Vals.dropLast {xs:List V} {us:List Value} (h:Vals xs us):Vals xs.dropLast us.dropLast:=by
 induction h with
 | nil=>exact .nil
 | cons r t ih =>
  cases t with
  | nil=>exact .nil
  | cons q t'=>exact .cons r ih
theorem Yz7 {α:Type} (l:List α):l.eraseIdx (l.length - 1)=l.dropLast:=by
 induction l with
 | nil=>rfl
 | cons a r ih =>
  cases r with
  | nil=>rfl
  | cons b r =>
   have e:(a :: b :: r).length - 1=((b :: r).length - 1)+1:=by
    have h1:(a :: b :: r).length=r.length+2:=rfl;have h2:(b :: r).length=r.length+1:=rfl;walk_at "o"
   rw[e,List.eraseIdx_cons_succ,ih]
   all_goals rfl
section
variable {X:Cx} {pins:List (Addr×Obj)} {σ:St} {H:Hp} {s:Shared} {l b:Addr} {xs ys zs:List V}
theorem Inv.lset {its its':List Value} {n:Nat} {f:Array Value→Array Value} {t':Nat} (I:Inv X pins σ H s) (hH:H l=some (.lst xs))
  (e:s.heap.get? l=some { cls:=.type "list",data:=.seq its.toArray n }) (hf:f its.toArray=its'.toArray) (hv:Vals ys its') (hz:ys.length≤sizeLine) :
  Inv X pins σ (upd H l (.lst ys)) { s with heap:=s.heap.update l (Obj.mapSeq f),toks:=t' }:=by
 have q:=PySem.IsL.update e f;rw[hf] at q;refine I.write (x:=l) (e:=l) (by rw[hH];exact trivial) (.inl rfl) (fun b' u hb hu=>(Heap.get?_update_other s.heap (Obj.mapSeq f) (Ne.symm hb)).trans hu) ⟨_,q⟩ ?_;exact⟨hz,its',_,hv,q⟩
theorem Inv.lnew {its:List Value} {t':Nat} (I:Inv X pins σ H s) (hv:Vals ys its) (hz:ys.length≤sizeLine) :
  Inv X pins σ (upd H s.heap.objs.size (.lst ys)) { s with heap:=s.heap.push { cls:=.type "list",data:=.seq its.toArray },toks:=t' } :=
 I.laid (fun _ _ q=>Heap.get?_push_of_some _ q) (Nat.le_refl _) ⟨hz,its,0,hv,Heap.get?_push_size _ rfl⟩
theorem Inv.fresh (I:Inv X pins σ H s):H s.heap.objs.size=none:=I.hok.fresh (Nat.le_refl _)
theorem Inv.lstM (I:Inv X pins σ H s) (hH:H l=some (.lst xs)):xs.length≤sizeLine∧∃ (its:List Value) (n:Nat),Vals xs its∧xs.length=its.length∧s.heap.get? l=some { cls:=.type "list",data:=.seq its.toArray n }:=by
 obtain⟨z,its,n,r,e⟩:=I.hok l _ hH;exact⟨z,its,n,r,r.length,e⟩
end
section
variable {X:Cx}
def Zo1:V→List V→Hp→VK→Prop:=fun x vs H Q=>∃ l xs y,x=.ref l∧vs=[y]∧H l=some (.lst xs)∧xs.length < sizeLine∧Q .non (upd H l (.lst (xs++[y])))
theorem Zj3:MtM X "list.append" Zo1:=by
 intro pins s σ H x vs v us Q I rx rv h;obtain⟨l,xs,y,rfl,rfl,hH,hz,q⟩:=h;cases rx;obtain⟨u,rfl,ru⟩:=rv.one;obtain⟨z,its,n,r,hl,e⟩:=I.lstM hH;refine call_meets F.slot_list_append ⟨_,e,rfl⟩ F.entry_list_append (F.args_list_append_2 _ _) (PySem.list_append l its.toArray n u (by rw[List.size_toArray];walk_at "o")) ⟨e,?_⟩;refine⟨.non,_,I.lset (its':=its++[u]) hH e (by simp) (r.append (.cons ru .nil)) ?_,rfl,q⟩;rw[List.length_append,List.length_singleton];walk_at "o"
def rPop:V→List V→Hp→VK→Prop:=fun x vs H Q=>∃ l xs y,x=.ref l∧vs=[]∧H l=some (.lst xs)∧xs[xs.length - 1]?=some y∧Q y (upd H l (.lst xs.dropLast))
theorem Xt1:MtM X "list.pop" rPop:=by
 intro pins s σ H x vs v us Q I rx rv h;obtain⟨l,xs,y,rfl,rfl,hH,hy,q⟩:=h;cases rx;have hus:=rv.zero;subst hus;obtain⟨z,its,n,r,hl,e⟩:=I.lstM hH;obtain⟨u,hu,ru⟩:=r.get hy
 have hy':its.toArray[its.toArray.size - 1]?=some u:=by
  show its.toArray[its.length - 1]?=some u;rw[← Array.getElem?_toList,← hl];exact hu
 refine call_meets F.slot_list_pop ⟨_,e,rfl⟩ F.entry_list_pop (F.args_list_pop_1 _) (MeetsSeq.list_pop_last l its.toArray n u hy' (by rw[List.size_toArray];walk_at "o")) ⟨e,?_⟩;refine⟨y,_,I.lset (its':=its.dropLast) hH e ?_ r.dropLast ?_,ru,q⟩
 ·show its.toArray.eraseIdxIfInBounds (its.toArray.size - 1)=its.dropLast.toArray
  rw[List.size_toArray,List.eraseIdxIfInBounds_toArray,Yz7]
 ·rw[List.length_dropLast]
  walk_at "o"
def rCat:R2:=fun x y H Q=>∃ l b xs zs,x=.ref l∧y=.ref b∧H l=some (.lst xs)∧H b=some (.lst zs)∧xs.length+zs.length≤sizeLine∧∀ p,H p=none→Q (.ref p) (upd H p (.lst (xs++zs)))
theorem Xs6:OpR X (binaryOp .Add) rCat:=by
 intro pins s σ H x y v u Q I rx ry h;obtain⟨l,b,xs,zs,rfl,rfl,hH,hB,hz,q⟩:=h;cases rx;cases ry;obtain⟨z,its,n,r,hl,e⟩:=I.lstM hH;obtain⟨z2,its2,n2,r2,hl2,e2⟩:=I.lstM hB;refine PySem.P.add_list e e2 ?_ (by rw[List.size_toArray,List.size_toArray];walk_at "o")
 have ea:its.toArray++its2.toArray=(its++its2).toArray:=by simp
 rw[ea];exact⟨.ref _,_,I.lnew (t':=s.toks) (r.append r2) (by rw[List.length_append];walk_at "o"),rfl,q _ I.fresh⟩
end
end L2
namespace Att
open PySem PySem.W PySem.Calls PyProof.Rows
theorem Zz3 {P:Params} {h:Heap}:∀ (ns:List Int) (vs:List Value),WellAll P h vs (ns.map WData.int)→IntsAre vs ns:=by
 intro ns
 induction ns with
 | nil =>
  intro vs w;rw[List.map_nil] at w;cases w;exact .nil
 | cons n ns ih =>
  intro vs w;rw[List.map_cons] at w
  cases w with
  | cons a b =>
   cases a;exact .cons _ _ (ih _ b)
theorem Xd7 {l:OpenLaw} {n:Nat} (hn:l.most=some n) {P:Params} {h:Heap} {args:List WData} {vals:List Value}
  (hpre:l.row.toRowW.claim.pre args=true) (hwl:WellAll P h vals args) :
  ∃ a vs ns,vals=[Value.ref a]∧args=[WData.list (ns.map WData.int)]∧h.get? a=some { cls:=.type "list",data:=.seq vs.toArray }∧IntsAre vs ns∧ns.length≤n:=by
 have hsh:WShape.hasAll [] args [.list .int]=true:=(pre_splitW hpre).1;have hc:l.pre.holds [] { args:=args }=true:=(pre_splitW hpre).2;obtain⟨d,r,rfl,h1,h2⟩:=hasAllW_cons hsh;obtain rfl:=hasAllW_nil h2;obtain⟨xs,rfl,h3⟩:=hasW_list h1;obtain⟨ns,rfl⟩:=items_int h3
 have hlen:ns.length≤n:=by
  unfold OpenLaw.pre at hc
  have h4:(WTm.not (.lt (.lit (.int (n:Int))) (.len (.arg 0)))).holds [] { args:=[.list (ns.map .int)] }=true:=by
   have h4:=(holds_andW hc).1;rw[hn] at h4;exact h4
  have h5:=condW_of h4 (w_not (w_lt w_lit (w_len_list (w_arg rfl))));rw[List.length_map] at h5;refine Nat.le_of_not_lt fun q=>?_
  have q':(n:Int) < ((ns.length:Nat):Int):=by walk_at "o"
  first
   | (rw[decide_eq_true q'] at h5;exact absurd h5 (by decide))
   | (simp at h5;walk_at "o")
 cases hwl with
 | cons w1 w2 =>
  cases w2
  cases w1 with
  | list ho hall=>exact⟨_,_,ns,rfl,rfl,ho,Zz3 ns _ hall,hlen⟩
theorem Xe5 (l:OpenLaw) (args:List WData):l.row.toRowW.claim.post args (.bool true) args=true :=
 postW_of (r:=l.row.toRowW) (X:=(true == true))
  (show WShape.has [] (.bool true) .bool=true by first | rfl | decide | simp[WShape.has,WShape.arms,WShape.armsAll])
  (show (WTm.eq .res (.lit (.bool true))).value [] { args:=args,res:=some (.bool true),after:=args }=some (.bool (true == true)) from w_eq_bool (w_res rfl) w_lit) rfl
theorem attach_call {l:OpenLaw} {n:Nat} {q:Program} {loose:List Str} {XP:(Str→Option Value)→Heap→Prop} {YP:World→Heap→Prop} {d:DefRec}
  (hn:l.most=some n) (hdf:d.params.defaults=[])
  (call:∀ (w:World) (s₀ s₁:Shared) (mg mb:Str→Option Value) (fa:Addr) (o:Obj) (pm cd doc:Value) (a:Addr) (vs:List Value) (ns:List Int),
   Ground q loose [] XP w s₀ mg mb s₁.heap→YP w s₁.heap →
   s₁.heap.get? fa=some o→o.data=.func (docDef d.name d.params d.body d.scope pm cd doc)→s₁.heap.CodeRec cd d.name→mg d.name=some (.ref fa) →
   s₁.heap.get? a=some { cls:=.type "list",data:=.seq vs.toArray }→IntsAre vs ns→ns.length≤n→s₁.gens=#[] →
   codeAny (model l.prog w) callerA (.call (.ref fa) ⟨[.ref a],[]⟩) (fun r s'=>r=.ok (.ret (.bool true))∧OldK s₁.heap s'.heap∧s'.os=s₁.os∧AllBare s'.gens) s₁) :
  WalkO q loose XP YP l.row.toRowW d [] (fun f vs=>PySem.call f vs):=by
 intro w s₀ s₁ mg mb G Y fa o pm cd doc dV kV ho hd hcd hD hmg hg args vals as hpre hlay hrd hwl hlo;obtain rfl:dV=.none:=Dflts.none hD hdf;obtain rfl:kV=.none:=Dflts.noKw hD;obtain⟨a,vs,ns,rfl,rfl,hobj,hints,hlen⟩:=Xd7 hn hpre hwl;refine enter_call (codeAny_mono (call w s₀ s₁ mg mb fa o pm cd doc a vs ns G Y ho (fd_plain hd) hcd hmg hobj hints hlen hg) fun r s' hq=>?_);obtain⟨rfl,h2,h3,h4⟩:=hq;exact⟨.inl ⟨.bool true,.bool true,[],rfl,fun _=>rfl,.bool true,Xe5 l _,fun _=>⟨List.Pairwise.nil,fun _ hm=>(nomatch hm)⟩⟩,h2,h3,h4⟩
end Att
namespace L2
open PySem PySem.Spec PyProof.Rows
theorem Zw0:∀ {vs:List Value} {ns:List Int},IntsAre vs ns→Vals (ns.map V.int) vs
 | _,_,.nil=>.nil
 | _,_,.cons n t h=>.cons ⟨t,rfl⟩ (Zw0 h)
noncomputable def Xz5 (s:Stmt) (j:Nat):Stmt:=match s with
 | .ClassDef _ _ _ body _ _ _ _ _ _ _=>body.getD j (.Pass ⟨0,0,0,0⟩)
 | _=>.Pass ⟨0,0,0,0⟩
noncomputable def Zc5 (s:Stmt):Arguments:=match s with
 | .FunctionDef _ a _ _ _ _ _ _ _ _=>a
 | _=>{ posonlyargs:=[],args:=[],vararg:=none,kwonlyargs:=[],kw_defaults:=[],kwarg:=none,defaults:=[] }
noncomputable def Zc1 (s:Stmt):List Stmt:=match s with
 | .FunctionDef _ _ b _ _ _ _ _ _ _=>b
 | _=>[]
noncomputable def Za3 (s:Stmt):Scope:=match s with
 | .FunctionDef _ _ _ _ _ _ sc _ _ _=>sc
 | _=>{ kind:=.function,names:=[],isGenerator:=false,isCoroutine:=false }
noncomputable abbrev CX0:CXT:=fun _ _ _ _ _ _=>False
abbrev E0:XK:=fun _ _ _=>False
theorem Xp2 {X:Cx}:Yd1 CX0 X E0:=fun _ _ _ _ _ _ _ h=>h.elim
structure Fun (K:W.Frag) (x qual:Str) (st:Stmt) (f:Addr) (fd:FuncData):Prop where
 ex:∃ (oc:Value) (od:Option Addr) (kV doc pm:Value) (an:Option Addr) (cdv ct:Value) (osl:Array (Option Value)),
  fd=W.fnOf x qual (Zc5 st) (Zc1 st) (Za3 st) .none kV doc pm an cdv ct∧K.lookup f=some ⟨oc,od,.func fd,osl⟩∧W.codeIn K cdv qual=true
 kp:W.keepIn K (.ref f)=true
section
variable {P:Program} {w:World} {K:W.Frag} {mg:Str→Option Value} {base:Heap}
theorem Fun.ok {x qual:Str} {st:Stmt} {f:Addr} {fd:FuncData} {N ps:List Str} {k:Nat} {sp:Sp} (F:Fun K x qual st f fd) (S:FnScope N ps (Za3 st)) (len:∀ vs H Q E,sp vs H Q E→vs.length=ps.length)
  (hbody:∀ (cdv:Value) (A:Around) (outer:List Env) (s:Shared) (H:Hp) (vs:List V) (Q:VK) (E:XK),Room k (A.deeper (envOfC qual (Za3 st) s.heap.objs.size f cdv))→sp vs H Q E →
   ∃ t,PSs (cxOf CX0 P w K mg base N qual (Za3 st) f cdv A outer s H E).nox (Zc1 st) t∧t { nx:=fun _ H'=>Q .non H',rt:=Q } (start N vs) H):FnOk P w K mg base CX0 (k+1) f fd ps sp:=by
 obtain⟨oc,od,kV,doc,pm,an,cdv,ct,osl,rfl,lk,hcd⟩:=F.ex;refine fn_of lk hcd S len fun A outer s H vs Q E hr hsp=>?_;obtain⟨t,h,q⟩:=hbody cdv A outer s H vs Q E hr hsp;exact⟨t,h.nox,q⟩
theorem Fun.binds {x qual:Str} {st:Stmt} {f:Addr} {fd:FuncData} {ps:List Str} (F:Fun K x qual st f fd)
  (h:∀ (kV doc pm:Value) (an:Option Addr) (cdv ct:Value) (us:List Value),us.length=ps.length→bindArgs (W.fnOf x qual (Zc5 st) (Zc1 st) (Za3 st) .none kV doc pm an cdv ct) ⟨us,[]⟩=pure (ps.zip us)):Binds K fd ps []:=by
 obtain⟨oc,od,kV,doc,pm,an,cdv,ct,osl,rfl,lk,hcd⟩:=F.ex;exact .all (h kV doc pm an cdv ct)
theorem Xj3 {x qual:Str} {st:Stmt} {f:Addr} {oc:Value} {od an:Option Addr} {osl:Array (Option Value)} {kV doc pm cdv ct:Value} (l:K.lookup f=some ⟨oc,od,.func (W.fnOf x qual (Zc5 st) (Zc1 st) (Za3 st) .none kV doc pm an cdv ct),osl⟩)
  (c:W.codeIn K cdv qual=true) (k:W.keepIn K (.ref f)=true):Fun K x qual st f (W.fnOf x qual (Zc5 st) (Zc1 st) (Za3 st) .none kV doc pm an cdv ct):=⟨⟨oc,od,kV,doc,pm,an,cdv,ct,osl,rfl,l,c⟩,k⟩
end
theorem Wj2 {A:Around} {k:Nat} (hr:Room k A):A.units+1 < cLine:=Nat.lt_of_le_of_lt (Nat.add_le_add_left (by decide:1≤64) _) hr.units
theorem Zf1 {n:Nat} (h:n≤1000):n < sizeLine:=Nat.lt_of_le_of_lt h (by decide)
section
variable {X:Cx}
theorem pv (i:Nat) {x:Str} {pos:Pos} (hN:X.N[i]?=some x:=by rfl) (hv:Vis X.env.scope x:=by first | exact Or.inl rfl | exact Or.inr (Or.inl rfl) | exact Or.inr (Or.inr rfl)) (hd:(x == ("__debug__":Str))=false:=by decide)
  (hcd:(x == ("__classdict__":Str))=false:=by decide):PE X (.Name x pos) (tVar i):=Xf1 hN hv hd hcd
end
theorem ite2 {c A B:Prop} [Decidable c] (h1:c→A) (h2:¬ c→B):if c then A else B:=by
 by_cases h:c
 ·rw[if_pos h]
  exact h1 h
 ·rw[if_neg h]
  exact h2 h
def Same (H H':Hp):Prop:=∀ b o,H b=some o→H' b=some o
theorem Same.refl (H:Hp):Same H H:=fun _ _ h=>h
theorem Same.trans {H H1 H2:Hp} (a:Same H H1) (b:Same H1 H2):Same H H2:=fun c o h=>b c o (a c o h)
theorem Same.free {H H':Hp} (e:Same H H') {l:Addr} (h:H' l=Option.none):H l=Option.none:=by
 cases q:H l with
 | none=>rfl
 | some o =>
  rw[e l o q] at h;cases h
theorem Same.seq {K:W.Frag} {H H':Hp} {a:Addr} {xs:List V} (e:Same H H') (h:SqL K H a xs):SqL K H' a xs:=by
 rcases h with (h | ⟨o,h⟩) | h
 ·exact .inl (.inl (e _ _ h))
 ·exact .inl (.inr ⟨o,e _ _ h⟩)
 ·exact .inr h
section
variable {κ:Type} [DecidableEq κ]
noncomputable def valV (kvs:List (κ×V)) (k:κ):Option V:=(kvs.find? fun kv=>decide (kv.1=k)).map (·.2)
noncomputable def putK (kvs:List (κ×V)) (k:κ) (v:V):List (κ×V) :=
 if (kvs.any fun kv=>decide (kv.1=k))=true then kvs.map (fun kv=>if kv.1=k then (kv.1,v) else kv) else kvs++[(k,v)]
theorem Zg9 {p:κ×V} {r:List (κ×V)} {k:κ} (e:p.1=k):valV (p :: r) k=some p.2:=by simp[valV,List.find?_cons,e]
theorem Zh0 {p:κ×V} {r:List (κ×V)} {k:κ} (e:¬ p.1=k):valV (p :: r) k=valV r k:=by simp[valV,List.find?_cons,e]
theorem Zv3 (k:κ):∀ kvs:List (κ×V),(kvs.any fun kv=>decide (kv.1=k))=(valV kvs k).isSome
 | []=>rfl
 | p :: r=>by
  rw[List.any_cons]
  by_cases e:p.1=k
  ·simp only[Zg9 e,decide_eq_true e,Bool.true_or,Option.isSome_some]
  ·rw[Zh0 e,decide_eq_false e,Bool.false_or];exact Zv3 k r
theorem Ys3 (k j:κ) (y:V):∀ kvs:List (κ×V),valV (kvs.map fun kv=>if kv.1=k then (kv.1,y) else kv) j=(valV kvs j).map fun x=>if j=k then y else x
 | []=>rfl
 | p :: r=>by
  have ih:=Ys3 k j y r;rw[List.map_cons]
  by_cases h:p.1=k
  ·rw[if_pos h]
   by_cases e:p.1=j
   ·rw[Zg9 (p:=(p.1,y)) e,Zg9 e,Option.map_some,if_pos (e.symm.trans h)]
   ·rw[Zh0 (p:=(p.1,y)) e,Zh0 e,ih]
  ·rw[if_neg h]
   by_cases e:p.1=j
   ·rw[Zg9 (p:=p) e,Zg9 e,Option.map_some,if_neg (fun z=>h (e.trans z))]
   ·rw[Zh0 (p:=p) e,Zh0 e,ih]
theorem Yh2 (k j:κ) (y:V):∀ kvs:List (κ×V),valV kvs k=none→valV (kvs++[(k,y)]) j=if j=k then some y else valV kvs j
 | [],_=>by
  by_cases e:k=j
  ·rw[if_pos e.symm];exact Zg9 (p:=(k,y)) e
  ·rw[if_neg (fun z=>e z.symm)];exact Zh0 (p:=(k,y)) e
 | p :: r,hn=>by
  rw[List.cons_append]
  have hk:¬ p.1=k:=fun z=>by rw[Zg9 z] at hn;cases hn
  rw[Zh0 hk] at hn;have ih:=Yh2 k j y r hn
  by_cases e:p.1=j
  ·rw[Zg9 e,Zg9 e,if_neg (fun z=>hk (e.trans z))]
  ·rw[Zh0 e,Zh0 e,ih]
theorem Xn0 (kvs:List (κ×V)) (k j:κ) (y:V):valV (putK kvs k y) j=if j=k then some y else valV kvs j:=by
 unfold putK
 by_cases a:(kvs.any fun kv=>decide (kv.1=k))=true
 ·rw[if_pos a,Ys3]
  rw[Zv3] at a
  by_cases e:j=k
  ·obtain⟨x,hx⟩:=Option.isSome_iff_exists.mp a
   rw[if_pos e,e,hx,Option.map_some,if_pos rfl]
  ·rw[if_neg e]
   cases valV kvs j with
   | none=>rfl
   | some x=>rw[Option.map_some,if_neg e]
 ·rw[if_neg a]
  refine Yh2 k j y kvs ?_;rw[Zv3] at a
  cases q:valV kvs k with
  | none=>rfl
  | some x=>rw[q] at a;exact (a rfl).elim
theorem Zo7 (kvs:List (κ×V)) (k:κ) (v:V):(putK kvs k v).length≤kvs.length+1:=by
 unfold putK
 split
 ·rw[List.length_map];walk_at "o"
 ·rw[List.length_append,List.length_cons,List.length_nil];walk_at "o"
theorem RelO.isSome_eq {o:Option V} {u:Option Value} (r:RelO o u):o.isSome=u.isSome:=by
 cases o with
 | none=>cases u with
  | none=>rfl
  | some _=>exact (show False from r).elim
 | some _=>cases u with
  | none=>exact (show False from r).elim
  | some _=>rfl
theorem KV.val {kvs:List (κ×V)} {vs:List (κ×Value)} (r:KV kvs vs) (k:κ):RelO (valV kvs k) (valueAt vs k):=by
 unfold KV at r
 induction r with
 | nil=>exact True.intro
 | @cons p q ps qs h t ih =>
  obtain⟨h1,h2⟩:=h
  by_cases e:p.1=k
  ·have e':q.1=k:=h1.symm.trans e
   have b:valueAt (q :: qs) k=some q.2:=by simp[valueAt,List.find?_cons,e']
   rw[Zg9 e,b];exact h2
  ·have e':¬ q.1=k:=fun z=>e (h1.trans z)
   have b:valueAt (q :: qs) k=valueAt qs k:=by simp[valueAt,List.find?_cons,e']
   rw[Zh0 e,b];exact ih
theorem KV.any {kvs:List (κ×V)} {vs:List (κ×Value)} (r:KV kvs vs) (k:κ):(kvs.any fun kv=>decide (kv.1=k))=vs.any fun kv=>decide (kv.1=k):=by
 unfold KV at r
 induction r with
 | nil=>rfl
 | cons h t ih=>rw[List.any_cons,List.any_cons,ih,h.1]
theorem KV.repl {kvs:List (κ×V)} {vs:List (κ×Value)} (r:KV kvs vs) (k:κ) {y:V} {u:Value} (ry:RelV y u) :
  KV (kvs.map fun kv=>if kv.1=k then (kv.1,y) else kv) (vs.map fun kv=>if kv.1=k then (kv.1,u) else kv):=by
 unfold KV at r ⊢
 induction r with
 | nil=>exact .nil
 | @cons p q ps qs h t ih =>
  rw[List.map_cons,List.map_cons];refine .cons ?_ ih;obtain⟨h1,h2⟩:=h
  by_cases e:p.1=k
  ·rw[if_pos e,if_pos (h1.symm.trans e)];exact⟨h1,ry⟩
  ·rw[if_neg e,if_neg (fun z=>e (h1.trans z))];exact⟨h1,h2⟩
theorem KV.put {kvs:List (κ×V)} {vs:List (κ×Value)} (r:KV kvs vs) (k:κ) {y:V} {u:Value} (ry:RelV y u):KV (putK kvs k y) (stored vs k u):=by
 unfold putK stored;rw[r.any k]
 by_cases e:(vs.any fun kv=>decide (kv.1=k))=true
 ·rw[if_pos e,if_pos e];exact r.repl k ry
 ·rw[if_neg e,if_neg e];exact Paired.snoc r ⟨rfl,ry⟩
theorem KV.length {kvs:List (κ×V)} {vs:List (κ×Value)} (r:KV kvs vs):kvs.length=vs.length:=Paired.length r
end
theorem Xh5 {P:Program} {w:World} {k:Key} {u:Value} (r:RelV (kV k) u):(Ze4 P w).is k u=true:=by
 cases k with
 | inl i=>obtain⟨t,e⟩:=(show ∃ t,u=Value.int i t from r);subst e;exact Yp4 P w i t
 | inr x=>obtain⟨t,e⟩:=(show ∃ t,u=Value.str x t from r);subst e;exact Zz0 P w x t
theorem Yk4 {P:Program} {w:World}:∀ {ks:List Key} {us:List Value},Vals (ks.map kV) us→ItemsAre (Ze4 P w) ks us
 | [],_,r=>by rw[List.map_nil] at r;cases r;exact .nil
 | k :: ks,_,r=>by
  rw[List.map_cons] at r
  cases r with
  | cons h t=>exact .cons (Xh5 h) (Yk4 t)
abbrev KT (H:Hp):List (List Key×V)→List (List Key×Addr×Value)→Prop:=Paired fun p q=>p.1=q.1∧H q.2.1=some (.tup (p.1.map kV))∧RelV p.2 q.2.2
theorem KT.val {H:Hp} {kvs:List (List Key×V)} {xs:List (List Key×Addr×Value)} (r:KT H kvs xs) (k:List Key):RelO (valV kvs k) ((atKey xs k).map (·.2)):=by
 induction r with
 | nil=>exact True.intro
 | @cons p q ps qs h t ih =>
  obtain⟨h1,_,h2⟩:=h
  by_cases e:p.1=k
  ·have e':q.1=k:=h1.symm.trans e
   have b:atKey (q :: qs) k=some q.2:=by simp[atKey,List.find?_cons,e']
   rw[Zg9 e,b];exact h2
  ·have e':¬ q.1=k:=fun z=>e (h1.trans z)
   have b:atKey (q :: qs) k=atKey qs k:=by simp[atKey,List.find?_cons,e']
   rw[Zh0 e,b];exact ih
theorem KT.repl {H:Hp} {kvs:List (List Key×V)} {xs:List (List Key×Addr×Value)} (r:KT H kvs xs) (k:List Key) {y:V} {u:Value} (ry:RelV y u) :
  KT H (kvs.map fun kv=>if kv.1=k then (kv.1,y) else kv) (xs.map (putAt k u)):=by
 induction r with
 | nil=>exact .nil
 | @cons p q ps qs h t ih =>
  rw[List.map_cons,List.map_cons];refine .cons ?_ ih;obtain⟨h1,h2,h3⟩:=h;unfold putAt
  by_cases e:p.1=k
  ·rw[if_pos e,if_pos (h1.symm.trans e)];exact⟨h1,h2,ry⟩
  ·rw[if_neg e,if_neg (fun z=>e (h1.trans z))];exact⟨h1,h2,h3⟩
theorem KT.put {H:Hp} {kvs:List (List Key×V)} {xs:List (List Key×Addr×Value)} (r:KT H kvs xs) (k:List Key) {b:Addr} {y:V} {u:Value} (hb:H b=some (.tup (k.map kV))) (ry:RelV y u) :
  KT H (putK kvs k y) (storedH xs k b u):=by
 have e:(kvs.any fun kv=>decide (kv.1=k))=(atKey xs k).isSome:=by
  rw[Zv3,(r.val k).isSome_eq,Option.isSome_map]
 unfold putK storedH;rw[e]
 by_cases q:(atKey xs k).isSome=true
 ·rw[if_pos q,if_pos q];exact r.repl k ry
 ·rw[if_neg q,if_neg q];exact Paired.snoc r ⟨rfl,hb,ry⟩
theorem KT.keeps {H H':Hp} {kvs:List (List Key×V)} {xs:List (List Key×Addr×Value)} (r:KT H kvs xs) (ht:∀ b ys,H b=some (.tup ys)→H' b=some (.tup ys)):KT H' kvs xs :=
 Paired.mapP r fun _ _ z=>⟨z.1,ht _ _ z.2.1,z.2.2⟩
section
variable {P:Program} {w:World} {H:Hp} {h:Heap} {a:Addr}
theorem Wd5 {u:HO} (ok:HOk P w H h) (e:Rd H a u):ObjOk P w H h a u:=e.ok ok
theorem Wa1 {kvs:List (Key×V)} (ok:HOk P w H h) (e:Rd H a (.dK kvs)):kvs.length≤sizeLine∧(a == sysModules)=false∧∃ vs,KV kvs vs∧h.DictOf (Ze4 P w) a vs :=
 show ObjOk P w H h a (.dK kvs) from Wd5 ok e
theorem Wm9 {kvs:List (Key×V)} (ok:HOk P w H h) (e:H a=some (.dK kvs)):kvs.length≤sizeLine∧(a == sysModules)=false∧∃ vs,KV kvs vs∧h.DictOf (Ze4 P w) a vs:=Wa1 ok (.inl e)
theorem Xh2 {ks:List Key} (ok:HOk P w H h) (e:H a=some (.tup (ks.map kV))):(tupleKind (Ze4 P w)).is h ks a:=by
 obtain⟨_,its,r,o,h1,h2,n,h3⟩:=(show ObjOk P w H h a (.tup (ks.map kV)) from ok a _ e);exact⟨o,its.toArray,n,h1,h2,h3,by simpa using Yk4 r⟩
theorem Wa0 {kvs:List (List Key×V)} (ok:HOk P w H h) (e:Rd H a (.dT kvs)):kvs.length≤sizeLine∧(a == sysModules)=false ∧
  ∃ xs,KT H kvs xs∧h.DictOfH (tupleKind (Ze4 P w)) a xs:=by
 obtain⟨z,y,xs,r,o,es,ep,h1,h2,h3,h4,h5⟩:=(show ObjOk P w H h a (.dT kvs) from Wd5 ok e);refine⟨z,y,xs,r,o,es,ep,h1,h2,h3,h4,fun x hx=>?_,h5⟩
 have all:∀ {l:List (List Key×V)} {m:List (List Key×Addr×Value)},KT H l m→∀ x∈m,(tupleKind (Ze4 P w)).is h x.1 x.2.1:=by
  intro l m q
  induction q with
  | nil=>intro x hx;exact nomatch hx
  | @cons p q ps qs hq t ih =>
   intro x hx;rcases List.mem_cons.mp hx with e | hx
   ·subst e
    exact Xh2 ok (by rw[← hq.1];exact hq.2.1)
   ·exact ih x hx
 exact all r x hx
theorem Wm8 {kvs:List (List Key×V)} (ok:HOk P w H h) (e:H a=some (.dT kvs)):kvs.length≤sizeLine∧(a == sysModules)=false ∧
  ∃ xs,KT H kvs xs∧h.DictOfH (tupleKind (Ze4 P w)) a xs:=Wa0 ok (.inl e)
end
def DGet (H:Hp) (a:Addr) (y:V) (r:Option V):Prop :=
 (∃ kvs k,Rd H a (.dK kvs)∧y=kV k∧r=valV kvs k)∨∃ kvs k b,Rd H a (.dT kvs)∧y=.ref b∧H b=some (.tup (k.map kV))∧r=valV kvs k
def DPut (H:Hp) (a:Addr) (y v:V) (H':Hp):Prop :=
 (∃ kvs k,H a=some (.dK kvs)∧y=kV k∧kvs.length < sizeLine∧H'=upd H a (.dK (putK kvs k v))) ∨
 ∃ kvs k b,H a=some (.dT kvs)∧y=.ref b∧H b=some (.tup (k.map kV))∧kvs.length < sizeLine∧H'=upd H a (.dT (putK kvs k v))
theorem DGet.k {H:Hp} {a:Addr} {kvs:List (Key×V)} {k:Key} (e:H a=some (.dK kvs)):DGet H a (kV k) (valV kvs k):=.inl ⟨kvs,k,.inl e,rfl,rfl⟩
theorem DPut.k {H:Hp} {a:Addr} {kvs:List (Key×V)} {k:Key} {v:V} (e:H a=some (.dK kvs)) (hl:kvs.length < sizeLine):DPut H a (kV k) v (upd H a (.dK (putK kvs k v))):=.inl ⟨kvs,k,e,rfl,hl,rfl⟩
section
variable {X:Cx} {pins:List (Addr×Obj)} {σ:St} {H:Hp} {s:Shared} {a:Addr} {y v:V} {u r:Value} {o:Option V} {A:Around} {E:Value→Shared→Prop}
theorem Inv.big (I:Inv X pins σ H s):sysModules < s.heap.objs.size:=by
 have h:mainGlobals < s.heap.objs.size:=(I.mod.glob.keeps I.bk).lt;exact Nat.lt_trans (by decide) h
theorem Xk6 {Q:Value→Shared→Prop} (hu:A.units+1 < cLine) (I:Inv X pins σ H s) (g:DGet H a y (some v)) (ry:RelV y u) (h:∀ w' s',Inv X pins σ H s'→RelV v w'→Q w' s') :
  wpAny (model X.prog X.w) A (getItem (.ref a) u) Q E s:=by
 rcases g with ⟨kvs,k,e,ey,l⟩ | ⟨kvs,k,b,e,ey,eb,l⟩
 ·subst ey
  obtain⟨z,hd,vs,rel,dd⟩:=Wa1 I.hok e;obtain⟨w',hw,rw'⟩:=RelO.some_of (v:=v) (o:=valueAt vs k) (by rw[l];exact rel.val k);exact wpAny_getItem_of (Xh5 ry) dd.mapOf hw (h w' _ (I.tok _) rw')
 ·subst ey
  cases (show u=Value.ref b from ry);obtain⟨z,hd,xs,rel,dd⟩:=Wa0 I.hok e;obtain⟨w',hw,rw'⟩:=RelO.some_of (v:=v) (o:=(atKey xs k).map (·.2)) (by rw[l];exact rel.val k);obtain⟨p,hp,hp2⟩:=Option.map_eq_some_iff.mp hw;refine wpAny_getItem_heap (tupleKind_room_in1 hu) (Xh2 I.hok eb) dd hp ?_;rw[hp2];exact h w' _ (I.tok _) rw'
theorem Xk5 {h':Heap} {t':Nat} {ob:HO} (I:Inv X pins σ H s) (mu:Mut (H a)) (hs:Heap.SameBut a s.heap h') (he:∃ q,h'.get? a=some q) (new:ObjOk X.prog X.w (upd H a ob) h' a ob) :
  Inv X pins σ (upd H a ob) { s with heap:=h',toks:=t' } :=
 I.write (x:=a) (e:=a) mu (.inl rfl) (fun b q hb z=>(hs.2 b hb).trans z) he new
theorem Wj7 {P:Program} {w:World} {H':Hp} {h':Heap} {kvs:List (Key×V)} {vs:List (Key×Value)} (z:kvs.length≤sizeLine) (hd:(a == sysModules)=false) (rel:KV kvs vs) (dd:h'.DictOf (Ze4 P w) a vs) :
  ObjOk P w H' h' a (.dK kvs):=⟨z,hd,vs,rel,dd⟩
end
def NoSl (i:Expr):Prop:=∀ ov iv,subscripted i false ov iv=operate [ov,iv] (getItem ov iv)
theorem Xc8 {prog:Program} {w:World} {A:Around} {E:Value→Shared→Prop} {s:Shared} {env:Env} {value slice:Expr} {pos:Pos} {T id:String} {Q:Value→Shared→Prop}
  (hl:typeLookup (.type T) "__getitem__"=pure (some (.builtin id))) (hs:NoSl slice)
  (h:wpAny (model prog w) A (eval value env) (fun o s₁=>wpAny (model prog w) A (eval slice env) (fun i s₂=>s₂.TypeIs o T∧wpAny (model prog w) A (getItem o i) Q E s₂) E s₁) E s) :
  wpAny (model prog w) A (eval (.Subscript value slice pos) env) Q E s:=by
 refine Subscript_ (wpAny_mono h (fun o s₁ h₁=>wpAny_mono h₁ (fun i s₂ h₂=>?_) fun _ _ x=>x) fun _ _ x=>x);obtain⟨hT,h₂⟩:=h₂;unfold subscriptTail;refine wpAny_bind ?_;rw[getitemInPython_of_ne hT.not_modules];refine wpAny_bind (wpAny_specialOf hT hl ?_)
 have fin:wpAny (model prog w) A (subscripted slice false o i) (fun r s₃=>wpAny (model prog w) A (letTemporaryGo value o r >>= fun _=>pure r) Q E s₃) E s₂:=by
  rw[hs o i];exact wpAny_operating (wpAny_mono h₂ (fun r s₃ h₃=>wpAny_bind (wpAny_letTemporaryGo (wpAny_pure h₃))) fun _ _ x=>x)
 first
  | exact wpAny_pure (wpAny_bind fin)
  | exact wpAny_bind (wpAny_pure (wpAny_bind fin))
  | exact wpAny_bind fin
theorem Yr4 {X:Cx} {pins:List (Addr×Obj)} {σ:St} {H:Hp} {s:Shared} {a:Addr} {y:V} {o:Option V} (I:Inv X pins σ H s) (g:DGet H a y o):s.TypeIs (.ref a) "dict":=by
 rcases g with ⟨kvs,k,e,_,_⟩ | ⟨kvs,k,b,e,_,_,_⟩
 ·obtain⟨_,_,vs,_,dd⟩:=Wa1 I.hok e
  exact dd.typeIs
 ·obtain⟨_,_,xs,_,dd⟩:=Wa0 I.hok e
  exact dd.typeIs
def Yn2 (td ty:TE):TE:=fun σ H Q=>td σ H fun x H1=>ty σ H1 fun y H2=>∃ a v,x=.ref a∧DGet H2 a y (some v)∧Q v H2
section
variable {X:Cx} {o i e value:Expr} {pos pos' tpos:Pos} {td ty tv:TE}
theorem Xw9 (hu:X.A.units+1 < cLine) (ho:PE X o td) (hi:PE X i ty) (hs:NoSl i):PE X (.Subscript o i pos) (Yn2 td ty):=by with_unfolding_all
 intro pins s σ H Q I h;refine Xc8 PySem.F.slot_dict_getitem.lookup hs (thn (ho pins s σ H _ I h) fun u s1 ⟨x,H1,I1,rx,q1⟩=>thn (hi pins s1 σ H1 _ I1 q1) fun iv s2 zq=>?_);obtain⟨y,H2,I2,ry,a,v,ex,g,q2⟩:=zq;subst ex;obtain rfl:u=Value.ref a:=rx;exact⟨Yr4 I2 g,Xk6 hu I2 g ry fun w' s3 I3 rw'=>⟨v,H2,I3,rw',q2⟩⟩
end
end L2
set_option maxHeartbeats 4000000
namespace L2
open PySem PySem.Spec PyProof.Rows
section
variable {X:Cx}
inductive TyX (K:W.Frag) (H:Hp):V→Value→Prop where
 | of {x:V} {t:Value} (h:TyOf K H x t):TyX K H x t
 | tupK {a:Addr} {xs:List V} (h:SqT K H a xs):TyX K H (.ref a) (.type "tuple")
 | lstK {a:Addr} {xs:List V} (h:SqL K H a xs):TyX K H (.ref a) (.type "list")
def rIsi (K:W.Frag):List V→Hp→VK→Prop:=fun xs H Q=>∃ x T t b,xs=[x,.ty T]∧TyX K H x t∧W.kitOne K t (.type T)=some b∧Q (.bl b) H
theorem Zv9:Yh1 X (.builtin "isinstance") (rIsi X.K):=by
 intro pins s σ H xs us Q I r h;obtain⟨x,T,t,b,rfl,ty,e,q⟩:=h;obtain⟨u,c,rfl,rx,rc⟩:=Xu9 r;cases (show c=Value.type T from rc)
 cases ty with
 | of h=>exact Xh9 I rx h e fun tk=>⟨.bl b,H,I.tok tk,rfl,q⟩
 | @tupK a xs h =>
  cases (show u=Value.ref a from rx);obtain⟨its,_,⟨o,h1,h2,_⟩,_⟩:=I.tuple h;exact W.kia_one W.kitx_tuple I.kIn ⟨o,h1,h2⟩ e (fun z=>nomatch z) fun tk=>⟨.bl b,H,I.tok tk,rfl,q⟩
 | @lstK a xs h =>
  cases (show u=Value.ref a from rx);obtain⟨its,_,⟨o,n,h1,h2,_⟩,_⟩:=I.list h;exact W.kia_one W.kitx_list I.kIn ⟨o,h1,h2⟩ e (fun z=>nomatch z) fun tk=>⟨.bl b,H,I.tok tk,rfl,q⟩
theorem Yg0 (K:W.Frag) (T:String):W.kitOne K (.type T) (.type T)=some true:=by
 unfold W.kitOne;rw[if_pos (beq_self_eq_true _)]
def Yo5:R2:=fun x y H Q=>∃ z n,x=.str z∧y=.int n∧z.length≤1000∧-1000≤n∧n≤1000∧Q (.str (Txt.mul z n)) H
theorem Yp3 {z:Str} {n:Int} (h1:z.length≤1000) (h2:-1000≤n) (h3:n≤1000):MulOk z n:=by
 refine⟨?_,fun h4 h5=>?_,fun h4 h5=>?_⟩
 ·have a:¬ n < -(2 ^ 63:Int):=by walk_at "o"
  have b:¬ n ≥ 2 ^ 63:=by walk_at "o"
  rw[decide_eq_false a,decide_eq_false b];rfl
 ·have:(1000:Int)≤(2 ^ 63 - 1) / n:=by
   rw[Int.le_ediv_iff_mul_le (by walk_at "o")];walk_at "o"
  walk_at "o"
 ·have:z.length*n.toNat≤1000*1000:=Nat.mul_le_mul h1 (by walk_at "o")
  unfold Builtin.Str.tooLong;rw[decide_eq_false];have e:=sizeLine_eq
  first | walk_at "o" | (simp at *;walk_at "o")
theorem Yp2:OpR X (binaryOp .Mult) Yo5:=by
 intro pins s σ H x y v u Q I rx ry h;obtain⟨z,n,rfl,rfl,h1,h2,h3,q⟩:=h;obtain⟨t,rfl⟩:=rx;obtain⟨t',rfl⟩:=ry;exact SB.mul (Yp3 h1 h2 h3) fun t' k=>⟨.str _,H,I.tok k,⟨_,rfl⟩,q⟩
noncomputable abbrev TF:=Str→St→Hp→VK→Prop
def PF (X:Cx) (es:List Expr) (t:TF):Prop :=
 ∀ (out:Str) (pins:List (Addr×Obj)) (s:Shared) (σ:St) (H:Hp) (Q:VK),Inv X pins σ H s→t out σ H Q→wpAny (model X.prog X.w) X.A (joinParts out (evalEach es X.env)) (EP X pins σ Q) X.xe s
def tF0:TF:=fun out _ H Q=>out.length≤sizeLine∧Q (.str out) H
def tFc (x:Str) (t:TF):TF:=fun out σ H Q=>(out++x).length≤sizeLine∧t (out++x) σ H Q
theorem Xs2:PF X [] tF0:=fun out pins s σ H Q I h=>joinParts_nil ⟨.str out,H,I.tok _,⟨_,rfl⟩,h.2⟩ h.1
theorem Yu4 {x:Str} {j:Nat} {pos:Pos} {es:List Expr} {t:TF} (h:PF X es t) (hs:evalEach (.Constant (.str x) j pos :: es) X.env=eval (.Constant (.str x) j pos) X.env :: evalEach es X.env:=by rfl):PF X (.Constant (.str x) j pos :: es) (tFc x t):=by
 intro out pins s σ H Q I hw;rw[hs];refine joinParts_cons (Calls.Constant_str ?_);exact⟨hw.1,h _ pins _ σ H Q (I.tok _) hw.2⟩
def tFs (t:TF):TE:=fun σ H Q=>t Str.empty σ H Q
theorem Xf2 {e1 e2:Expr} {es:List Expr} {t:TF} {pos:Pos} (h:PF X (e1 :: e2 :: es) t) (hs:evalEach (e1 :: e2 :: es) X.env=eval e1 X.env :: eval e2 X.env :: evalEach es X.env:=by rfl):PE X (.JoinedStr (e1 :: e2 :: es) pos) (tFs t):=by with_unfolding_all
 intro pins s σ H Q I hw;refine JoinedStr_many ?_;rw[← hs];exact h _ pins s σ H Q I hw
end
mutual
def Dn (K:W.Frag) (H:Hp):V→PyData→Prop
 | v,.none=>v=.non
 | v,.bool b=>v=.bl b
 | v,.int i=>v=.int i
 | v,.str x=>v=.str x
 | v,.list ds=>∃ a xs,v=.ref a∧SqL K H a xs∧DnAll K H xs ds
 | v,.tuple ds=>∃ a xs,v=.ref a∧SqT K H a xs∧DnAll K H xs ds
 | _,.dict _=>False
def DnAll (K:W.Frag) (H:Hp):List V→List PyData→Prop
 | xs,[]=>xs=[]
 | xs,d :: ds=>∃ x r,xs=x :: r∧Dn K H x d∧DnAll K H r ds
end
theorem DnAll.length {K:W.Frag} {H:Hp}:∀ {xs:List V} {ds:List PyData},DnAll K H xs ds→xs.length=ds.length
 | xs,[],h=>by rw[DnAll] at h;rw[h];rfl
 | xs,d :: ds,h=>by
  rw[DnAll] at h;obtain⟨x,r,rfl,_,h⟩:=h;simp[DnAll.length h]
def KeepT (K:W.Frag) (H H':Hp):Prop:=∀ a xs,SqT K H a xs→SqT K H' a xs
mutual
noncomputable def noList:PyData→Bool
 | .list _=>false
 | .tuple ds=>noLists ds
 | .dict _=>false
 | _=>true
noncomputable def noLists:List PyData→Bool
 | []=>true
 | d :: ds=>noList d&&noLists ds
end
mutual
theorem Dn.keepT {K:W.Frag} {H H':Hp} (k:KeepT K H H'):∀ {d:PyData} {v:V},noList d=true→Dn K H v d→Dn K H' v d
 | .none,v,_,h=>by rw[Dn] at h ⊢;exact h
 | .bool _,v,_,h=>by rw[Dn] at h ⊢;exact h
 | .int _,v,_,h=>by rw[Dn] at h ⊢;exact h
 | .str _,v,_,h=>by rw[Dn] at h ⊢;exact h
 | .list _,v,n,h=>by rw[noList] at n;cases n
 | .dict _,v,n,h=>by rw[noList] at n;cases n
 | .tuple ds,v,n,h=>by
  rw[Dn] at h ⊢;rw[noList] at n;obtain⟨a,xs,e,hs,hd⟩:=h;exact⟨a,xs,e,k a xs hs,DnAll.keepT k n hd⟩
theorem DnAll.keepT {K:W.Frag} {H H':Hp} (k:KeepT K H H'):∀ {ds:List PyData} {xs:List V},noLists ds=true→DnAll K H xs ds→DnAll K H' xs ds
 | [],xs,_,h=>by rw[DnAll] at h ⊢;exact h
 | d :: ds,xs,n,h=>by
  rw[DnAll] at h ⊢;rw[noLists,Bool.and_eq_true] at n;obtain⟨x,r,e,h1,h2⟩:=h;exact⟨x,r,e,Dn.keepT k n.1 h1,DnAll.keepT k n.2 h2⟩
end
section
variable {X:Cx} {pins:List (Addr×Obj)} {σ:St} {H:Hp} {s:Shared}
mutual
theorem Dn.reads (I:Inv X pins σ H s):∀ {d:PyData} {v:V} {u:Value},Dn X.K H v d→RelV v u→∃ as,Reads s.heap u d as
 | .none,v,u,h,r=>by rw[Dn] at h;subst h;cases (show u=Value.none from r);exact⟨_,.none⟩
 | .bool b,v,u,h,r=>by rw[Dn] at h;subst h;cases (show u=Value.bool b from r);exact⟨_,.bool b⟩
 | .int i,v,u,h,r=>by rw[Dn] at h;subst h;obtain⟨t,rfl⟩:=r;exact⟨_,.int i t⟩
 | .str x,v,u,h,r=>by rw[Dn] at h;subst h;obtain⟨t,rfl⟩:=r;exact⟨_,.str x t⟩
 | .dict _,v,u,h,r=>by rw[Dn] at h;exact h.elim
 | .list ds,v,u,h,r=>by
  rw[Dn] at h;obtain⟨a,xs,rfl,hs,hd⟩:=h;cases (show u=Value.ref a from r);obtain⟨its,rv,⟨o,n,h1,h2,_,h3⟩,_⟩:=I.list hs;obtain⟨as,q⟩:=DnAll.reads I hd rv;exact⟨_,.list h1 h2 h3 (by simpa using q)⟩
 | .tuple ds,v,u,h,r=>by
  rw[Dn] at h;obtain⟨a,xs,rfl,hs,hd⟩:=h;cases (show u=Value.ref a from r);obtain⟨its,rv,⟨o,h1,h2,n,h3⟩,_⟩:=I.tuple hs;obtain⟨as,q⟩:=DnAll.reads I hd rv;exact⟨_,.tuple h1 h2 h3 (by simpa using q)⟩
theorem DnAll.reads (I:Inv X pins σ H s):∀ {ds:List PyData} {xs:List V} {us:List Value},DnAll X.K H xs ds→Vals xs us→∃ as,ReadsAll s.heap us ds as
 | [],xs,us,h,r=>by rw[DnAll] at h;subst h;cases r;exact⟨_,.nil⟩
 | d :: ds,xs,us,h,r=>by
  rw[DnAll] at h;obtain⟨x,r',rfl,h1,h2⟩:=h
  cases r with
  | cons r1 r2 =>
   obtain⟨as,q1⟩:=Dn.reads I h1 r1;obtain⟨bs,q2⟩:=DnAll.reads I h2 r2;exact⟨_,.cons q1 q2⟩
end
end
section
variable {X:Cx}
def rEqD (K:W.Frag) (neg:Bool):R2:=fun x y H Q=>∃ d e,Dn K H x d∧Dn K H y e∧d.canLay0=true∧e.canLay0=true∧min d.depth e.depth≤150∧Q (.bl (if neg then !PyData.eqv d e else PyData.eqv d e)) H
theorem Xf6 (hu:X.A.units+150 < cLine):OpR X (compareOp .Eq) (rEqD X.K false):=by
 intro pins s σ H x y v u Q I rx ry h;obtain⟨d,e,h1,h2,l1,l2,hz,q⟩:=h;obtain⟨as,r1⟩:=h1.reads I rx;obtain⟨bs,r2⟩:=h2.reads I ry;exact W.cmp_ofEq (SeqAt.rcAt_reads r1 r2 l1 l2 (by walk_at "o") _ _ _ _ ⟨.bl _,H,I,rfl,q⟩)
end
theorem Xi6 {A:Around} {k:Nat} (hr:Room k A):A.units+150 < cLine:=by have:=hr.un;walk_at "o"
noncomputable def blk (X:Cx) (N':List Str) (scope:Scope) (cl:List (Str×Addr)) (s:Shared) (H:Hp) (C:Addr) (ex:List Addr):Cx where
 prog:=X.prog
 w:=X.w
 K:=X.K
 mg:=X.mg
 base:=X.base
 A:=X.A
 N:=N'
 s₀:=s
 H₀:=H
 env:=compEnvC scope cl C X.env
 outer:=X.stack
 stack:=X.stack
 ex:=ex
 fn:=fun _=>false
 calm:=X.calm
 pn:=[]
 xe:=fun _ _=>False
structure BlkOk (X:Cx) (scope:Scope) (cl:List (Str×Addr)) (N':List Str) (nt:Nat) (ci:List Nat):Prop where
 clos:closureFor scope X.env=pure cl
 cell:∀ y∈scope.names,y.2≠.cell
 kind:scope.kind=.function
 names:∀ y∈scope.names,y.2=.local→scope.names.lookup y.1=some .local
 sub:∀ x c,cl.lookup x=some c→X.env.cells.lookup x=some c
 has:∀ x,((relabel scope X.env).names.lookup x=some .cell∨(relabel scope X.env).names.lookup x=some .free)→∃ c,cl.lookup x=some c
 len:N'.length=nt+ci.length
 cap:∀ (j i:Nat),ci[j]?=some i→∃ x,N'[nt+j]?=some x∧X.N[i]?=some x∧X.env.scope.names.lookup x=some .cell∧((relabel scope X.env).names.lookup x=some .cell∨(relabel scope X.env).names.lookup x=some .free)
noncomputable def capt (nt:Nat) (ci:List Nat) (σ:St):St:=List.replicate nt none++ci.map fun i=>(σ[i]?).join
section
variable {X:Cx} {scope:Scope} {cl:List (Str×Addr)} {N':List Str} {nt:Nat} {ci:List Nat} {pins:List (Addr×Obj)} {σ:St} {H:Hp} {s:Shared}
theorem Xm1 (B:BlkOk X scope cl N' nt ci) (I:Inv X pins σ H s) {fp:List Addr} (hf:∀ b∈fp,FpOk X pins H b) (ho:∀ b∈fp,∃ o,s.heap.get? b=some o) {C acc:Addr} {h1:Heap} {tk:Nat}
    (hacc:acc=s.heap.objs.size) (hC:C=s.heap.objs.size+1) (k:∀ b u,s.heap.get? b=some u→h1.get? b=some u) (ns:h1.Ns C fun _=>none) (ha:h1.get? acc=some { cls:=.type "list",data:=.seq #[] }) :
    Inv (blk X N' scope cl s H C fp) [] (capt nt ci σ) (upd H acc (.lst [])) { s with heap:=h1,toks:=tk }:=by
  have hn:H acc=none:=I.hok.fresh (by rw[hacc];exact Nat.le_refl _);have hnC:H C=none:=I.hok.fresh (by rw[hC];exact Nat.le_succ _)
  have cellLt:∀ x c,cl.lookup x=some c→c < s.heap.objs.size:=fun x c e=>by
    obtain⟨v,q⟩:=I.cell x c (B.sub x c e);exact q.lt
  refine⟨⟨I.ok.mod,B.kind,I.ok.glob,I.ok.blt,?_,fun x y c e1 e2=>I.ok.inj x y c (B.sub _ _ e1) (B.sub _ _ e2),fun x hx=>B.has x hx,fun x c (z:false=true)=>Bool.noConfusion z,fun hc=>I.ok.hd hc,I.ok.frames,.inl rfl,fun b hb=>?_,I.bs,?_,fun b o e hb=>?_,fun b hb=>?_,I.stack,fun b hb=>I.stkFree b hb⟩,
    rfl,I.bare,Un.laid (a:=acc) (o:=.lst []) k (by rw[hacc];exact Nat.le_refl _) hn,⟨_,ns,fun i x v e1 e2 e3=>?_⟩,fun x c e=>?_,?_,fun x c e=>?_,fun p hp=>absurd (show p∈([]:List (Addr×Obj)) from hp) (by simp),I.hok.laid k (by rw[hacc];exact Nat.le_refl _) ⟨Nat.zero_le _,[],0,.nil,ha⟩,?_⟩
  · show s.heap.objs.size≤C
    rw[hC];exact Nat.le_succ _
  · obtain⟨f0,f1,f2,f3,f4,f5⟩:=hf b hb
    obtain⟨o,e⟩:=ho b hb;refine⟨?_,fun x c e'=>f4 x c (B.sub x c e')⟩;show b≠C;rw[hC];exact Nat.ne_of_lt (Nat.lt_succ_of_lt (Heap.lt_size e))
  · exact Nat.le_trans I.ok.bsz I.sz
  · obtain⟨f0,f1,f2,f3,f4,f5⟩:=hf b hb
    rcases f3 with z | z
    · exact I.ok.noex b o e z
    · exact absurd (Nat.lt_of_lt_of_le (Heap.lt_size e) (Nat.le_trans I.ok.bsz z)) (Nat.lt_irrefl _)
  · intro z
    obtain⟨f0,f1,f2,f3,f4,f5⟩:=hf b hb;rcases List.mem_cons.mp (I.stkSub b z) with y | y
    · exact f1 y
    · exact f2 y
  ·
    obtain⟨m,hm,hl⟩:=I.loc;unfold capt at e2
    by_cases hi:i < nt
    · rw[List.getElem?_append_left (by simpa using hi),List.getElem?_replicate] at e2
      split at e2<;>cases e2
    · rw[List.getElem?_append_right (by simpa using hi),List.length_replicate,List.getElem?_map] at e2
      cases q:ci[i - nt]? with
      | none=>rw[q] at e2;cases e2
      | some j =>
        rw[q] at e2;have e2':(σ[j]?).join=some v:=Option.some.inj e2;obtain⟨y,a1,a2,a3,a4⟩:=B.cap _ j q
        have ei:nt+(i - nt)=i:=by walk_at "o"
        rw[ei,show N'[i]?=some x from e1] at a1;cases a1
        have e2'':σ[j]?=some (some v):=by
          cases z:σ[j]? with
          | none=>rw[z] at e2';cases e2'
          | some w=>rw[z] at e2';exact congrArg some e2'
        obtain⟨u,r,l⟩:=hl j x v a2 e2'' (.inr (.inl a3));refine⟨u,r,.inr ⟨a4,?_⟩⟩;rcases l with ⟨kk,_⟩ | ⟨_,c,c1,c2⟩
        · have kk':X.env.scope.names.lookup x=some .local:=kk
          rw[a3] at kk';cases kk'
        · obtain⟨c',ec⟩:=B.has x a4
          have:=B.sub x c' ec;rw[c1] at this;cases this;exact⟨c,ec,let ⟨o,e,d⟩:=c2;⟨o,k _ _ e,d⟩⟩
  · obtain⟨v,q⟩:=I.cell x c (B.sub x c e)
    exact⟨v,let ⟨o,e,d⟩:=q;⟨o,k _ _ e,d⟩⟩
  · show upd H acc (.lst []) C=none
    rw[Zb0 (by rw[hacc,hC];exact Nat.succ_ne_self _)];exact hnC
  · have lt:=cellLt x c e
    rw[Zb0 (by rw[hacc];exact Nat.ne_of_lt lt)];exact I.freeC x c (B.sub x c e)
  · show (capt nt ci σ).length=N'.length
    unfold capt;rw[List.length_append,List.length_replicate,List.length_map,B.len]
def Wk (σ σ':St):Prop:=σ'.length=σ.length∧∀ (i:Nat) v,σ[i]?=some (some v)→σ'[i]?=some (some v)
theorem Yb2 {σ:St} {i:Nat} {x:V} (h:σ[i]?=some none):Wk σ (σ.set i (some x)):=by
 refine⟨by simp,fun j v e=>?_⟩
 by_cases hj:j=i
 ·subst hj;rw[h] at e;cases e
 ·rw[List.getElem?_set_ne (Ne.symm hj)];exact e
theorem Yd3 {x:V} {r:St}:Wk (none :: r) (some x :: r):=Yb2 (σ:=none :: r) (i:=0) rfl
theorem Wk.trans {σ1 σ2 σ3:St} (a:Wk σ1 σ2) (b:Wk σ2 σ3):Wk σ1 σ3:=⟨b.1.trans a.1,fun i v e=>b.2 i v (a.2 i v e)⟩
theorem Wk.refl (σ:St):Wk σ σ:=⟨rfl,fun _ _ e=>e⟩
def lcW (K:W.Frag) (σ0:St) (J:It) (acc:Addr) (g:TG) (te:TE) (Q:VK) (W:Nat→Nat→List V→Hp→Prop):Prop :=
 ∀ i m ys H2,W i m ys H2→H2 acc=some (.lst ys)∧ys.length < sizeLine∧((J.stop i H2∧Q (.ref acc) H2) ∨
  (J.go i H2∧∀ x H3,J.yld i H2 x H3→g x σ0 H3 fun σ4 H4=>Wk σ0 σ4∧te σ4 H4 fun y H5=>H5 acc=some (.lst ys)∧∃ m',m' < m∧W (i+1) m' (ys++[y]) (upd H5 acc (.lst (ys++[y])))))
def tLC (K:W.Frag) (nt:Nat) (ci:List Nat) (wi:TI) (g:TG) (te:TE):TE:=fun σ H Q=>wi σ H fun J H1=>∀ acc,H1 acc=none→∃ W:Nat→Nat→List V→Hp→Prop,(∃ m,W 0 m [] (upd H1 acc (.lst [])))∧lcW K (capt nt ci σ) J acc g te Q W
theorem Yl2 (elt target iter:Expr) (scope:Scope) (pos:Pos) (it acc:Value) (env:Env) :
  compTurn (.ListComp elt [⟨target,iter,[],0⟩] scope pos) 0 it acc env=(standAt iter.pos >>= fun _=>pyNext it >>= fun r=>match r with
   | none=>pure (.done .next)
   | some v=>letOwnedTupleGo target it v >>= fun _=>assign target env v >>= fun _ =>
    (eval elt env >>= fun x=>call (.builtin "list.append") [acc,x] >>= fun _=>pure ()) >>= fun _ =>
     again (.compLoop (.ListComp elt [⟨target,iter,[],0⟩] scope pos) 0 it acc env)):=by rfl
theorem noE {M:Model} {A:Around} {env:Env} {E:Value→Shared→Prop}:∀ e s,(fun (_:Value) (_:Shared)=>False) e s→notedBy M A env E e s:=fun _ _ z=>z.elim
theorem Xy2 {tg elt iter:Expr} {pos:Pos} {g:TG} {te:TE} {it acc C:Addr} {fp:List Addr} {tn:Nat→Heap→Prop} {J:It} {Q:VK} {s0:Shared} {H0:Hp} {σ0:St} {R:Result→Shared→Prop} {s:Shared} {i0 m0:Nat} {ys0:List V} {H1:Hp} {W:Nat→Nat→List V→Hp→Prop}
  (hc:X.calm=true) (hg:PG (blk X N' scope cl s0 H0 C fp) tg g) (he:PE (blk X N' scope cl s0 H0 C fp) elt te) (T:Turn X.prog X.w X.K tg J fp it tn)
  (hfp:∀ (H':Hp),(∀ b∈fp,H' b=none)→∀ b∈fp,FpOk (blk X N' scope cl s0 H0 C fp) [] H' b) (hW:lcW X.K σ0 J acc g te Q W)
  (hR:∀ s' H',Inv (blk X N' scope cl s0 H0 C fp) [] σ0 H' s'→Q (.ref acc) H'→R (.ok .next) s')
  (I:Inv (blk X N' scope cl s0 H0 C fp) [] σ0 H1 s) (hst:tn i0 s.heap) (hfr:∀ b∈fp,H1 b=none) (w:W i0 m0 ys0 H1) :
  codeAny (model X.prog X.w) X.A (.compLoop (.ListComp elt [⟨tg,iter,[],0⟩] scope pos) 0 (.ref it) (.ref acc) (compEnvC scope cl C X.env)) R s:=by with_unfolding_all
 refine codeAny_loop rfl (fun n s=>∃ i ys H2,Inv (blk X N' scope cl s0 H0 C fp) [] σ0 H2 s∧tn i s.heap∧(∀ b∈fp,H2 b=none)∧W i n ys H2) (fun n s hI=>?_) m0 ⟨i0,ys0,H1,I,hst,hfr,w⟩;obtain⟨i,ys,H2,I2,st2,fr2,w2⟩:=hI;show wpAny _ _ ((compTurn (.ListComp elt [⟨tg,iter,[],0⟩] scope pos) 0 (.ref it) (.ref acc) (compEnvC scope cl C X.env)).onRaise (fun x=>do noteFrame x (compEnvC scope cl C X.env);theTreesLotGoes x)) _ _ s;refine wpAny_noted ?_;rw[Yl2];refine wpAny_bind (wpAny_standAt (wpAny_bind ?_));obtain⟨hacc,hlen,hcase⟩:=hW i n ys H2 w2;rcases hcase with ⟨stop,q⟩ | ⟨go,step⟩
 ·refine thn (T.done (blk X N' scope cl s0 H0 C fp) rfl rfl rfl hc i [] s σ0 H2 _ I2 (hfp H2 fr2) st2 stop) fun r s1 zq=>?_;obtain⟨hr,I3⟩:=zq
  subst hr;exact wpAny_pure (hR s1 H2 I3 q)
 ·refine thn (T.item (blk X N' scope cl s0 H0 C fp) rfl rfl rfl hc i [] s σ0 H2 _ I2 (hfp H2 fr2) st2 go) fun r s1 zq=>?_;obtain⟨u,hr,h4⟩:=zq
  subst hr;refine wpAny_bind (thn h4 fun _ s5 zq=>?_);obtain⟨x,H5,I5,r5,y5,st5,fr5⟩:=zq;have I5':=I5.pinned (hfp H5 fr5) (T.obj _ _ st5);refine wpAny_bind (wpAny_mono (hg _ s5 σ0 H5 x u _ I5' r5 (step x H5 y5)) (fun _ s6 ⟨σ6,H6,I6,hw6,q6⟩=>?_) noE);refine wpAny_bind (wpAny_bind (wpAny_mono (he _ s6 σ6 H6 _ I6 q6) (fun v s7 ⟨y,H7,I7,r7,ha7,m',hm',w7⟩=>?_) noE));refine wpAny_bind (wpAny_mono (Zj3 (X:=blk X N' scope cl s0 H0 C fp) _ s7 σ6 H7 (.ref acc) [y] (.ref acc) [v] (fun _ H8=>H8=upd H7 acc (.lst (ys++[y]))) I7 rfl (.cons r7 .nil) ⟨acc,ys,y,rfl,rfl,ha7,hlen,rfl⟩) (fun _ s8 ⟨_,H8,I8,_,e8⟩=>?_) noE);subst e8;refine wpAny_pure (wpAny_pure ⟨rfl,m',hm',i+1,ys++[y],_,?_,?_,fun b hb=>?_,w7⟩)
  ·exact I8.unpinned.weak hw6.1.symm hw6.2
  ·exact T.keep _ _ _ st5 fun b hb o e=>(I8.pin (b,o) (List.mem_append_right _ (List.mem_append_right _ (Zj1 hb e)))).1
  ·obtain⟨o,e,d⟩:=T.obj _ _ st5 b hb
   exact (I8.pin (b,o) (List.mem_append_right _ (List.mem_append_right _ (Zj1 hb e)))).2.1
theorem Xy3 {tg elt iter:Expr} {pos pos':Pos} {wi:TI} {g:TG} {te:TE} {use:Option (Value→Sem Unit)} {Q:VK} {Qf:Value→Shared→Prop} (B:BlkOk X scope cl N' nt ci) (hc:X.calm=true) (hi:PI X tg iter wi)
  (hg:∀ s H C ex,PG (blk X N' scope cl s H C ex) tg g) (he:∀ s H C ex,PE (blk X N' scope cl s H C ex) elt te) (hs:∀ x,foldedSetIterable iter X.env x=pure x) (I:Inv X pins σ H s) (h:tLC X.K nt ci wi g te σ H Q)
  (fin:∀ (acc C:Addr) (s':Shared) (H':Hp),Inv X pins σ H' s'→Q (.ref acc) H'→(∃ m,s'.heap.Ns C m)→FpOk X pins H' C→(∃ o,s'.heap.get? C=some o∧∀ v,o.data≠.cell v)→compPost (model X.prog X.w) X.A X.xe use Qf (.ref acc) C (.ok .next) s') :
  wpAny (model X.prog X.w) X.A (comprehension (.ListComp elt [⟨tg,iter,[],0⟩] scope pos) scope X.env pos' (newList []) false (eval iter X.env) use) Qf X.xe s:=by with_unfolding_all
 refine wpAny_comprehension_free (use:=use) rfl hs B.clos B.kind B.names (thn (hi pins s σ H _ I h) fun v s1 h1=>thn h1 fun itv s2 h2=>?_);obtain⟨it,fp,tn,J,H2,e,I2,T,st2,f2,q2⟩:=h2;subst e;have hacc:H2 s2.heap.objs.size=none:=I2.hok.fresh (Nat.le_refl _);obtain⟨W,⟨m0,w0⟩,hW⟩:=q2 s2.heap.objs.size hacc;refine wpAny_newObj_type (wpAny_newFunctionEnv B.cell (by intro y hy;simp at hy) (fun h₁ hns₁ hsb₁=>?_) B.kind);dsimp only at hns₁ hsb₁ ⊢;have hCs:(s2.heap.push { cls:=.type "list",dict:=none,data:=.seq ([]:List Value).toArray }).objs.size=s2.heap.objs.size+1:=Heap.size_push ..;have k1:∀ b u,s2.heap.get? b=some u→h₁.get? b=some u:=fun b u e=>hsb₁.extBut b u (by rw[hCs];exact Nat.ne_of_lt (Nat.lt_succ_of_lt (Heap.lt_size e))) (Heap.get?_push_of_some _ (Heap.get?_push_of_some _ e));have a1:h₁.get? s2.heap.objs.size=some { cls:=.type "list",data:=.seq #[] }:=hsb₁.extBut _ _ (by rw[hCs];exact Nat.ne_of_lt (Nat.lt_succ_self _)) (Heap.get?_push_of_some _ (Heap.get?_push_size _ rfl));rw[hCs] at hns₁ ⊢;have I3:=Xm1 (tk:=s2.toks+([]:List (Str×Value)).length) B I2 f2 (fun b hb=>let ⟨o,e,_⟩:=T.obj _ _ st2 b hb;⟨o,e⟩) rfl rfl k1 (by simpa using hns₁) a1
 have hfpB:∀ (H':Hp),(∀ b∈fp,H' b=none)→∀ b∈fp,FpOk (blk X N' scope cl s2 H2 (s2.heap.objs.size+1) fp) [] H' b:=fun H' hn b hb=>by
  obtain⟨f0,f1,f3,f4,f5,f6⟩:=f2 b hb;obtain⟨o,e,_⟩:=T.obj _ _ st2 b hb;refine⟨hn b hb,?_,fun z=>?_,.inl hb,fun x c e'=>f5 x c (B.sub x c e'),fun p hp=>absurd (show p∈([]:List (Addr×Obj)) from hp) (by simp)⟩
  ·exact Nat.ne_of_lt (Nat.lt_succ_of_lt (Heap.lt_size e))
  ·rcases List.mem_cons.mp (I2.stkSub b z) with y | y
   ·exact f1 y
   ·exact f3 y
 have hfr3:∀ b∈fp,upd H2 s2.heap.objs.size (.lst []) b=none:=fun b hb=>by
  obtain⟨o,e,_⟩:=T.obj _ _ st2 b hb;rw[Zb0 (Nat.ne_of_lt (Heap.lt_size e))];exact (f2 b hb).1
 have st3:tn 0 h₁:=T.keep _ _ _ st2 fun b _ o e=>k1 b o e;have loop:codeAny (model X.prog X.w) X.A (.compLoop (.ListComp elt [⟨tg,iter,[],0⟩] scope pos) 0 (.ref it) (.ref s2.heap.objs.size) (compEnvC scope cl (s2.heap.objs.size+1) X.env))
   (compPost (model X.prog X.w) X.A X.xe use Qf (.ref s2.heap.objs.size) (s2.heap.objs.size+1)) { s2 with heap:=h₁,toks:=s2.toks+([]:List (Str×Value)).length }:=by
  refine Xy2 (Q:=Q) hc (hg _ _ _ _) (he _ _ _ _) T hfpB hW (fun s' H' I' q=>?_) I3 st3 hfr3 w0;have un:=I'.base;have ns:=I'.loc;have fC:H' (s2.heap.objs.size+1)=none:=I'.free
  have I4:Inv X pins σ H' s':=I2.call' I'.os un I'.hok I'.bare fun b hb=>by
   obtain⟨f0,f1,f3,f4,f5,f6⟩:=f2 b hb;exact⟨f4,f1,f5,f6⟩
  obtain⟨m,hm,_⟩:=ns;have hm':s'.heap.Ns (s2.heap.objs.size+1) m:=hm;refine fin _ _ s' H' I4 q ⟨m,hm'⟩ (I2.fpOk (Nat.le_succ _) fC) ?_;obtain⟨o,es,ep,e,d,_⟩:=hm';exact⟨o,e,fun v z=>by rw[d] at z;cases z⟩
 exact codeAny_compStart_list loop (T.self _ _ _ _ _ st3 loop)
theorem Ye7 {i:Nat} {x:Str} {tg elt iter:Expr} {pos spos pos':Pos} {wi:TI} {g:TG} {te:TE} (hN:X.N.Nodup) (hi:X.N[i]?=some x) (hx:Loc X.env.scope x) (B:X.Ok→BlkOk X scope cl N' nt ci) (hc:X.calm=true) (hit:PI X tg iter wi)
  (hg:∀ s H C ex,PG (blk X N' scope cl s H C ex) tg g) (he:∀ s H C ex,PE (blk X N' scope cl s H C ex) elt te) (hsw:swapsWith (.ListComp elt [⟨tg,iter,[],0⟩] scope pos) (some (.Name x pos')) spos.line X.env=pure true)
  (hs:∀ x,foldedSetIterable iter X.env x=pure x:=by intro _;rfl) (hf:X.fn x=true∨X.env.scope.names.lookup x=some .local:=by first | exact .inl rfl | exact .inr rfl | assumption) :
  PS X (.Assign [.Name x pos'] (.ListComp elt [⟨tg,iter,[],0⟩] scope pos) spos) (tAsg (tLC X.K nt ci wi g te) (Zv1 i)):=by with_unfolding_all
 intro pins s σ H D I h;rw[exec_Assign_Name_used _ _ _ _ hsw];refine wpAny_bind (wpAny_standAt (wpAny_bind ?_));rw[arm_evalThenUse_ListComp];refine wpAny_bind (Xy3 (B I.ok) hc hit hg he hs I h fun acc C s' H' I' q hm hfC ho=>?_);obtain⟨f0,f1,f2,f3,f4,f5⟩:=hfC;obtain⟨m,hm⟩:=hm;obtain⟨o,e,d⟩:=ho
 have Ip:Inv X (pins++[(C,o)]) σ H' s':=I'.pins_of fun p hp=>(List.mem_append.mp hp).elim (fun z=>I'.pin p (List.mem_append_right _ z)) fun z=>by
  have e':p=(C,o):=by simpa using z
  subst e';exact⟨e,f0,f1,f2,d⟩
 refine wpAny_assign_Name (Zv4 Ip hN hi hx (show RelV (.ref acc) (Value.ref acc) from rfl) (fun s2 I2=>?_) hf);have e2:=(I2.pin (C,o) (List.mem_append_right _ (List.mem_append_right _ (by simp)))).1;obtain⟨o',es,ep,h1,h2,h3⟩:=hm;rw[e] at h1;cases h1;refine⟨m,⟨o,es,ep,e2,h2,h3⟩,fun h' sb=>wpAny_pure (wpAny_pure ?_)⟩;have I3:Inv X pins (σ.set i (some (.ref acc))) H' s2:=I2.unpinned;exact⟨_,H',I3.turned (t':=s2.toks) (fun b o hb e=>(sb.2 b hb).trans e) f0 f1 f3 f4 f5,q⟩
end
end L2
namespace PySem
open Sem (wp)
namespace F
end F
end PySem
namespace L2
open PySem PySem.Spec PyProof.Rows
structure KDict (K:W.Frag) (w:World) (a:Addr) (kvs:List (Str×V)):Prop where
 ex:∃ (o:Obj) (es:Array DictEntry) (ep:Nat),K.lookup a=some o∧o.ExactDict∧o.data=.dict es ep∧Paired (fun (p:Str×V) (e:DictEntry)=>(∃ tk,e.key=.str p.1 tk)∧e.hash=PyData.keyHash w.params p.1∧RelV p.2 e.val) kvs es.toList
 nd:(kvs.map (·.1)).Nodup
 ns:(a == sysModules)=false
noncomputable def kvK (kvs:List (Str×V)):List (Key×V):=kvs.map fun p=>(Sum.inr p.1,p.2)
section
variable {X:Cx} {pins:List (Addr×Obj)} {σ:St} {H:Hp} {s:Shared} {a:Addr} {kvs:List (Str×V)}
theorem Yw0 {P:Program} {w:World}:∀ {kvs:List (Str×V)} {es:List DictEntry},Paired (fun (p:Str×V) (e:DictEntry)=>(∃ tk,e.key=.str p.1 tk)∧e.hash=PyData.keyHash w.params p.1∧RelV p.2 e.val) kvs es →
  (∀ e∈es,∃ k,(Ze4 P w).is k e.key=true∧e.hash=(Ze4 P w).hash k)∧Pairs (Ze4 P w) es (List.zip (kvs.map fun p=>(Sum.inr p.1:Key)) (es.map (·.val)))∧KV (kvK kvs) (List.zip (kvs.map fun p=>(Sum.inr p.1:Key)) (es.map (·.val)))
 | [],_,r=>by cases r;exact⟨(fun _ h=>(nomatch h)),.nil,.nil⟩
 | p :: kvs,_,r=>by
  cases r with
  | @cons _ e _ es h t =>
   obtain⟨⟨tk,h1⟩,h2,h3⟩:=h;obtain⟨q1,q2,q3⟩:=Yw0 (P:=P) t
   have hi:(Ze4 P w).is (Sum.inr p.1) e.key=true:=by rw[h1];exact Zz0 P w p.1 tk
   refine⟨fun e' he=>?_,.cons hi rfl q2,.cons ⟨rfl,h3⟩ q3⟩;rcases List.mem_cons.mp he with rfl | he
   ·exact⟨Sum.inr p.1,hi,h2⟩
   ·exact q1 e' he
theorem KDict.of (D:KDict X.K X.w a kvs) (I:Inv X pins σ H s):∃ vs,KV (kvK kvs) vs∧s.heap.DictOf (Ze4 X.prog X.w) a vs:=by
 obtain⟨o,es,ep,lk,ex,d,pr⟩:=D.ex;obtain⟨q1,q2,q3⟩:=Yw0 (P:=X.prog) pr;refine⟨_,q3,o,es,ep,I.kIn a o lk,ex,d,fun e he=>q1 e (by simpa using he),q2,?_⟩
 have e:(List.zip (kvs.map fun p=>(Sum.inr p.1:Key)) (es.toList.map (·.val))).map (·.1)=kvs.map fun p=>(Sum.inr p.1:Key):=by
  rw[List.map_fst_zip];have:=Paired.length pr;simp only[List.length_map];walk_at "o"
 rw[e]
 have inj:∀ l:List (Str×V),(l.map (·.1)).Nodup→(l.map fun p=>(Sum.inr p.1:Key)).Nodup:=by
  intro l
  induction l with
  | nil=>intro _;exact List.nodup_nil
  | cons p r ih =>
   intro h;rw[List.map_cons,List.nodup_cons] at h;rw[List.map_cons,List.nodup_cons];refine⟨fun m=>h.1 ?_,ih h.2⟩;obtain⟨q,hq,eq⟩:=List.mem_map.mp m;exact List.mem_map.mpr ⟨q,hq,Sum.inr.inj eq⟩
 exact inj kvs D.nd
theorem Ys4 (kvs:List (Str×V)) (x:Str):valV (kvK kvs) (Sum.inr x)=kvs.lookup x:=by
 unfold valV kvK
 induction kvs with
 | nil=>rfl
 | cons p r ih =>
  rw[List.map_cons,List.find?_cons];obtain⟨k,v⟩:=p
  by_cases e:k=x
  ·subst e;simp[List.lookup_cons]
  ·have e1:¬ (Sum.inr k:Key)=Sum.inr x:=fun q=>e (Sum.inr.inj q)
   have e2:(x == k)=false:=beq_eq_false_iff_ne.mpr (Ne.symm e);simp only[decide_eq_false e1,List.lookup_cons,e2];exact ih
def tKD (kvs:List (Str×V)) (ti:TE):TE:=fun σ H Q=>ti σ H fun y H1=>∃ x v,y=.str x∧kvs.lookup x=some v∧Q v H1
theorem Zv6 {name:Str} {i:Expr} {ti:TE} {p pos:Pos} (D:KDict X.K X.w a kvs) (hg:Gl X name) (hm:X.mg name=some (.ref a)) (hi:PE X i ti) (hs:NoSl i:=by exact fun _ _=>rfl) (hd:(name == ("__debug__":Str))=false:=by decide) :
  PE X (.Subscript (.Name name p) i pos) (tKD kvs ti):=by with_unfolding_all
 intro pins s σ H Q I h;refine Xc8 PySem.F.slot_dict_getitem.lookup hs (Zt3 I hg hm (thn (hi pins s σ H _ I h) fun iv s2 ⟨y,H2,I2,ry,x,v,ey,hl,q2⟩=>?_) hd);subst ey;obtain⟨vs,rel,dd⟩:=D.of I2;obtain⟨w',hw,rw'⟩:=RelO.some_of (v:=v) (o:=valueAt vs (Sum.inr x)) (by rw[← hl,← Ys4];exact rel.val (Sum.inr x));exact⟨dd.typeIs,wpAny_getItem_of (Xh5 (k:=Sum.inr x) ry) dd.mapOf hw ⟨v,H2,I2.tok _,rw',q2⟩⟩
end
section
variable {X:Cx} {scope:Scope} {N':List Str}
theorem Ya7 {scope:Scope} {env:Env} (h:∀ y∈scope.names,y.2≠.free):(relabel scope env).names=scope.names:=by
 unfold relabel;simp only
 have aux:∀ l:List (Str×NameKind),(∀ y∈l,y.2≠.free)→l.map (fun (n,k)=>if (k == NameKind.free&&env.scope.kind == .function&&env.kindOf n == some .cell) then (n,NameKind.cell) else (n,k))=l:=by
  intro l
  induction l with
  | nil=>intro _;rfl
  | cons y r ih =>
   intro h;rw[List.map_cons,ih fun z hz=>h z (List.mem_cons_of_mem _ hz)];obtain⟨n,k⟩:=y
   have:(k == NameKind.free)=false:=by simpa using h (n,k) List.mem_cons_self
   simp[this]
 exact aux _ h
theorem blk0 (hc:∀ y∈scope.names,y.2≠.cell) (hf:∀ y∈scope.names,y.2≠.free) (hk:scope.kind=.function) (hn:∀ y∈scope.names,y.2=.local→scope.names.lookup y.1=some .local) (_:X.Ok):BlkOk X scope [] N' N'.length [] where
 clos:=closureFor_none hf
 cell:=hc
 kind:=hk
 names:=hn
 sub:=fun _ _ h=>by cases h
 has:=fun x h=>by
  rw[Ya7 hf] at h;rcases h with h | h
  ·exact absurd rfl (hc _ (PySem.mem_of_lookup h))
  ·exact absurd rfl (hf _ (PySem.mem_of_lookup h))
 len:=by simp
 cap:=fun j i h=>by simp at h
noncomputable def Zi9 (cells:List (Str×Addr)):List (Str×NameKind)→List (Str×Addr)→List (Str×Addr)
 | [],acc=>acc
 | (n,k) :: r,acc=>if k == .free then Zi9 cells r ((n,(cells.lookup n).getD 0) :: acc) else Zi9 cells r acc
theorem Yg6 {env:Env}:∀ (names:List (Str×NameKind)) (acc:List (Str×Addr)),(∀ y∈names,y.2=.free→∃ c,env.cells.lookup y.1=some c) →
  (forIn names acc fun (x:Str×NameKind) cs=>(match x with | (name,kind)=>if (kind == .free)=true then do let c ← cellOf env name;pure (ForInStep.yield ((name,c) :: cs)) else pure (ForInStep.yield cs):Sem (ForInStep (List (Str×Addr)))))=pure (Zi9 env.cells names acc)
 | [],acc,_=>rfl
 | (n,k) :: r,acc,h=>by
  rw[List.forIn_cons];unfold Zi9
  by_cases hk:(k == NameKind.free)=true
  ·obtain⟨c,hc⟩:=h (n,k) List.mem_cons_self (by simpa using hk)
   have e:cellOf env n=pure c:=by unfold cellOf;rw[show env.cells.lookup n=some c from hc]
   have hc':env.cells.lookup n=some c:=hc;simp only[hk,if_true,e,pure_bind,hc',Option.getD_some];exact Yg6 r _ fun y hy=>h y (List.mem_cons_of_mem _ hy)
  ·simp only[hk,if_false,pure_bind]
   exact Yg6 r acc fun y hy=>h y (List.mem_cons_of_mem _ hy)
theorem Zf7 {scope:Scope} {env:Env} (h:∀ y∈scope.names,y.2=.free→∃ c,env.cells.lookup y.1=some c):closureFor scope env=pure (Zi9 env.cells scope.names []):=by
 unfold closureFor;have e:=Yg6 (env:=env) scope.names [] h;simp only[bind_pure_comp] at e ⊢
 first
  | exact e
  | (rw[e];rfl)
  | (refine Eq.trans ?_ e;rfl)
theorem Zr8 {cells:List (Str×Addr)}:∀ {names:List (Str×NameKind)} {acc:List (Str×Addr)} {x:Str} {c:Addr},(x,c)∈Zi9 cells names acc→(x,c)∈acc∨((x,NameKind.free)∈names∧c=(cells.lookup x).getD 0)
 | [],acc,x,c,h=>.inl h
 | (n,k) :: r,acc,x,c,h=>by
  unfold Zi9 at h
  by_cases hk:(k == NameKind.free)=true
  ·rw[if_pos hk] at h
   have hk':k=.free:=by simpa using hk
   rcases Zr8 h with h | ⟨h1,h2⟩
   ·rcases List.mem_cons.mp h with e | h
    ·cases e
     subst hk';exact .inr ⟨List.mem_cons_self,rfl⟩
    ·exact .inl h
   ·exact .inr ⟨List.mem_cons_of_mem _ h1,h2⟩
  ·rw[if_neg hk] at h
   rcases Zr8 h with h | ⟨h1,h2⟩
   ·exact .inl h
   ·exact .inr ⟨List.mem_cons_of_mem _ h1,h2⟩
theorem Zr9 {cells:List (Str×Addr)}:∀ {names:List (Str×NameKind)} {acc:List (Str×Addr)} {x:Str},(x,NameKind.free)∈names∨(∃ c,(x,c)∈acc)→∃ c,(x,c)∈Zi9 cells names acc
 | [],acc,x,h=>by
  rcases h with h | h
  ·cases h
  ·exact h
 | (n,k) :: r,acc,x,h=>by
  unfold Zi9
  by_cases hk:(k == NameKind.free)=true
  ·rw[if_pos hk]
   refine Zr9 ?_;rcases h with h | ⟨c,h⟩
   ·rcases List.mem_cons.mp h with e | h
    ·cases e
     exact .inr ⟨_,List.mem_cons_self⟩
    ·exact .inl h
   ·exact .inr ⟨c,List.mem_cons_of_mem _ h⟩
  ·rw[if_neg hk]
   refine Zr9 ?_;rcases h with h | h
   ·rcases List.mem_cons.mp h with e | h
    ·cases e
     exact absurd (beq_self_eq_true NameKind.free) hk
    ·exact .inl h
   ·exact .inr h
theorem Zq9 {l:List (Str×Addr)} {x:Str} {c:Addr} (h:(x,c)∈l):∃ c',l.lookup x=some c':=by
 induction l with
 | nil=>cases h
 | cons p r ih =>
  obtain⟨n,a⟩:=p
  by_cases e:(x == n)=true
  ·exact⟨a,by simp[List.lookup_cons,e]⟩
  ·have e':(x == n)=false:=by simpa using e
   rcases List.mem_cons.mp h with h | h
   ·cases h;simp at e
   ·obtain⟨c',q⟩:=ih h
    exact⟨c',by simp only[List.lookup_cons,e'];exact q⟩
theorem Zm0 {env:Env}:∀ {names:List (Str×NameKind)} {x:Str} {k:NameKind},(names.map fun (n,k)=>if (k == NameKind.free&&env.scope.kind == .function&&env.kindOf n == some .cell) then (n,NameKind.cell) else (n,k)).lookup x=some k→(k=.cell∨k=.free)→(∀ y∈names,y.2≠.cell)→(x,NameKind.free)∈names
 | [],x,k,h,_,_=>by cases h
 | (n,j) :: r,x,k,h,hk,hc=>by
  rw[List.map_cons] at h
  by_cases e:(x == n)=true
  ·have e':x=n:=by simpa using e
   subst e';have hj:j≠.cell:=hc (x,j) List.mem_cons_self
   by_cases q:(j == NameKind.free&&env.scope.kind == .function&&env.kindOf x == some .cell)=true
   ·have:j=.free:=by
     rw[Bool.and_eq_true,Bool.and_eq_true] at q
     simpa using q.1.1
    subst this;exact List.mem_cons_self
   ·simp only[q,if_false,List.lookup_cons,beq_self_eq_true] at h
    have h':j=k:=by simpa using h
    subst h';rcases hk with z | z
    ·exact absurd z hj
    ·subst z;exact List.mem_cons_self
  ·have e':(x == n)=false:=by simpa using e
   refine List.mem_cons_of_mem _ (Zm0 (env:=env) (k:=k) ?_ hk fun y hy=>hc y (List.mem_cons_of_mem _ hy));have h':List.lookup x ((if (j == NameKind.free&&env.scope.kind == .function&&env.kindOf n == some .cell)=true then (n,NameKind.cell) else (n,j)) :: _)=some k:=h
   by_cases q:(j == NameKind.free&&env.scope.kind == .function&&env.kindOf n == some .cell)=true
   ·rw[if_pos q,List.lookup_cons,e'] at h';exact h'
   ·rw[if_neg q,List.lookup_cons,e'] at h';exact h'
theorem Zm1 {env:Env} {x:Str} (h1:env.scope.kind=.function) (h2:env.kindOf x=some .cell):∀ {names:List (Str×NameKind)},names.lookup x=some .free→(names.map fun (n,k)=>if (k == NameKind.free&&env.scope.kind == .function&&env.kindOf n == some .cell) then (n,NameKind.cell) else (n,k)).lookup x=some .cell
 | [],h=>by cases h
 | (n,j) :: r,h=>by
  rw[List.map_cons]
  by_cases e:(x == n)=true
  ·have e':x=n:=by simpa using e
   subst e';simp only[List.lookup_cons,beq_self_eq_true] at h
   have hj:j=.free:=by simpa using h
   subst hj
   have q:((NameKind.free == NameKind.free)&&env.scope.kind == .function&&env.kindOf x == some .cell)=true:=by rw[h1,h2];rfl
   show List.lookup x ((if ((NameKind.free == NameKind.free)&&env.scope.kind == .function&&env.kindOf x == some .cell)=true then (x,NameKind.cell) else (x,NameKind.free)) :: _)=_;rw[if_pos q,List.lookup_cons,beq_self_eq_true]
  ·have e':(x == n)=false:=by simpa using e
   simp only[List.lookup_cons,e'] at h
   by_cases q:(j == NameKind.free&&env.scope.kind == .function&&env.kindOf n == some .cell)=true
   ·show List.lookup x ((if (j == NameKind.free&&env.scope.kind == .function&&env.kindOf n == some .cell)=true then (n,NameKind.cell) else (n,j)) :: _)=_
    rw[if_pos q,List.lookup_cons,e'];exact Zm1 h1 h2 h
   ·show List.lookup x ((if (j == NameKind.free&&env.scope.kind == .function&&env.kindOf n == some .cell)=true then (n,NameKind.cell) else (n,j)) :: _)=_
    rw[if_neg q,List.lookup_cons,e'];exact Zm1 h1 h2 h
noncomputable def Wk0 (N':List Str) (nt:Nat) (ci:List Nat) (Xn:List Str) (fsc scope:Scope):Bool :=
 (List.range ci.length).all fun j=>match ci[j]?,N'[nt+j]? with
  | some i,some x=>Xn[i]? == some x&&fsc.names.lookup x == some .cell&&scope.names.lookup x == some .free
  | _,_=>false
theorem blkC {nt:Nat} {ci:List Nat} (Xn:List Str) (fsc:Scope) (hN:X.N=Xn) (hs:X.env.scope=fsc) (hc:∀ y∈scope.names,y.2≠.cell) (hk:scope.kind=.function) (hn:∀ y∈scope.names,y.2=.local→scope.names.lookup y.1=some .local)
  (hfr:∀ y∈scope.names,y.2=.free→fsc.names.lookup y.1=some .cell) (hl:N'.length=nt+ci.length) (cap:Wk0 N' nt ci Xn fsc scope=true) (ok:X.Ok):BlkOk X scope (Zi9 X.env.cells scope.names []) N' nt ci:=by
 have fr:∀ y∈scope.names,y.2=.free→∃ c,X.env.cells.lookup y.1=some c:=fun y hy e=>ok.has y.1 (.inl (by show X.env.scope.names.lookup y.1=_;rw[hs];exact hfr y hy e))
 have sub:∀ x c,(Zi9 X.env.cells scope.names []).lookup x=some c→X.env.cells.lookup x=some c:=fun x c h=>by
  rcases Zr8 (PySem.mem_of_lookup h) with z | ⟨z1,z2⟩
  ·cases z
  ·obtain⟨c',e⟩:=fr _ z1 rfl
   rw[show X.env.cells.lookup x=some c' from e] at z2 ⊢;rw[z2];rfl
 refine⟨Zf7 fr,hc,hk,hn,sub,fun x h=>?_,hl,fun j i h=>?_⟩
 ·have hm:(x,NameKind.free)∈scope.names:=by
   rcases h with h | h
   ·exact Zm0 h (.inl rfl) hc
   ·exact Zm0 h (.inr rfl) hc
  obtain⟨c,q⟩:=Zr9 (cells:=X.env.cells) (acc:=[]) (.inl hm);exact Zq9 q
 ·unfold Wk0 at cap
  rw[List.all_eq_true] at cap;have hj:j < ci.length:=(List.getElem?_eq_some_iff.mp h).1;have q:=cap j (List.mem_range.mpr hj);rw[h] at q
  cases e:N'[nt+j]? with
  | none=>rw[e] at q;cases q
  | some x =>
   rw[e] at q;simp only[Bool.and_eq_true,beq_iff_eq] at q;refine⟨x,rfl,by rw[hN];exact q.1.1,by rw[hs];exact q.1.2,.inl (Zm1 ok.kind ?_ q.2)⟩;show X.env.scope.names.lookup x=_;rw[hs];exact q.1.2
end
theorem Same.sqt {K:W.Frag} {H H':Hp} {a:Addr} {xs:List V} (e:Same H H') (h:SqT K H a xs):SqT K H' a xs:=by
 rcases h with (h | ⟨o,h⟩) | h
 ·exact .inl (.inl (e _ _ h))
 ·exact .inl (.inr ⟨o,e _ _ h⟩)
 ·exact .inr h
theorem Same.keepT {K:W.Frag} {H H':Hp} (e:Same H H'):KeepT K H H':=fun _ _ h=>e.sqt h
theorem Za6 {H:Hp} {p:Addr} (h:H p=none) (o:HO):Same H (upd H p o):=fun b u q=>by rw[Zb0 (Za9 q h)];exact q
theorem KeepT.trans {K:W.Frag} {H H1 H2:Hp} (a:KeepT K H H1) (b:KeepT K H1 H2):KeepT K H H2:=fun x xs h=>b x xs (a x xs h)
theorem KeepT.refl {K:W.Frag} (H:Hp):KeepT K H H:=fun _ _ h=>h
theorem Zh4 {K:W.Frag} {H:Hp} {l:Addr} {xs:List V} {o:HO} (h:H l=some (.lst xs)):KeepT K H (upd H l o):=fun a ys q=>by
 rcases q with (q | ⟨ob,q⟩) | q
 ·exact .inl (.inl (by rw[Zb0 (Xg2 q h (by intro z;cases z))];exact q))
 ·exact .inl (.inr ⟨ob,by rw[Zb0 (Xg2 q h (by intro z;cases z))];exact q⟩)
 ·exact .inr q
theorem Zd4 {K:W.Frag} {H:Hp} {l:Addr} {o:HO} (h:H l=none):KeepT K H (upd H l o):=(Za6 h o).keepT
theorem Same.write {H0 H:Hp} {l:Addr} {o:HO} (e:Same H0 H) (h:H0 l=none):Same H0 (upd H l o):=fun b u q=>by
 rw[Zb0 (Za9 q h)];exact e b u q
theorem Wb9 {K:W.Frag} {H:Hp} {l a:Addr} {xs:List V} {o:HO} (q:SqL K H a xs) (h:a≠l):SqL K (upd H l o) a xs:=by
 rcases q with (q | ⟨ob,q⟩) | q
 ·exact .inl (.inl (by rw[Zb0 h];exact q))
 ·exact .inl (.inr ⟨ob,by rw[Zb0 h];exact q⟩)
 ·exact .inr q
theorem Yc7 (CX:CXT) (P:Program) (w:World) (K:W.Frag) (mg:Str→Option Value) (base:Heap) (N:List Str) (qual:Str) (scope:Scope) (f:Addr) (cd:Value) (A:Around) (outer:List Env) (s:Shared) (H:Hp) (E:XK):(cxOf CX P w K mg base N qual scope f cd A outer s H E).K=K:=rfl
theorem Xa3 (X:Cx) (N':List Str) (scope:Scope) (cl:List (Str×Addr)) (s:Shared) (H:Hp) (C:Addr) (ex:List Addr):(blk X N' scope cl s H C ex).K=X.K:=rfl
theorem Ye3 (a b:Int):scal (.int a) (.int b)=true:=rfl
theorem Ye2 (a b:Str):scal (.str a) (.str b)=true:=rfl
theorem Yo1 (a b:Bool):scal (.bl a) (.bl b)=true:=rfl
theorem Yf8 {i j:Int} (h1:-(2 ^ 64) < i) (h2:i < 2 ^ 64):CMul i j:=.inl ⟨h1,h2⟩
theorem Yj9 {i j:Int} (h1:-(2 ^ 64) < j) (h2:j < 2 ^ 64):CMul i j:=.inr ⟨h1,h2⟩
theorem Zp9 {t u:TS} {D:Ends} {σ:St} {H:Hp} (R:St→Hp→Prop) (rest:∀ σ' H',R σ' H'→u D σ' H') (first:∀ C:St→Hp→Prop,(∀ σ' H',R σ' H'→C σ' H')→t { D with nx:=C } σ H):tSeq t u D σ H:=first (u D) rest
theorem sqt {t u:TS} {D:Ends} {σ:St} {H:Hp} (R:St→Hp→Prop) (first:∀ C:St→Hp→Prop,(∀ σ' H',R σ' H'→C σ' H')→t { D with nx:=C } σ H) (rest:∀ σ' H',R σ' H'→u D σ' H'):tSeq t u D σ H:=first (u D) rest
theorem Yk2 {K:W.Frag} {σ0:St} {n:Nat} {lo:Int} {acc:Addr} {g:TG} {te:TE} {Q:VK} {H:Hp} (Pv:Nat→List V→Hp→Prop) (h0:Pv 0 [] (upd H acc (.lst []))) (hl:∀ i ys H2,i≤n→Pv i ys H2→H2 acc=some (.lst ys)∧ys.length < sizeLine)
  (hs:∀ i ys H2,i < n→Pv i ys H2→∀ C:VK,(∀ y H5,H5 acc=some (.lst ys)→Pv (i+1) (ys++[y]) (upd H5 acc (.lst (ys++[y])))→C y H5)→g (.int (lo+i)) σ0 H2 fun σ4 H4=>Wk σ0 σ4∧te σ4 H4 C) (hd:∀ ys H2,Pv n ys H2→Q (.ref acc) H2) :
  ∃ W:Nat→Nat→List V→Hp→Prop,(∃ m,W 0 m [] (upd H acc (.lst [])))∧lcW K σ0 (Itr lo n) acc g te Q W:=by
 refine⟨fun i m ys H2=>m=n - i∧i≤n∧Pv i ys H2,⟨n,by simp,Nat.zero_le _,h0⟩,?_⟩;rintro i m ys H2 ⟨rfl,hi,p⟩;obtain⟨a,b⟩:=hl i ys H2 hi p;refine⟨a,b,?_⟩
 by_cases hlt:i < n
 ·refine .inr ⟨hlt,fun x H3 y=>?_⟩
  obtain⟨e,y⟩:=y;subst e y;exact hs i ys _ hlt p _ fun v H5 z1 z2=>⟨z1,n - (i+1),by walk_at "o",rfl,hlt,z2⟩
 ·have e:i=n:=by walk_at "o"
  subst e;exact .inl ⟨Nat.le_refl _,hd ys H2 p⟩
theorem Yc8 (x y:Str):(x++y).cps.toList=x.cps.toList++y.cps.toList:=by
 show (x.cps++y.cps).toList=_;simp
theorem Xy1 (x:Str):x.length=x.cps.toList.length:=by simp[Str.length]
theorem Yc0 {α:Type} {x:Str}:∀ {l:List (Str×α)},(∀ v,(x,v) ∉ l)→l.lookup x=none
 | [],_=>rfl
 | (y,v) :: l,h=>by
  have hy:x≠y:=fun e=>h v (by rw[e];exact List.mem_cons_self);rw[List.lookup_cons,show (x == y)=false from by simpa using hy];exact Yc0 fun v hv=>h v (List.mem_cons_of_mem _ hv)
theorem Zn6:∀ {ps:List Str} {us:List Value} {i:Nat} {x:Str} {u:Value},ps.Nodup→ps[i]?=some x→us[i]?=some u→(ps.zip us).reverse.lookup x=some u
 | [],_,_,_,_,_,h,_=>by simp at h
 | _ :: _,[],_,_,_,_,_,h=>by simp at h
 | p :: ps,w :: us,0,x,u,nd,h1,h2=>by
  simp at h1 h2;subst h1;subst h2;rw[List.zip_cons_cons,List.reverse_cons,List.lookup_append,Yc0 (fun v hv=>(List.nodup_cons.mp nd).1 (List.of_mem_zip (List.mem_reverse.mp hv)).1)];simp
 | p :: ps,w :: us,i+1,x,u,nd,h1,h2=>by
  have ih:=Zn6 (List.nodup_cons.mp nd).2 (show ps[i]?=some x by simpa using h1) (show us[i]?=some u by simpa using h2);rw[List.zip_cons_cons,List.reverse_cons,List.lookup_append,ih];rfl
structure FnScopeC (N ps fv:List Str) (sc:Scope):Prop where
 kind:sc.kind=.function
 co:sc.isCoroutine=false
 gen:sc.isGenerator=false
 nd:N.Nodup
 pre:N.take (ps++fv).length=ps++fv
 par:∀ x∈ps,sc.names.lookup x=some .local
 fr:∀ x∈fv,sc.names.lookup x=some .free
 nocell:∀ y∈sc.names,y.2≠.cell
structure Caught (K:W.Frag) (sc:Scope) (cl:List (Str×Addr)) (fv:List Str) (frv:List V):Prop where
 len:frv.length=fv.length
 cell:∀ (i:Nat) (x:Str) (v:V),fv[i]?=some x→frv[i]?=some v→∃ c o u,cl.lookup x=some c∧K.lookup c=some o∧o.data=.cell (some u)∧RelV v u
 all:∀ x c,cl.lookup x=some c→∃ o v,K.lookup c=some o∧o.data=.cell v
 inj:∀ x y c,cl.lookup x=some c→cl.lookup y=some c→x=y
 has:∀ x,sc.names.lookup x=some .free→∃ c,cl.lookup x=some c
noncomputable def cxC (CX:CXT) (P:Program) (w:World) (K:W.Frag) (mg:Str→Option Value) (base:Heap) (N:List Str) (qual:Str) (scope:Scope) (f:Addr) (cd:Value) (cl:List (Str×Addr)) (A:Around) (outer:List Env) (s:Shared) (H:Hp) (E:XK):Cx where
 prog:=P
 w:=w
 K:=K
 mg:=mg
 base:=base
 A:=A.deeper (W.envX qual scope s.heap.objs.size f cd cl)
 N:=N
 s₀:=s
 H₀:=H
 env:=W.envX qual scope s.heap.objs.size f cd cl
 outer:=outer
 stack:=W.envX qual scope s.heap.objs.size f cd cl :: outer
 ex:=[]
 calm:=true
 fn:=fun _=>false
 pn:=[]
 xe:=fun e s'=>wpAny (model P w) (A.deeper (W.envX qual scope s.heap.objs.size f cd cl)) (leaving (W.envX qual scope s.heap.objs.size f cd cl) e) (fun _ s''=>CX outer H s E e s'') (fun e' s''=>CX outer H s E e' s'') s'
theorem Yz2 {CX:CXT} {P:Program} {w:World} {K:W.Frag} {mg:Str→Option Value} {base:Heap} {N ps fv:List Str} {qual:Str} {scope:Scope} {f:Addr} {cd:Value} {cl:List (Str×Addr)} {A:Around} {outer:List Env} {s:Shared} {H:Hp} {E:XK} {us:List Value} {vs frv:List V} {h1:Heap} {tk:Nat}
  (S:FnScopeC N ps fv scope) (C:Caught K scope cl fv frv) (hd:A.handled=none) (e0:Env0 P w K mg base A outer s H) (hl:vs.length=ps.length) (r:Vals vs us)
  (ns:h1.Ns s.heap.objs.size fun x=>(ps.zip us).reverse.lookup x) (hk:∀ b o,s.heap.get? b=some o→h1.get? b=some o) :
  Inv (cxC CX P w K mg base N qual scope f cd cl A outer s H E) [] (start N (vs++frv)) H { s with heap:=h1,toks:=tk }:=by
 have hpl:(ps++fv).length≤N.length:=by have:=congrArg List.length S.pre;rw[List.length_take] at this;walk_at "o"
 have noA:∀ b:Addr,b ∉ (cxC CX P w K mg base N qual scope f cd cl A outer s H E).ex:=fun b z=>absurd (show b∈([]:List Addr) from z) (by simp)
 have hlen:(vs++frv).length=(ps++fv).length:=by rw[List.length_append,List.length_append,hl,C.len]
 have kin:∀ c o,K.lookup c=some o→s.heap.get? c=some o∧H c=none:=fun c o e=>e0.bs c o (e0.mod.kin c o e)
 refine⟨⟨e0.mod,S.kind,rfl,rfl,Nat.le_refl _,C.inj,fun y hy=>?_,fun y c z _=>(nomatch (show false=true from z)),fun _=>hd,Around.frames_deeper e0.frames,.inr ⟨rfl,rfl⟩,fun b z=>absurd z (noA b),e0.bs,e0.bsz,fun b _ _=>noA b,fun b z=>absurd z (noA b),e0.funs,e0.frf⟩,
  rfl,e0.bare,Un.kept hk,⟨_,ns,fun i y v h1 h2 h3=>?_⟩,fun y c h=>?_,e0.hok.fresh (Nat.le_refl _),fun y c h=>?_,fun p hp=>absurd (show p∈([]:List (Addr×Obj)) from hp) (by simp),e0.hok.kept hk,?_⟩
 ·have hy:scope.names.lookup y=some .cell∨scope.names.lookup y=some .free:=hy
  rcases hy with hy | hy
  ·exact absurd rfl (S.nocell _ (PySem.mem_of_lookup hy))
  ·exact C.has y hy
 ·have hi:i < (vs++frv).length:=by
   unfold start at h2
   by_cases hi:i < (vs++frv).length
   ·exact hi
   ·rw[List.getElem?_append_right (by simpa using hi)] at h2
    rw[List.getElem?_replicate] at h2
    split at h2<;>cases h2
  have ha:(vs++frv)[i]?=some v:=by
   unfold start at h2;rw[List.getElem?_append_left (by simpa using hi),List.getElem?_map] at h2
   cases e:(vs++frv)[i]? with
   | none=>rw[e] at h2;cases h2
   | some a=>rw[e] at h2;cases h2;rfl
  have hp:(ps++fv)[i]?=some y:=by
   rw[← S.pre,List.getElem?_take_of_lt (by walk_at "o")];exact h1
  have ndP:(ps++fv).Nodup:=by rw[← S.pre];exact S.nd.sublist (List.take_sublist _ _)
  by_cases hv:i < vs.length
  ·rw[List.getElem?_append_left hv] at ha
   rw[List.getElem?_append_left (by walk_at "o")] at hp;obtain⟨u,hu,rv⟩:=r.get ha;exact⟨u,rv,.inl ⟨S.par y (List.mem_of_getElem? hp),Zn6 (ndP.sublist (List.sublist_append_left _ _)) hp hu⟩⟩
  ·rw[List.getElem?_append_right (by walk_at "o")] at ha
   rw[List.getElem?_append_right (by walk_at "o"),← hl] at hp;obtain⟨c,o,u,e1,e2,e3,rv⟩:=C.cell _ y v hp ha;refine⟨u,rv,.inr ⟨.inr (S.fr y (List.mem_of_getElem? hp)),c,e1,o,hk c o (kin c o e2).1,e3⟩⟩
 ·obtain⟨o,v,e1,e2⟩:=C.all y c h
  exact⟨v,o,hk c o (kin c o e1).1,e2⟩
 ·obtain⟨o,v,e1,e2⟩:=C.all y c h
  exact (kin c o e1).2
 ·unfold start
  show _=N.length;rw[List.length_append,List.length_map,List.length_replicate];walk_at "o"
theorem Wj3 {CX:CXT} {P:Program} {w:World} {K:W.Frag} {mg:Str→Option Value} {base:Heap} {k:Nat} {f:Addr} {name qual:Str} {params:Arguments} {body:List Stmt} {scope:Scope} {cl:List (Str×Addr)} {doc pm cdv ct oc:Value} {od:Option Addr}
  {osl:Array (Option Value)} {N ps fv:List Str} {frv:List V} {sp:Sp} (lk:K.lookup f=some ⟨oc,od,.func (W.fnX name qual params body scope cl .none .none doc pm none cdv ct),osl⟩) (hcd:W.codeIn K cdv qual=true) (S:FnScopeC N ps fv scope) (C:Caught K scope cl fv frv)
  (len:∀ vs H Q E,sp vs H Q E→vs.length=ps.length)
  (hbody:∀ (A:Around) (outer:List Env) (s:Shared) (H:Hp) (vs:List V) (Q:VK) (E:XK),Room k (A.deeper (W.envX qual scope s.heap.objs.size f cdv cl))→sp vs H Q E →
   ∃ t,PSs (cxC CX P w K mg base N qual scope f cdv cl A outer s H E) body t∧t { nx:=fun _ H'=>Q .non H',rt:=Q } (start N (vs++frv)) H) :
  FnOk P w K mg base CX (k+1) f (W.fnX name qual params body scope cl .none .none doc pm none cdv ct) ps sp:=by with_unfolding_all
 refine⟨len,fun A outer s H args us vs Q E hr e0 hb r hsp=>?_⟩;have hl:=len _ _ _ _ hsp;have KX:K.In s.heap:=e0.mod.kin.keeps fun b o e=>(e0.bs b o e).1;have lim:s.heap.NoLimit:=e0.mod.nolimit.keeps fun b o e=>(e0.bs b o e).1;refine codeAny_call_function hr.depth (KX _ _ lk) rfl S.co S.gen rfl (W.codeRec_of KX hcd) (hb _ _ _ _ ?_);refine wpAny_newFunctionEnv S.nocell (fun⟨n,v⟩ hy=>S.par n (List.of_mem_zip hy).1) (fun h1 ns sb=>?_) S.kind
 have hk:∀ b o,s.heap.get? b=some o→h1.get? b=some o:=fun b o e=>by
  rw[sb.2 b (Nat.ne_of_lt (Heap.lt_size e))];exact Heap.get?_push_of_some _ e
 refine⟨lim.keeps hk,codeAny_func ?_⟩;obtain⟨t,ht,hq⟩:=hbody A outer s H vs Q E (hr.deeper _) hsp;have I:Inv (cxC CX P w K mg base N qual scope f cdv cl A outer s H E) [] (start N (vs++frv)) H { s with heap:=h1,toks:=s.toks+(ps.zip us).length }:=Yz2 S C hr.hd e0 hl r ns hk;refine wpAny_mono (ht [] _ (start N (vs++frv)) H _ I hq) (fun fl s' hs=>?_) fun e s' hs=>hs
 have fin:∀ {σ':St} {H':Hp} {v:V} {u:Value},Inv (cxC CX P w K mg base N qual scope f cdv cl A outer s H E) [] σ' H' s'→RelV v u→Q v H'→CE outer P w H s Q u s' :=
  fun {σ' H' v u} J rv q=>⟨v,H',J.os,J.bare,J.base,J.hok,rv,q⟩
 cases fl with
 | ret u =>
  obtain⟨v,σ',H',J,rv,q⟩:=hs;exact fin J rv q
 | next =>
  obtain⟨σ',H',J,q⟩:=hs;exact fin (v:=V.non) (u:=Value.none) J rfl q
 | brk =>
  obtain⟨_,_,_,q⟩:=hs;exact False.elim q
 | cont =>
  obtain⟨_,_,_,q⟩:=hs;exact False.elim q
noncomputable abbrev FZ (o:Obj):HO:=.frz o (.ext fun _=>True)
def SameT (H H':Hp):Prop:=∀ b o,(∀ ps,o≠.tbl ps)→H b=some o→H' b=some o
theorem SameT.trans {H H1 H2:Hp} (a:SameT H H1) (b:SameT H1 H2):SameT H H2:=fun c o n h=>b c o n (a c o n h)
theorem Same.toT {H H':Hp} (a:Same H H'):SameT H H':=fun c o _ h=>a c o h
structure SameU (P:Addr) (H H':Hp):Prop where
 toT:SameT H H'
 off:∀ b o,b≠P→H b=some o→H' b=some o
 tab:∀ o,H P=some o→∃ o',H' P=some o'
theorem Same.toU {P:Addr} {H H':Hp} (a:Same H H'):SameU P H H':=⟨a.toT,fun c o _ h=>a c o h,fun o h=>⟨o,a _ _ h⟩⟩
def CodeFz (H:Hp) (cv:Value) (q:Str):Prop:=∃ c o vs t,cv=.ref c∧H c=some (FZ o)∧o.data=.fields vs∧vs[1]?=some (.str q t)
theorem CodeFz.keep {H H':Hp} {cv:Value} {q:Str} (h:CodeFz H cv q) (k:SameT H H'):CodeFz H' cv q:=by
 obtain⟨c,o,vs,t,h1,h2,h3,h4⟩:=h;exact⟨c,o,vs,t,h1,k c _ (fun _ z=>nomatch z) h2,h3,h4⟩
def TabOk (H:Hp) (P:Addr) (ds:List (Pos×Str)):Prop :=
 ∃ ps,H P=some (.tbl ps)∧TriplesOk ps.toList∧∀ d∈ds,∀ cv,codeAmong d.1 ps.toList=some cv→CodeFz H cv d.2
theorem TabOk.keep {H H':Hp} {P:Addr} {ds:List (Pos×Str)} (h:TabOk H P ds) (k:Same H H'):TabOk H' P ds:=by
 obtain⟨ps,h1,h2,h3⟩:=h;exact⟨ps,k _ _ h1,h2,fun d hd cv e=>(h3 d hd cv e).keep k.toT⟩
theorem TabOk.new {H:Hp} {P:Addr} {ds:List (Pos×Str)} (h:H P=some (.tbl #[])):TabOk H P ds :=
 ⟨#[],h,trivial,fun d _ cv e=>by
  have e':(none:Option Value)=some cv:=e
  cases e'⟩
def FnFz (H:Hp) (f:Addr) (name qual:Str) (params:Arguments) (body:List Stmt) (scope:Scope) (cl:List (Str×Addr)):Prop :=
 ∃ doc pm ct cv,H f=some (FZ { cls:=.type "function",data:=.func (W.fnX name qual params body scope cl .none .none doc pm none cv ct) })∧CodeFz H cv qual
theorem Zw2:∀ {l m:List Value},TriplesOk l→TriplesOk m→TriplesOk (l++m)
 | [],m,_,h=>h
 | .int i a :: .int j b :: c :: r,m,h,h'=>by
  show TriplesOk (.int i a :: .int j b :: c :: (r++m));exact Zw2 (l:=r) h h'
theorem Zr7 {pos:Pos}:∀ {l m:List Value},TriplesOk l→codeAmong pos (l++m)=(codeAmong pos l).or (codeAmong pos m)
 | [],m,_=>by simp[codeAmong]
 | .int i a :: .int j b :: c :: r,m,h=>by
  show codeAmong pos (.int i a :: .int j b :: c :: (r++m))=_;rw[codeAmong,codeAmong]
  split
  ·rfl
  ·exact Zr7 (l:=r) h
theorem Xq2 {P:Program} {w:World} {H:Hp} {h:Heap} {a:Addr} {o:Obj} (e:h.get? a=some o):ObjOk P w H h a (FZ o):=⟨e,trivial,⟨o,e⟩,fun _ _ _ _=>trivial⟩
def tDef (i:Nat) (name qual:Str) (params:Arguments) (body:List Stmt) (scope:Scope) (cl:List (Str×Addr)) (P:Addr) (ds:List (Pos×Str)):TS:=fun D σ H =>
 TabOk H P ds∧∀ f H',H f=none→SameU P H H'→TabOk H' P ds→FnFz H' f name qual params body scope cl→D.nx (σ.set i (some (.ref f))) H'
theorem Wd6 {X:Cx} {i:Nat} {name qual:Str} {params:Arguments} {body:List Stmt} {scope:Scope} {pos:Pos} {cl:List (Str×Addr)} {c P:Addr} {ds:List (Pos×Str)}
  (hN:X.N.Nodup) (hi:X.N[i]?=some name) (hx:Loc X.env.scope name) (hcl:closureFor scope X.env=pure cl) (hc:X.env.code=.ref c) (hC:∀ h,X.K.In h→W.CodeHd h c P) (hB:∀ h,X.K.In h→h.BuiltinsAt X.mg P) (hP:mainGlobals≠P)
  (hq:qualnameIn X.env name name=qual) (hd:(pos,qual)∈ds) (hds:∀ d∈ds,d.1.line=pos.line→d.1.col=pos.col→d.2=qual)
  (h1:params.defaults=[]) (h2:params.kw_defaults=[]) (h3:annTrees params none X.env=[])
  (hf:X.fn name=true∨X.env.scope.names.lookup name=some .local:=by first | exact .inl rfl | exact .inr rfl | assumption) :
  PS X (.FunctionDef name params body [] none [] scope none name pos) (tDef i name qual params body scope cl P ds):=by with_unfolding_all
 intro pins s σ H D I h;obtain⟨⟨ps,hp,ht,hcs⟩,q⟩:=h;refine W.nestDef_K h1 h2 h3 ?_;rw[hq];have kX:=I.kIn;have hPs:s.heap.get? P=some (W.tabObj ps):=I.hok P _ hp
 have mgs:s.heap.Ns mainGlobals X.mg:=by
  obtain⟨o,es,ep,e,d,r⟩:=I.ok.mod.glob;exact⟨o,es,ep,I.bk _ _ e,d,r⟩
 have fin:∀ {H':Hp} {s':Shared} {f:Addr},Inv X pins σ H' s'→H f=none→SameU P H H'→TabOk H' P ds→FnFz H' f name qual params body scope cl →
   wpAny (model X.prog X.w) X.A (storeName X.env name (.ref f)) (fun _ s''=>SP X pins D .next s'') X.xe s':=fun {H' s' f} J g1 g2 g3 g4 =>
  Zv4 (v:=.ref f) J hN hi hx rfl (fun s'' J'=>⟨_,_,J',q f H' g1 g2 g3 g4⟩) hf
 cases hm:codeAmong pos ps.toList with
 | some cv =>
  refine W.makeFunction_hit hcl I.ok.glob mgs hc (hC _ kX) hPs ht hm (hB _ kX) fun ctv doc h' tk hk hsz=>?_
  have kk:∀ b o,s.heap.get? b=some o→(h'.push { cls:=Value.type "function",data:=Data.func (W.fnX name qual params body scope cl Value.none Value.none doc ((X.mg (Str.ofString "__name__")).getD Value.none) none cv ctv) }).get? b=some o :=
   fun b o e=>Heap.get?_push_of_some _ (hk b o e)
  have hn:H h'.objs.size=none:=I.hok.fresh hsz;have J:=I.laid (a:=h'.objs.size) (o:=FZ _) (t':=tk) kk hsz (Xq2 (Heap.get?_push_size _ rfl))
  have e1:Same H (upd H h'.objs.size (FZ { cls:=Value.type "function",data:=Data.func (W.fnX name qual params body scope cl Value.none Value.none doc ((X.mg (Str.ofString "__name__")).getD Value.none) none cv ctv) })):=fun b u z=>by rw[Zb0 (Za9 z hn)];exact z
  exact fin J hn e1.toU (TabOk.keep ⟨ps,hp,ht,hcs⟩ e1) ⟨_,_,_,_,Za5,(hcs _ hd cv hm).keep e1.toT⟩
 | none =>
  refine W.makeFunction_K hcl I.ok.glob mgs hc (hC _ kX) hPs ht hm hP (hB _ kX) fun c' ctv doc h' tk ext hc1 hc2 hcr htab=>?_;obtain⟨c2,co,vs,t,e1,e2,e3,e4⟩:=hcr;cases e1;have hPl:P < s.heap.objs.size:=Heap.lt_size hPs
  have hsz:s.heap.objs.size≤h'.objs.size:=by walk_at "o"
  have nf:H h'.objs.size=none:=I.hok.fresh hsz;have nc:H c'=none:=I.hok.fresh hc1
  have ncf:c'≠h'.objs.size:=by walk_at "o"
  have nPc:P≠c':=Nat.ne_of_lt (Nat.lt_of_lt_of_le hPl hc1);have nPf:P≠h'.objs.size:=Nat.ne_of_lt (Nat.lt_of_lt_of_le hPl hsz);generalize hfo:({ cls:=Value.type "function",data:=Data.func (W.fnX name qual params body scope cl Value.none Value.none doc ((X.mg (Str.ofString "__name__")).getD Value.none) none (Value.ref c') ctv) }:Obj)=fo;generalize htr:ps++#[rawInt (pos.line:Int),rawInt (pos.col:Int),Value.ref c']=ps';rw[htr] at htab
  have hps':ps'.toList=ps.toList++[rawInt (pos.line:Int),rawInt (pos.col:Int),Value.ref c']:=by rw[← htr];simp
  have gk:∀ b o,b≠P→s.heap.get? b=some o→(h'.push fo).get? b=some o:=fun b o hb e=>Heap.get?_push_of_some _ (ext b o hb e)
  have oP:∀ b,b≠P→b≠c'→b≠h'.objs.size→(upd (upd (upd H P (.tbl ps')) c' (FZ co)) h'.objs.size (FZ fo)) b=H b:=fun b n1 n2 n3=>by rw[Zb0 n3,Zb0 n2,Zb0 n1]
  have oPP:(upd (upd (upd H P (.tbl ps')) c' (FZ co)) h'.objs.size (FZ fo)) P=some (.tbl ps'):=by rw[Zb0 nPf,Zb0 nPc,Za5]
  have oc:(upd (upd (upd H P (.tbl ps')) c' (FZ co)) h'.objs.size (FZ fo)) c'=some (FZ co):=by rw[Zb0 ncf,Za5]
  have of':(upd (upd (upd H P (.tbl ps')) c' (FZ co)) h'.objs.size (FZ fo)) h'.objs.size=some (FZ fo):=Za5;generalize (upd (upd (upd H P (.tbl ps')) c' (FZ co)) h'.objs.size (FZ fo))=H' at oP oPP oc of'
  have tr:∀ b u,(∀ ps,u≠HO.tbl ps)→H b=some u→H' b=some u:=fun b u nu z=>by
   rw[oP b (fun w=>nu ps (by rw[w,hp] at z;exact (Option.some.inj z).symm)) (Za9 z nc) (Za9 z nf)];exact z
  have hok:HOk X.prog X.w H' (h'.push fo):=fun b u z=>by
   by_cases b1:b=h'.objs.size
   ·subst b1;rw[of'] at z;cases z;exact Xq2 (Heap.get?_push_size _ (by rw[← hfo];rfl))
   by_cases b2:b=c'
   ·subst b2;rw[oc] at z;cases z;exact Xq2 (Heap.get?_push_of_some _ e2)
   by_cases b3:b=P
   ·subst b3;rw[oPP] at z;cases z;exact Heap.get?_push_of_some _ htab
   rw[oP b b3 b2 b1] at z;refine (I.hok b u z).stay (fun d v hd e=>gk d v (fun w=>?_) e) (fun d z=>tr d _ (fun _ q=>nomatch q) z) fun d xs z=>tr d _ (fun _ q=>nomatch q) z;rcases hd with hd | hd
   ·exact b3 (hd.symm.trans w)
   ·rw[w,hp] at hd;cases hd
  have un:Un X.fs [] H H' s.heap (h'.push fo):=by
   refine⟨fun b o e n _ _=>gk b o (fun w=>by rw[w,hp] at n;cases n) e,fun b o e n _ _=>⟨o.slots,gk b o (fun w=>by rw[w,hp] at n;cases n) e⟩,fun b o e n _=>?_,fun b o e _=>?_,fun b xs z=>tr b _ (fun _ q=>nomatch q) z,fun b o u z=>tr b _ (fun _ q=>nomatch q) z,fun b ps2 z=>?_⟩
   ·rw[oP b (fun w=>by rw[w,hp] at n;cases n) (Nat.ne_of_lt (Nat.lt_of_lt_of_le (Heap.lt_size e) hc1)) (Nat.ne_of_lt (Nat.lt_of_lt_of_le (Heap.lt_size e) hsz))];exact n
   ·by_cases b3:b=P
    ·subst b3;exact⟨_,Heap.get?_push_of_some _ htab⟩
    ·exact⟨o,gk b o b3 e⟩
   ·by_cases b3:b=P
    ·subst b3
     rw[hp] at z;cases z;exact⟨_,by rw[oPP,← htr]⟩
    ·refine⟨#[],?_⟩
     rw[oP b b3 (Za9 z nc) (Za9 z nf),z];simp
  have J:Inv X pins σ H' { s with heap:=h'.push fo,toks:=tk }:=I.un un hok;have sT:SameT H H':=tr;have sU:SameU P H H':=⟨tr,fun b u hb z=>by rw[oP b hb (Za9 z nc) (Za9 z nf)];exact z,fun _ _=>⟨_,oPP⟩⟩;have cf:CodeFz H' (.ref c') qual:=⟨c',co,vs,t,rfl,oc,e3,e4⟩
  have tri:TriplesOk [rawInt (pos.line:Int),rawInt (pos.col:Int),Value.ref c']:=by
   unfold rawInt;exact trivial
  have tab:TabOk H' P ds:=by
   refine⟨ps',oPP,by rw[hps'];exact Zw2 ht tri,fun d hd' cv e=>?_⟩;rw[hps',Zr7 ht] at e
   cases hm':codeAmong d.1 ps.toList with
   | some cv2 =>
    rw[hm'] at e;cases e;exact (hcs d hd' cv hm').keep sT
   | none =>
    rw[hm',Option.none_or] at e;unfold rawInt at e;rw[codeAmong] at e
    split at e
    ·rename_i hh
     cases e
     have hh':d.1.line=pos.line∧d.1.col=pos.col:=by
      have:=hh;simp only[Bool.and_eq_true,beq_iff_eq] at this;walk_at "o"
     rw[hds d hd' hh'.1 hh'.2];exact cf
    ·simp[codeAmong] at e
  rw[show W.fnMade name qual params body scope cl doc ((X.mg (Str.ofString "__name__")).getD Value.none) c' ctv=fo from hfo];exact fin J nf sU tab ⟨doc,_,ctv,.ref c',by rw[of',← hfo],cf⟩
def KLe (K K':W.Frag):Prop:=∀ a o,K.lookup a=some o→K'.lookup a=some o
noncomputable def remX (xs:List (Addr×Obj)) (H:Hp):Hp:=fun b=>if b∈xs.map (·.1) then none else H b
noncomputable def Ya3 (xs:List (Addr×Obj)) (H H2:Hp):Hp:=fun b=>if b∈xs.map (·.1) then H b else H2 b
theorem Zk7 {xs:List (Addr×Obj)} {H:Hp} {b:Addr} (h:b∈xs.map (·.1)):remX xs H b=none:=by unfold remX;rw[if_pos h]
theorem Zc9 {xs:List (Addr×Obj)} {H:Hp} {b:Addr} (h:b ∉ xs.map (·.1)):remX xs H b=H b:=by unfold remX;rw[if_neg h]
theorem Zl5 {xs:List (Addr×Obj)} {H H2:Hp} {b:Addr} (h:b∈xs.map (·.1)):Ya3 xs H H2 b=H b:=by unfold Ya3;rw[if_pos h]
theorem Zd8 {xs:List (Addr×Obj)} {H H2:Hp} {b:Addr} (h:b ∉ xs.map (·.1)):Ya3 xs H H2 b=H2 b:=by unfold Ya3;rw[if_neg h]
theorem Zz1:∀ {l:List (Addr×Obj)} {p:Addr×Obj},(∀ q∈l,q.1=p.1→q.2=p.2)→p∈l→l.lookup p.1=some p.2
 | [],_,_,h=>absurd h (by simp)
 | q :: l,p,hc,h=>by
  rw[show q :: l=(q.1,q.2) :: l from rfl,List.lookup_cons]
  by_cases e:q.1=p.1
  ·rw[show (p.1 == q.1)=true from by simp[e]]
   rw[hc q List.mem_cons_self e]
  ·rw[show (p.1 == q.1)=false from by simpa using fun z=>e z.symm]
   exact Zz1 (fun r hr=>hc r (List.mem_cons_of_mem _ hr)) (by
    rcases List.mem_cons.mp h with z | z
    ·exact absurd (by rw[z]) e
    ·exact z)
theorem Zj9:∀ {l:List (Addr×Obj)} {a:Addr} {o:Obj},l.lookup a=some o→(a,o)∈l
 | [],_,_,h=>by cases h
 | (b,u) :: l,a,o,h=>by
  rw[List.lookup_cons] at h
  split at h
  ·rename_i e
   cases h;rw[show a=b from by simpa using e];exact List.mem_cons_self
  ·exact List.mem_cons_of_mem _ (Zj9 h)
theorem Zn8 {h base base':Heap}:∀ {l:List Env},h.FunFrames base l→(∀ b∈frs l,base'.get? b=none)→h.FunFrames base' l
 | [],_,_=>trivial
 | env :: r,⟨hk,⟨L,o,hf,hn,ho,hd⟩,hr⟩,g=>by
  have e:frs (env :: r)=L :: frs r:=by unfold frs;rw[List.filterMap_cons,hf]
  rw[e] at g;exact⟨hk,⟨L,o,hf,g L List.mem_cons_self,ho,hd⟩,Zn8 hr fun b hb=>g b (List.mem_cons_of_mem _ hb)⟩
section
variable {X:Cx} {k:Nat} {f:Addr} {fd:FuncData} {ps:List Str} {sp:Sp}
theorem Xv9 {pins:List (Addr×Obj)} {σ:St} {H:Hp} {s:Shared} {Q:VK} {us:List Value} {vs:List V} (xs cs:List (Addr×Obj)) (I:Inv X pins σ H s) (hxs:∀ p∈xs,H p.1=some (FZ p.2))
  (hcs:∀ p∈cs,s.heap.get? p.1=some p.2∧H p.1=none∧p.1 ∉ frs X.stack) (F:∀ base,FnOk X.prog X.w (X.K++(xs++cs)) X.mg base CX0 k f fd ps sp) (hr:Room k X.A) (hb:Binds X.K fd ps [])
  (r:Vals vs us) (h:sp vs (remX xs H) (fun v H2=>(∀ p∈xs,H2 p.1=none)→Q v (Ya3 xs H H2)) E0):wpAny (model X.prog X.w) X.A (call (.ref f) us) (EP X pins σ Q) X.xe s:=by
 have hx1:∀ p∈xs,s.heap.get? p.1=some p.2:=fun p hp=>(I.hok _ _ (hxs p hp)).1;have good2:∀ p∈xs++cs,s.heap.get? p.1=some p.2:=fun p hp=>(List.mem_append.mp hp).elim (hx1 p) fun z=>(hcs p z).1
 let good:Addr→Prop:=fun b=>(X.base.get? b).isSome=true∨b∈(xs++cs).map (·.1)
 have hdec:∀ b,Decidable (good b):=fun b=>by dsimp only[good];infer_instance
 let hid:List Addr:=(List.range s.heap.objs.size).filter fun b=>!(decide ((X.base.get? b).isSome=true)||decide (b∈(xs++cs).map (·.1)))
 have notin:∀ b,good b→b ∉ hid:=fun b g hm=>by
  have q:=(List.mem_filter.mp hm).2;rcases g with g | g
  ·simp[g] at q
  ·rw[decide_eq_true g] at q;simp at q
 have isin:∀ b,¬ good b→b < s.heap.objs.size→b∈hid:=fun b g hl=>by
  refine List.mem_filter.mpr ⟨List.mem_range.mpr hl,?_⟩;rw[decide_eq_false (fun z=>g (.inl z)),decide_eq_false (fun z=>g (.inr z))];rfl
 let base':Heap:=W.hideAll s.heap hid
 have gget:∀ b o,s.heap.get? b=some o→good b→base'.get? b=some o:=fun b o e g=>W.hideAll_get _ e (notin b g)
 have gof:∀ b o,base'.get? b=some o→s.heap.get? b=some o∧good b:=fun b o e=>by
  have e':s.heap.get? b=some o:=W.of_hideAll hid e;refine⟨e',?_⟩
  by_cases g:good b
  ·exact g
  ·have z:base'.get? b=none:=W.hideAll_none hid (isin b g (Heap.lt_size e'))
   rw[z] at e;cases e
 have gb:∀ b o,X.base.get? b=some o→base'.get? b=some o:=fun b o e=>gget b o (I.bk b o e) (.inl (by rw[e];rfl))
 have goodH:∀ b,good b→remX xs H b=none:=fun b g=>by
  rcases g with g | g
  ·obtain⟨o,e⟩:=Option.isSome_iff_exists.mp g
   by_cases z:b∈xs.map (·.1)
   ·exact Zk7 z
   ·rw[Zc9 z];exact (I.bs b o e).2
  ·rw[List.map_append] at g
   rcases List.mem_append.mp g with g | g
   ·exact Zk7 g
   ·by_cases z:b∈xs.map (·.1)
    ·exact Zk7 z
    ·rw[Zc9 z]
     obtain⟨p,hp,rfl⟩:=List.mem_map.mp g;exact (hcs p hp).2.1
 have kin':W.Frag.In (X.K++(xs++cs)) base':=fun a o e=>by
  have e:List.lookup a (X.K++(xs++cs))=some o:=e;rw[List.lookup_append] at e
  cases z:List.lookup a X.K with
  | some o' =>
   rw[z] at e;cases e;exact gb a o (I.ok.mod.kin a o z)
  | none =>
   rw[z,Option.none_or] at e;have hm:(a,o)∈xs++cs:=Zj9 e;exact gget a o (good2 _ hm) (.inr (List.mem_map.mpr ⟨_,hm,rfl⟩))
 have nsB:∀ {b:Addr} {m:Str→Option Value},X.base.Ns b m→base'.Ns b m:=fun {b m} ⟨o,es,ep,e,d,r⟩=>⟨o,es,ep,gb b o e,d,r⟩
 have xfree:∀ b,b∈xs.map (·.1)→∃ o,H b=some (FZ o)∧s.heap.get? b=some o:=fun b z=>by
  obtain⟨p,hp,rfl⟩:=List.mem_map.mp z;exact⟨p.2,hxs p hp,hx1 p hp⟩
 have frames:∀ b∈frs X.stack,base'.get? b=none:=fun b hb=>by
  cases z:base'.get? b with
  | none=>rfl
  | some o =>
   obtain⟨e,g⟩:=gof b o z;rcases g with g | g
   ·have:=(I.stack.mem hb).1
    rw[this] at g;simp at g
   ·rw[List.map_append] at g
    rcases List.mem_append.mp g with g | g
    ·obtain⟨o',e',_⟩:=xfree b g
     rw[I.stkFree b hb] at e';cases e'
    ·obtain⟨p,hp,rfl⟩:=List.mem_map.mp g
     exact absurd hb (hcs p hp).2.2
 have e0:Env0 X.prog X.w (X.K++(xs++cs)) X.mg base' X.A X.stack s (remX xs H):=by
  refine⟨I.ok.frames,⟨kin',nsB I.ok.mod.glob,?_,?_⟩,fun b o e=>⟨(gof b o e).1,goodH b (gof b o e).2⟩,Nat.le_of_eq (W.hideAll_size _ _),Zn8 I.stack frames,fun b hb=>?_,fun a o z=>?_,I.bare⟩
  ·obtain⟨mb,h1,h2⟩:=I.ok.mod.blt
   exact⟨mb,nsB h1,h2⟩
  ·obtain⟨mc,h1,h2⟩:=I.ok.mod.nolimit
   exact⟨mc,nsB h1,h2⟩
  ·by_cases z:b∈xs.map (·.1)
   ·exact Zk7 z
   ·rw[Zc9 z];exact I.stkFree b hb
  ·by_cases y:a∈xs.map (·.1)
   ·rw[Zk7 y] at z;cases z
   ·rw[Zc9 y] at z
    refine (I.hok a o z).stay (fun b u _ e=>e) (fun b q=>?_) fun b ys q=>?_
    ·rw[Zc9 fun y=>by obtain⟨o',e',_⟩:=xfree b y;rw[q] at e';cases e'];exact q
    ·rw[Zc9 fun y=>by obtain⟨o',e',_⟩:=xfree b y;rw[q] at e';cases e'];exact q
 have hl:us.length=ps.length:=by rw[← r.length];exact (F base').len _ _ _ _ h
 have hbd:BindsTo s fd ⟨us,[]⟩ (ps.zip us):=by
  have:=hb s us I.kIn (by rw[List.append_nil];exact hl);rw[List.append_nil] at this;exact this
 refine wpAny_call (codeAny_mono ((F base').run X.A X.stack s (remX xs H) ⟨us,[]⟩ us vs _ E0 hr e0 hbd r h) fun rr s' hq=>?_)
 cases rr with
 | error e=>exact False.elim hq
 | ok fl =>
  cases fl with
  | next=>exact False.elim hq
  | brk=>exact False.elim hq
  | cont=>exact False.elim hq
  | ret u =>
   obtain⟨v,H2,os,bare,un,hok2,rv,q⟩:=hq
   have none2:∀ b,b∈xs.map (·.1)→H2 b=none:=fun b z=>by
    obtain⟨o,_,e⟩:=xfree b z;exact un.free b o e (Zk7 z) (by simp)
   have outX:∀ {b:Addr} {u:HO},H b=some u→(∀ o,u≠FZ o)→b ∉ xs.map (·.1):=fun {b u} e n z=>by
    obtain⟨o,e',_⟩:=xfree b z;rw[e] at e';cases e';exact n o rfl
   refine⟨v,Ya3 xs H H2,I.call' (ch:=[]) os ⟨fun b o e n hb hx=>un.keep b o e ?_ hb hx,fun b o e n hb hx=>un.slot b o e ?_ hb hx,fun b o e n hx=>?_,un.there,fun b ys e=>?_,fun b o u e=>?_,fun b ys e=>?_⟩ (fun a o z=>?_) bare (fun b z=>absurd z (by simp)),rv,q fun p hp=>none2 p.1 (List.mem_map.mpr ⟨p,hp,rfl⟩)⟩
   ·by_cases z:b∈xs.map (·.1)
    ·exact Zk7 z
    ·rw[Zc9 z];exact n
   ·by_cases z:b∈xs.map (·.1)
    ·exact Zk7 z
    ·rw[Zc9 z];exact n
   ·by_cases z:b∈xs.map (·.1)
    ·rw[Zl5 z];exact n
    ·rw[Zd8 z];exact un.free b o e (by rw[Zc9 z];exact n) hx
   ·have z:=outX e (fun _ q=>nomatch q)
    rw[Zd8 z];exact un.tups b ys (by rw[Zc9 z];exact e)
   ·by_cases z:b∈xs.map (·.1)
    ·rw[Zl5 z];exact e
    ·rw[Zd8 z];exact un.frzs b o u (by rw[Zc9 z];exact e)
   ·have z:=outX e (fun _ q=>nomatch q)
    rw[Zd8 z];exact un.tbls b ys (by rw[Zc9 z];exact e)
   ·by_cases y:a∈xs.map (·.1)
    ·rw[Zl5 y] at z
     obtain⟨o',e',g⟩:=xfree a y;rw[z] at e';cases e';exact Xq2 (un.keep a o' g (Zk7 y) (fun hb=>by rw[I.stkFree a hb] at z;cases z) (by simp))
    ·rw[Zd8 y] at z
     refine (hok2 a o z).stay (fun b u _ e=>e) (fun b q=>?_) fun b ys q=>?_
     ·rw[Zd8 fun y=>by rw[none2 b y] at q;cases q];exact q
     ·rw[Zd8 fun y=>by rw[none2 b y] at q;cases q];exact q
theorem Yj4 {xs:List (Addr×Obj)} {H H2:Hp} (h:Same (remX xs H) H2):Same H (Ya3 xs H H2):=fun b o e=>by
 by_cases z:b∈xs.map (·.1)
 ·rw[Zl5 z];exact e
 ·rw[Zd8 z];exact h b o (by rw[Zc9 z];exact e)
def Xm7 (X:Cx) (σ:St) (ix:List Nat) (cs:List (Addr×Obj)):Prop :=
 Paired (fun (i:Nat) (p:Addr×Obj)=>∃ x v u,X.N[i]?=some x∧σ[i]?=some (some v)∧X.env.cells.lookup x=some p.1∧p.2.data=.cell (some u)∧RelV v u) ix cs
def Zl6 (X:Cx) (k:Nat) (f:Addr) (fd:FuncData) (ps:List Str) (ix:List Nat) (t:TA):TE:=fun σ H Q=>t σ H fun vs H1=>(∀ i∈ix,∃ v,σ[i]?=some (some v))∧∃ xs:List (Addr×Obj),(∀ p∈xs,H1 p.1=some (FZ p.2)) ∧
 ∀ (K':W.Frag) (cs:List (Addr×Obj)),X.Ok→KLe X.K K'→(∀ a o,K'.lookup a=some o→X.K.lookup a=some o∨(a,o)∈xs++cs)→(∀ p∈xs++cs,K'.lookup p.1=some p.2)→Xm7 X σ ix cs →
  ∃ sp:Sp,(∀ base,FnOk X.prog X.w K' X.mg base CX0 k f fd ps sp)∧sp vs (remX xs H1) (fun v H2=>(∀ p∈xs,H2 p.1=none)→Q v (Ya3 xs H1 H2)) E0
theorem Inv.cellsAt {pins:List (Addr×Obj)} {σ:St} {H:Hp} {s:Shared} (I:Inv X pins σ H s):∀ (ix:List Nat),(∀ i∈ix,∃ x,X.N[i]?=some x∧X.env.scope.names.lookup x=some .cell∧X.fn x=true)→(∀ i∈ix,∃ v,σ[i]?=some (some v)) →
  ∃ cs,Xm7 X σ ix cs∧∀ p∈cs,s.heap.get? p.1=some p.2∧H p.1=none∧p.1 ∉ frs X.stack∧X.K.lookup p.1=none
 | [],_,_=>⟨[],.nil,fun _ h=>absurd h (by simp)⟩
 | i :: ix,h1,h2=>by
  obtain⟨cs,g1,g2⟩:=I.cellsAt ix (fun j hj=>h1 j (List.mem_cons_of_mem _ hj)) fun j hj=>h2 j (List.mem_cons_of_mem _ hj);obtain⟨x,e1,e2,e3⟩:=h1 i List.mem_cons_self;obtain⟨v,e4⟩:=h2 i List.mem_cons_self;obtain⟨m,_,hm⟩:=I.loc;obtain⟨u,rv,lk⟩:=hm i x v e1 e4 (.inr (.inl e2));rcases lk with ⟨lk,_⟩ | ⟨_,c,lk,o,ho,hd⟩
  ·have lk':X.env.scope.names.lookup x=some .local:=lk
   rw[e2] at lk';cases lk'
  ·have hc:=I.ok.cab x c e3 lk
   refine⟨(c,o) :: cs,.cons ⟨x,v,u,e1,e4,lk,hd,rv⟩ g1,fun p hp=>?_⟩;rcases List.mem_cons.mp hp with rfl | hp
   ·refine⟨ho,I.freeC x c lk,fun hb=>?_,?_⟩
    ·rcases List.mem_cons.mp (I.stkSub _ hb) with z | z
     ·exact I.cne x c lk z
     ·obtain⟨_,o',ho',_⟩:=I.ok.funs.mem z
      exact absurd (Heap.lt_size ho') (Nat.not_lt.mpr hc)
    ·cases z:X.K.lookup c with
     | none=>rfl
     | some o'=>exact absurd (Heap.lt_size (I.ok.bs c o' (I.ok.mod.kin c o' z)).1) (Nat.not_lt.mpr hc)
   ·exact g2 p hp
theorem Zq3 {x:Str} {p pos:Pos} {e:Expr} {es:List Expr} {t:TA} {ix:List Nat} (hr:Room k X.A) (hg:Gl X x) (hm:X.mg x=some (.ref f)) (hk:W.keepIn X.K (.ref f)=true) (hb:Binds X.K fd ps [])
  (hix:∀ i∈ix,∃ x,X.N[i]?=some x∧X.env.scope.names.lookup x=some .cell∧X.fn x=true)
  (ha:PA X (e :: es) t) (hdb:(x == ("__debug__":Str))=false:=by decide) (he:starEach (e :: es) X.env=(false,eval e X.env) :: starEach es X.env:=by rfl) (hpl:(backTo pos (starEach es X.env)).any (·.1)=false:=by rfl) :
  PE X (.Call (.Name x p) (e :: es) [] pos) (Zl6 X k f fd ps ix t):=by with_unfolding_all
 intro pins s σ H Q I h;refine wpAny_Call_Name_kw (Zt3 I hg hm ?_ hdb);refine W.callWith_K (h₀:=X.base) I.ok.mod.kin hk (thn (ha pos pins s σ H _ I h) fun us s1 ⟨vs,H1,I1,r,hσ,xs,hxs,q⟩=>⟨I1.kIn,?_⟩) he hpl;obtain⟨cs,g1,g2⟩:=I1.cellsAt ix hix hσ;have hx1:∀ p∈xs,s1.heap.get? p.1=some p.2:=fun p hp=>(I1.hok _ _ (hxs p hp)).1;have good2:∀ p∈xs++cs,s1.heap.get? p.1=some p.2:=fun p hp=>(List.mem_append.mp hp).elim (hx1 p) fun z=>(g2 p z).1
 obtain⟨sp,F,hs⟩:=q (X.K++(xs++cs)) cs I1.ok (fun a o z=>by
   show List.lookup a (X.K++(xs++cs))=some o
   rw[List.lookup_append,show List.lookup a X.K=some o from z];rfl) (fun a o z=>by
   have z:List.lookup a (X.K++(xs++cs))=some o:=z;rw[List.lookup_append] at z
   cases y:List.lookup a X.K with
   | some o' =>
    rw[y] at z;cases z;exact .inl rfl
   | none =>
    rw[y,Option.none_or] at z
    exact .inr (Zj9 z)) (fun p hp=>by
   have kn:X.K.lookup p.1=none:=by
    rcases List.mem_append.mp hp with z | z
    ·cases y:X.K.lookup p.1 with
     | none=>rfl
     | some o =>
      have:=(I1.bs p.1 o (I1.ok.mod.kin _ _ y)).2;rw[hxs p z] at this;cases this
    ·exact (g2 p z).2.2.2
   show List.lookup p.1 (X.K++(xs++cs))=some p.2;rw[List.lookup_append,show List.lookup p.1 X.K=none from kn,Option.none_or]
   exact Zz1 (fun q hq e=>by
    have h1:=good2 q hq;rw[e,good2 p hp] at h1
    exact (Option.some.inj h1).symm) hp) g1
 exact Xv9 xs cs I1 hxs (fun p hp=>⟨(g2 p hp).1,(g2 p hp).2.1,(g2 p hp).2.2.1⟩) F hr hb r hs
end
theorem Xh0 {P:Program} {w:World} {K:W.Frag} {mg mb:Str→Option Value} {CX:CXT} {k:Nat} {fa a:Addr} {fd:FuncData} {x:Str} {sp:Sp} {s₁:Shared} {vs:List Value} {ns:List Int} {ts:List Addr}
  (KX:K.In s₁.heap) (hns:s₁.heap.Ns mainGlobals mg) (hb:s₁.heap.Ns builtinsNs mb) (hbb:∀ x:Str,x≠"__name__"→mb x=bootBuiltins x) (hlim:s₁.heap.NoLimit) (hg:s₁.gens=#[])
  (ha:s₁.heap.get? a=some { cls:=.type "list",data:=.seq vs.toArray }) (hi:IntsAre vs ns) (hl:ns.length≤sizeLine) (hr:Room k callerA)
  (hT:∀ p∈ts,s₁.heap.get? p=some (W.tabObj #[])) (hTK:∀ p∈ts,K.lookup p=none) (hTc:∀ p∈ts,isCodeTable s₁.heap p)
  (F:∀ base:Heap,K.In base→base.Ns mainGlobals mg→FnOk P w K mg base CX k fa fd [x] sp) (hbind:∀ (s:Shared) (u:Value),BindsTo s fd ⟨[u],[]⟩ [(x,u)])
  (hsp:∀ H:Hp,(∀ p∈ts,H p=some (.tbl #[]))→SqL K H a (ns.map V.int)→sp [.ref a] H (fun v _=>v=.bl true) fun _ _ _=>False)
  (hCX:∀ H e s',CX [] H s₁ (fun _ _ _=>False) e s'→False) :
  codeAny (model P w) callerA (.call (.ref fa) ⟨[.ref a],[]⟩) (fun r s'=>r=.ok (.ret (.bool true))∧OldK s₁.heap s'.heap∧s'.os=s₁.os∧AllBare s'.gens) s₁:=by
 have rv:=Zw0 hi;have lenV:=hi.length
 have core:∀ H:Hp,(∀ b u,H b=some u→(b=a∧K.lookup a=none∧∃ xs,u=.frz { cls:=.type "list",data:=.seq vs.toArray } (.lst xs))∨(b∈ts∧u=.tbl #[]))→(∀ p∈ts,H p=some (.tbl #[]))→SqL K H a (ns.map V.int)→HOk P w H s₁.heap →
   codeAny (model P w) callerA (.call (.ref fa) ⟨[.ref a],[]⟩) (fun r s'=>r=.ok (.ret (.bool true))∧OldK s₁.heap s'.heap∧s'.os=s₁.os∧AllBare s'.gens) s₁:=by
  intro H hA hTb hS hok;have base_of:∀ {b:Addr} {o:Obj},s₁.heap.get? b=some o→H b=none→(hidT s₁.heap H).get? b=some o:=fun e n=>Xq0 e n
  have noA:∀ {b:Addr} {o:Obj} {es:Array DictEntry} {ep:Nat},s₁.heap.get? b=some o→o.data=.dict es ep→H b=none:=fun {b o es ep} e d=>by
   cases q:H b with
   | none=>rfl
   | some u =>
    rcases hA b u q with ⟨rfl,_⟩ | ⟨hb,_⟩
    ·rw[ha] at e;cases e
     have d':Data.seq vs.toArray _=Data.dict es ep:=d;cases d'
    ·rw[hT b hb] at e;cases e
     have d':Data.fields #[]=Data.dict es ep:=d;cases d'
  have nsK:∀ {b:Addr} {m:Str→Option Value},s₁.heap.Ns b m→(hidT s₁.heap H).Ns b m:=fun {b m} ⟨o,es,ep,e,d,r⟩=>⟨o,es,ep,base_of e (noA e d),d,r⟩
  have hKb:K.In (hidT s₁.heap H):=fun b o e=>base_of (KX b o e) (by
   cases q:H b with
   | none=>rfl
   | some u =>
    rcases hA b u q with ⟨rfl,hk,_⟩ | ⟨hb,_⟩
    ·rw[hk] at e;cases e
    ·rw[hTK b hb] at e;cases e)
  have hM:Mod K mg (hidT s₁.heap H):=⟨hKb,nsK hns,⟨mb,nsK hb,hbb⟩,let ⟨mc,h1,h2⟩:=hlim;⟨mc,nsK h1,h2⟩⟩;have e0:Env0 P w K mg (hidT s₁.heap H) callerA [] s₁ H:=⟨rfl,hM,fun b o e=>Xx4 e,Nat.le_of_eq (Xi7 _ _),trivial,fun b hb=>absurd (show b∈([]:List Addr) from hb) (by simp),hok,.of_eq hg⟩;refine codeAny_mono ((F _ hKb (nsK hns)).run callerA [] s₁ H ⟨[.ref a],[]⟩ [.ref a] [.ref a] _ _ hr e0 (hbind s₁ (.ref a)) (.cons rfl .nil) (hsp H hTb hS)) fun r s' h=>?_
  cases r with
  | error e=>exact (hCX H e s' h).elim
  | ok fl =>
   cases fl with
   | next=>exact False.elim h
   | brk=>exact False.elim h
   | cont=>exact False.elim h
   | ret u =>
    obtain⟨v,H',os,bare,un,hok',r',q⟩:=h;have q':v=.bl true:=q;subst q';obtain rfl:u=Value.bool true:=r';refine⟨rfl,⟨fun b o e=>?_,fun b o e=>un.there b o e (by simp)⟩,os,bare⟩
    cases q:H b with
    | none=>exact .inl (un.keep b o e q (by intro z;exact absurd (show b∈([]:List Addr) from z) (by simp)) (by simp))
    | some u =>
     rcases hA b u q with ⟨rfl,_,xs,rfl⟩ | ⟨hb,rfl⟩
     ·have z2:=un.frzs b _ _ q
      obtain⟨e1,_⟩:=hok b _ q;obtain⟨e2,_⟩:=hok' b _ z2;rw[e] at e1;cases e1;exact .inl e2
     ·obtain⟨more,z2⟩:=un.tbls b _ q
      have e2:=hok' b _ z2;rw[hT b hb] at e;cases e;exact .inr (.inl ⟨hTc b hb,rfl,#[],more,rfl,e2⟩)
 have naT:a ∉ ts:=fun z=>by
  have:=hT a z;rw[ha] at this;have h2:=congrArg Obj.cls (Option.some.inj this);cases h2
 cases hk:K.lookup a with
 | some o =>
  have e:=KX a o hk;rw[ha] at e;cases e;refine core (fun b=>if b∈ts then some (.tbl #[]) else none) (fun b u z=>?_) (fun p hp=>if_pos hp) (.inr ⟨_,vs.toArray,_,hk,rfl,rfl,rfl,by rw[List.size_toArray,lenV];exact hl,by simpa using rv⟩) (fun b u z=>?_)
  ·by_cases hb:b∈ts
   ·have z':=(if_pos hb).symm.trans z
    cases z';exact .inr ⟨hb,rfl⟩
   ·have z':=(if_neg hb).symm.trans z
    cases z'
  ·by_cases hb:b∈ts
   ·have z':=(if_pos hb).symm.trans z
    cases z';exact hT b hb
   ·have z':=(if_neg hb).symm.trans z
    cases z'
 | none =>
  refine core (fun b=>if b∈ts then some (.tbl #[]) else if b=a then some (.frz { cls:=.type "list",data:=.seq vs.toArray } (.lst (ns.map V.int))) else none) (fun b u z=>?_) (fun p hp=>if_pos hp) (.inl (.inr ⟨{ cls:=.type "list",data:=.seq vs.toArray },(if_neg naT).trans (if_pos rfl)⟩)) (fun b u z=>?_)
  ·by_cases hb:b∈ts
   ·have z':=(if_pos hb).symm.trans z
    cases z';exact .inr ⟨hb,rfl⟩
   ·have z':=(if_neg hb).symm.trans z
    by_cases hba:b=a
    ·rw[if_pos hba] at z'
     cases z';exact .inl ⟨hba,hk,_,rfl⟩
    ·rw[if_neg hba] at z'
     cases z'
  ·by_cases hb:b∈ts
   ·have z':=(if_pos hb).symm.trans z
    cases z';exact hT b hb
   ·have z':=(if_neg hb).symm.trans z
    by_cases hba:b=a
    ·rw[if_pos hba] at z'
     cases z';subst hba;exact⟨ha,by rw[List.length_map];exact hl,vs,_,rv,ha⟩
    ·rw[if_neg hba] at z'
     cases z'
structure BltK (K:W.Frag) (mg:Str→Option Value) (bm:Addr):Prop where
 m:mg (Str.ofString "__builtins__")=some (.ref bm)
 l:∃ ob,K.lookup bm=some ob∧ob.cls=.type "module"∧ob.dict=some builtinsNs∧ob.data=.plain
 n1:bm≠builtinsNs
 n2:bm≠mainGlobals
theorem BltK.at {K:W.Frag} {mg:Str→Option Value} {bm:Addr} (b:BltK K mg bm) {T:Addr} (n:bm≠T) (h:Heap) (k:K.In h):h.BuiltinsAt mg T:=by
 obtain⟨ob,l,c,d,e⟩:=b.l;exact⟨bm,ob,b.m,b.n1,b.n2,n,k _ _ l,c,d,e⟩
end L2
namespace Ken
open PySem L2
theorem Zf0:bootBuiltins "len"=some (.builtin "len"):=by decide +kernel
theorem Zh6:bootBuiltins "isinstance"=some (.builtin "isinstance"):=by decide +kernel
theorem boot_max:bootBuiltins "max"=some (.builtin "max"):=by decide +kernel
theorem Yr8:bootBuiltins "sorted"=some (.builtin "sorted"):=by decide +kernel
theorem Yg9:bootBuiltins "int"=some (.type "int"):=by decide +kernel
theorem Xm0:bootBuiltins "bool"=some (.type "bool"):=by decide +kernel
theorem Zt6:bootBuiltins "tuple"=some (.type "tuple"):=by decide +kernel
theorem Xl9:bootBuiltins "list"=some (.type "list"):=by decide +kernel
inductive Kd where
 | both | one | thn
 deriving DecidableEq
noncomputable def Kd.str:Kd→Str
 | .both=>"both"
 | .one=>"one"
 | .thn=>"then"
inductive Tm where
 | low
 | ltr (w:Str)
 | nd (k:Kd) (a b:Tm)
 deriving DecidableEq
noncomputable def Tm.data:Tm→PyData
 | .low=>.tuple [.str "low"]
 | .ltr w=>.tuple [.str "letter",.str w]
 | .nd k a b=>.tuple [.str k.str,a.data,b.data]
noncomputable def Tm.parts:Tm→Nat
 | .low=>1
 | .ltr _=>1
 | .nd _ a b=>1+a.parts+b.parts
noncomputable def Tm.deep:Tm→Nat
 | .low=>1
 | .ltr _=>1
 | .nd _ a b=>1+max a.deep b.deep
def Word (x:Str):Prop:=1≤x.cps.toList.length∧x.cps.toList.length≤8∧∀ c∈x.cps.toList,97≤c∧c≤122
theorem Word.strOk {x:Str} (h:Word x):PySem.PyData.strOk x=true:=by
 unfold PySem.PyData.strOk;rw[Array.all_eq_true_iff_forall_mem];intro c hc;have:=h.2.2 c (by simpa using hc);exact decide_eq_true (by walk_at "o")
def Tm.ok:Tm→Prop
 | .low=>True
 | .ltr w=>Word w
 | .nd _ a b=>a.ok∧b.ok
abbrev IsT (K:W.Frag) (H:Hp) (v:V) (t:Tm):Prop:=Dn K H v t.data
theorem Tm.noList:∀ t:Tm,L2.noList t.data=true
 | .low=>rfl
 | .ltr _=>rfl
 | .nd k a b=>by
  show (true&&(L2.noList a.data&&(L2.noList b.data&&true)))=true;rw[a.noList,b.noList];rfl
theorem Tm.lay:∀ t:Tm,t.ok→t.data.canLay0=true
 | .low,_=>by
  show (PySem.PyData.strOk "low"&&true)=true;decide +kernel
 | .ltr w,h=>by
  show (PySem.PyData.strOk "letter"&&(PySem.PyData.strOk w&&true))=true;rw[Word.strOk h];decide +kernel
 | .nd k a b,h=>by
  show (PySem.PyData.strOk k.str&&(a.data.canLay0&&(b.data.canLay0&&true)))=true;rw[a.lay h.1,b.lay h.2]
  cases k<;>decide +kernel
theorem Tm.depth:∀ t:Tm,t.data.depth=t.deep
 | .low=>rfl
 | .ltr _=>rfl
 | .nd k a b=>by
  show max 0 (max a.data.depth (max b.data.depth 0))+1=1+max a.deep b.deep;rw[a.depth,b.depth];walk_at "o"
section
variable {K:W.Frag} {H H':Hp} {v:V}
theorem IsT.keep {t:Tm} (h:IsT K H v t) (k:KeepT K H H'):IsT K H' v t:=Dn.keepT k t.noList h
theorem isT_low:IsT K H v .low↔∃ a,v=.ref a∧SqT K H a [.str "low"]:=by
 show Dn K H v (.tuple [.str "low"])↔_;rw[Dn];constructor
 ·rintro⟨a,xs,rfl,hs,hd⟩
  rw[DnAll] at hd;obtain⟨x,r,rfl,h1,h2⟩:=hd;rw[Dn] at h1;rw[DnAll] at h2;subst h1;subst h2;exact⟨a,rfl,hs⟩
 ·rintro⟨a,rfl,hs⟩
  refine⟨a,_,rfl,hs,?_⟩;rw[DnAll];exact⟨_,_,rfl,by rw[Dn],by rw[DnAll]⟩
theorem isT_ltr {w:Str}:IsT K H v (.ltr w)↔∃ a,v=.ref a∧SqT K H a [.str "letter",.str w]:=by
 show Dn K H v (.tuple [.str "letter",.str w])↔_;rw[Dn];constructor
 ·rintro⟨a,xs,rfl,hs,hd⟩
  rw[DnAll] at hd;obtain⟨x,r,rfl,h1,h2⟩:=hd;rw[DnAll] at h2;obtain⟨y,r,rfl,h3,h4⟩:=h2;rw[Dn] at h1 h3;rw[DnAll] at h4;subst h1;subst h3;subst h4;exact⟨a,rfl,hs⟩
 ·rintro⟨a,rfl,hs⟩
  refine⟨a,_,rfl,hs,?_⟩;rw[DnAll];refine⟨_,_,rfl,by rw[Dn],?_⟩;rw[DnAll];exact⟨_,_,rfl,by rw[Dn],by rw[DnAll]⟩
theorem isT_nd {k:Kd} {a b:Tm}:IsT K H v (.nd k a b)↔∃ p x y,v=.ref p∧SqT K H p [.str k.str,x,y]∧IsT K H x a∧IsT K H y b:=by
 show Dn K H v (.tuple [.str k.str,a.data,b.data])↔_;rw[Dn];constructor
 ·rintro⟨p,xs,rfl,hs,hd⟩
  rw[DnAll] at hd;obtain⟨x,r,rfl,h1,h2⟩:=hd;rw[DnAll] at h2;obtain⟨y,r,rfl,h3,h4⟩:=h2;rw[DnAll] at h4;obtain⟨z,r,rfl,h5,h6⟩:=h4;rw[Dn] at h1;rw[DnAll] at h6;subst h1;subst h6;exact⟨p,y,z,rfl,hs,h3,h5⟩
 ·rintro⟨p,x,y,rfl,hs,h1,h2⟩
  refine⟨p,_,rfl,hs,?_⟩;rw[DnAll];refine⟨_,_,rfl,by rw[Dn],?_⟩;rw[DnAll];refine⟨_,_,rfl,h1,?_⟩;rw[DnAll];exact⟨_,_,rfl,h2,by rw[DnAll]⟩
end
theorem Xz9 (a b c d e f:PyData):PyData.eqvAll [a,b,c] [d,e,f]=(PyData.eqv a d&&(PyData.eqv b e&&PyData.eqv c f)):=by
 simp[PyData.eqvAll]
theorem Kd.str_inj {a b:Kd} (h:a.str=b.str):a=b:=by
 cases a<;>cases b<;>first | rfl | exact absurd h (by decide)
theorem Tm.eqv:∀ s t:Tm,PyData.eqv s.data t.data=decide (s=t)
 | .low,.low=>by decide
 | .low,.ltr w=>by
  show PyData.eqvAll [.str "low"] [.str "letter",.str w]=_;simp[PyData.eqvAll]
 | .low,.nd k a b=>by
  show PyData.eqvAll [.str "low"] [.str k.str,a.data,b.data]=_;simp[PyData.eqvAll]
 | .ltr w,.low=>by
  show PyData.eqvAll [.str "letter",.str w] [.str "low"]=_;simp[PyData.eqvAll]
 | .ltr w,.ltr v=>by
  show (PyData.eqv (.str "letter") (.str "letter")&&(PyData.eqv (.str w) (.str v)&&true))=_;simp[PyData.eqv];rfl
 | .ltr w,.nd k a b=>by
  show PyData.eqvAll [.str "letter",.str w] [.str k.str,a.data,b.data]=_;simp[PyData.eqvAll]
 | .nd k a b,.low=>by
  show PyData.eqvAll [.str k.str,a.data,b.data] [.str "low"]=_;simp[PyData.eqvAll]
 | .nd k a b,.ltr w=>by
  show PyData.eqvAll [.str k.str,a.data,b.data] [.str "letter",.str w]=_;simp[PyData.eqvAll]
 | .nd k a b,.nd l c d=>by
  show PyData.eqvAll [.str k.str,a.data,b.data] [.str l.str,c.data,d.data]=_;rw[Xz9,a.eqv c,b.eqv d]
  have e:PyData.eqv (.str k.str) (.str l.str)=decide (k=l):=by
   show (k.str == l.str)=_
   by_cases h:k=l
   ·subst h;simp
   ·have:¬ k.str=l.str:=fun z=>h (Kd.str_inj z)
    rw[decide_eq_false h];exact beq_eq_false_iff_ne.mpr this
  rw[e]
  by_cases h1:k=l<;>by_cases h2:a=c<;>by_cases h3:b=d<;>simp[h1,h2,h3]
noncomputable def mix (c k:Int):Int:=((c+1)*(48271+118*k) % 2147483629 / 977*16807+(c+1)*(48271+118*k) % 2147483629*(k*k+7)+k) % 2147483587
theorem Zy9 (c k:Int):0≤mix c k:=by unfold mix;exact Int.emod_nonneg _ (by decide)
def Zp6:Sp:=fun vs H Q _=>∃ c k:Int,vs=[.int c,.int k]∧0≤k∧k≤100000∧Q (.int (mix c k)) H
noncomputable def cellOf (ns:List Int) (k:Int):Int:=mix (if k < (ns.length:Int) then (ns[k.toNat]?.getD 0) % 2147483647 else 0) (k+101)
theorem Yr7 (ns:List Int) (k:Int):0≤cellOf ns k:=Zy9 _ _
def Zx5 (K:W.Frag):Sp:=fun vs H Q _=>∃ (a:Addr) (ns:List Int) (k:Int),vs=[.ref a,.int k]∧SqL K H a (ns.map V.int)∧ns.length≤63∧0≤k∧k≤1000∧Q (.int (cellOf ns k)) H
def Xa8 (ws:List Str):Prop:=2≤ws.length∧ws.length≤6∧∀ w∈ws,Word w
def Yt0:Sp:=fun vs H Q _=>∃ c m:Int,vs=[.int c,.int m]∧0≤c∧2≤m∧m≤6 ∧
 ∀ (r:Addr) (H':Hp) (ws:List Str),Same H H'→H r=none→H' r=some (.lst (ws.map V.str))→Xa8 ws→Q (.ref r) H'
def Tm.inW (ws:List Str):Tm→Prop
 | .low=>True
 | .ltr w=>w∈ws
 | .nd _ a b=>a.inW ws∧b.inW ws
theorem Tm.inW.ok {ws:List Str} (hw:∀ w∈ws,Word w):∀ {t:Tm},t.inW ws→t.ok
 | .low,_=>trivial
 | .ltr w,h=>hw w h
 | .nd _ a b,h=>⟨Tm.inW.ok hw h.1,Tm.inW.ok hw h.2⟩
def Made (K:W.Frag) (H:Hp) (ws:List Str) (p d:Nat) (r:V) (t:Tm):Prop:=IsT K H r t∧t.inW ws∧t.parts≤p∧t.deep≤d
theorem Made.mono {K:W.Frag} {H H':Hp} {ws:List Str} {p d p' d':Nat} {r:V} {t:Tm} (h:Made K H ws p d r t) (k:KeepT K H H') (hp:p≤p') (hd:d≤d'):Made K H' ws p' d' r t :=
 ⟨h.1.keep k,h.2.1,Nat.le_trans h.2.2.1 hp,Nat.le_trans h.2.2.2 hd⟩
def Yn5 (K:W.Frag):Sp:=fun vs H Q _=>∃ (c:Int) (wa:Addr) (ws:List Str),vs=[.int c,.ref wa]∧SqL K H wa (ws.map V.str)∧Xa8 ws ∧
 ∀ (r:V) (H':Hp) (t:Tm),Same H H'→Made K H' ws 1 1 r t→Q r H'
noncomputable def rk (n:Int):Nat:=if n < 40 then n.toNat else if n≤53 then 40 else if n≤71 then 41 else if n≤95 then 42 else if n≤127 then 43 else if n≤170 then 44 else if n≤227 then 45 else 46
theorem Wd3 {n:Int} (h0:3≤n) (h1:n < 40):rk (n - 2) < rk n:=by
 unfold rk;rw[if_pos (by walk_at "o"),if_pos (by walk_at "o")];walk_at "o"
theorem Xd9 {n m:Int} (h0:3≤n) (h1:n < 40) (h2:m≤n - 1):rk m < rk n:=by
 unfold rk;rw[if_pos (by walk_at "o"),if_pos (by walk_at "o")];walk_at "o"
noncomputable def rkN (n:Nat):Nat:=if n < 40 then n else if n≤53 then 40 else if n≤71 then 41 else if n≤95 then 42 else if n≤127 then 43 else if n≤170 then 44 else if n≤227 then 45 else 46
theorem Xo0:∀ n,n < 300→rkN n≤rkN (n+1):=by decide +kernel
theorem Yt9:∀ (d a:Nat),a+d≤300→rkN a≤rkN (a+d)
 | 0,_,_=>Nat.le_refl _
 | d+1,a,h=>Nat.le_trans (Yt9 d a (Nat.le_of_succ_le h)) (Xo0 (a+d) h)
theorem Xw0:∀ n,n < 301→40≤n→rkN (n - 1 - (n - 1) / 4) < rkN n:=by decide +kernel
theorem Xr9 (n:Nat):rk (n:Nat)=rkN n:=by
 unfold rk rkN;simp only[Int.ofNat_lt,Int.ofNat_le,Int.toNat_natCast,show ((40:Int)=((40:Nat):Int)) from rfl,show ((53:Int)=((53:Nat):Int)) from rfl,show ((71:Int)=((71:Nat):Int)) from rfl,show ((95:Int)=((95:Nat):Int)) from rfl,show ((127:Int)=((127:Nat):Int)) from rfl,show ((170:Int)=((170:Nat):Int)) from rfl,show ((227:Int)=((227:Nat):Int)) from rfl]
theorem Xs0 {n m:Int} (h0:40≤n) (h1:n≤300) (h2:m≤n - 1 - (n - 1) / 4):rk m < rk n:=by
 obtain⟨b,rfl⟩:=Int.eq_ofNat_of_zero_le (Int.le_trans (by decide) h0);have k1:40≤b:=Int.ofNat_le.mp h0;have k2:b < 301:=Nat.lt_succ_of_le (Int.ofNat_le.mp h1);have c:=Xw0 b k2 k1;rw[Xr9 b]
 by_cases hm:0≤m
 ·obtain⟨a,rfl⟩:=Int.eq_ofNat_of_zero_le hm
  rw[Xr9 a];obtain⟨d,e⟩:=Nat.exists_eq_add_of_le (show a≤b - 1 - (b - 1) / 4 by lia);rw[e] at c;exact Nat.lt_of_le_of_lt (Yt9 d a (by lia)) c
 ·have z:rk m=0:=by
   unfold rk;rw[if_pos (by lia)];exact Int.toNat_of_nonpos (by lia)
  rw[z];exact Nat.lt_of_le_of_lt (Nat.zero_le _) c
def Zp5 (K:W.Frag) (n:Nat):Sp:=fun vs H Q _=>∃ (c size:Int) (wa:Addr) (ws:List Str),vs=[.int c,.int size,.ref wa]∧0≤c∧0≤size∧size≤300∧rk size < n∧SqL K H wa (ws.map V.str)∧Xa8 ws ∧
 ∀ (r:V) (H':Hp) (t:Tm),Same H H'→Made K H' ws (max 1 size.toNat) (rk size+1) r t→Q r H'
section
variable {K:W.Frag} {H:Hp} {p:Addr}
theorem Yv7 (ws:List Str) (hp:H p=none):Made K (upd H p (.tup [.str "low"])) ws 1 1 (.ref p) .low :=
 ⟨isT_low.mpr ⟨p,rfl,.inl (.inl Za5)⟩,trivial,Nat.le_refl _,Nat.le_refl _⟩
theorem Xp3 {ws:List Str} {w:Str} (hw:w∈ws) (hp:H p=none):Made K (upd H p (.tup [.str "letter",.str w])) ws 1 1 (.ref p) (.ltr w) :=
 ⟨isT_ltr.mpr ⟨p,rfl,.inl (.inl Za5)⟩,hw,Nat.le_refl _,Nat.le_refl _⟩
theorem Xg7 {ws:List Str} {k:Kd} {x y:V} {a b:Tm} {pa da pb db:Nat} (ha:Made K H ws pa da x a) (hb:Made K H ws pb db y b) (hp:H p=none) :
  Made K (upd H p (.tup [.str k.str,x,y])) ws (1+pa+pb) (1+max da db) (.ref p) (.nd k a b):=by
 refine⟨isT_nd.mpr ⟨p,x,y,rfl,.inl (.inl Za5),ha.1.keep (Zd4 hp),hb.1.keep (Zd4 hp)⟩,⟨ha.2.1,hb.2.1⟩,?_,?_⟩
 ·show 1+a.parts+b.parts≤_
  have:=ha.2.2.1;have:=hb.2.2.1;walk_at "o"
 ·show 1+max a.deep b.deep≤_
  have:=ha.2.2.2;have:=hb.2.2.2;walk_at "o"
end
theorem Xm8 {c:Nat} {n:Int} (h1:97≤c) (h2:c≤122) (h3:1≤n) (h4:n≤8):Word (Txt.mul ⟨#[c]⟩ n):=by
 unfold Word;rw[PyProof.Rows.mul_one_list];refine⟨by rw[List.length_replicate];walk_at "o",by rw[List.length_replicate];walk_at "o",fun d hd=>?_⟩;rw[List.mem_replicate] at hd;walk_at "o"
theorem Xm9 {c d:Nat} {a b:Int} (h1:97≤c) (h2:c≤122) (h3:97≤d) (h4:d≤122) (h5:0≤a) (h6:0≤b) (h7:a+b≤7):Word (Txt.mul ⟨#[c]⟩ a++⟨#[d]⟩++Txt.mul ⟨#[c]⟩ b):=by
 unfold Word;rw[Yc8,Yc8,PyProof.Rows.mul_one_list,PyProof.Rows.mul_one_list];refine⟨by simp only[List.length_append,List.length_replicate,List.length_cons,List.length_nil];walk_at "o",by simp only[List.length_append,List.length_replicate,List.length_cons,List.length_nil];walk_at "o",fun e he=>?_⟩;simp only[List.mem_append,List.mem_replicate,List.mem_cons,List.not_mem_nil,or_false] at he;walk_at "o"
theorem Xg3 {c:Nat} {n:Int}:(Txt.mul ⟨#[c]⟩ n).length=n.toNat:=by rw[Xy1,PyProof.Rows.mul_one_list,List.length_replicate]
noncomputable def Xu4 (x:Str):Bool:=decide (1≤x.cps.toList.length)&&decide (x.cps.toList.length≤8)&&x.cps.toList.all fun c=>decide (97≤c)&&decide (c≤122)
theorem Xu3 {x:Str} (h:Xu4 x=true):Word x:=by
 unfold Xu4 at h;simp only[Bool.and_eq_true,decide_eq_true_eq,List.all_eq_true] at h;exact⟨h.1.1,h.1.2,fun c hc=>by have:=h.2 c hc;simpa using this⟩
def Six (H0 H:Hp) (p:Addr) (ws:List Str):Prop:=Same H0 H∧H0 p=none∧H p=some (.lst (ws.map V.str))∧ws.length=6∧∀ w∈ws,Word w
theorem Zz7 (ws:List Str) (lo hi:Option Int):cutV (ws.map V.str) lo hi=((ws.drop (HT.sIx ws.length 0 lo)).take (HT.sIx ws.length ws.length hi - HT.sIx ws.length 0 lo)).map V.str:=by
 unfold cutV;rw[List.length_map,← List.map_drop,← List.map_take]
noncomputable def kd4 (i:Int):Kd:=if i=0 then .both else if i=1 then .one else .thn
theorem Wk4 {i:Int} (h0:0≤i) (h1:i < 4):atI [V.str "both",V.str "one",V.str "then",V.str "then"] i=some (.str (kd4 i).str):=by
 have:i=0∨i=1∨i=2∨i=3:=by walk_at "o"
 rcases this with rfl | rfl | rfl | rfl<;>rfl
theorem Wa3 {α:Type} {xs:List α} {i:Int} (h0:0≤i) (h1:i < (xs.length:Int)):∃ v,v∈xs∧atI xs i=some v:=by
 obtain⟨j,rfl⟩:=Int.eq_ofNat_of_zero_le h0
 have hj:j < xs.length:=by walk_at "o"
 exact⟨xs[j],List.getElem_mem hj,Zb9 (List.getElem?_eq_getElem hj)⟩
theorem Zk6 {n:Nat} (h:n≤1000000):n < sizeLine:=Nat.lt_of_le_of_lt h (by rw[sizeLine_eq];decide)
theorem Ze3 {α β:Type} {F:α→β→Prop}:∀ {l:List α} {m:List β} {i:Nat} {x:α},Paired F l m→l[i]?=some x→∃ y,m[i]?=some y∧F x y
 | _,_,0,_,.cons h t,e=>by cases e;exact⟨_,rfl,h⟩
 | _,_,i+1,_,.cons h t,e=>Ze3 (i:=i) t (by simpa using e)
end Ken
namespace L2
open PySem PySem.Spec PyProof.Rows
noncomputable def Ite (K:W.Frag) (l:Addr):It :=
  ⟨fun i H=>∃ xs x,SqL K H l xs∧xs[i]?=some x,
   fun i H v H'=>∃ T x,v=.ref T∧H T=none∧H'=upd H T (.tup [.int i,x])∧∀ xs,SqL K H l xs→xs[i]?=some x,
   fun i H=>∃ xs,SqL K H l xs∧xs.length≤i⟩
def enSt (e it l:Addr) (i:Nat) (h:Heap):Prop:=(∃ old,IsEnum h e it i old)∧h.IsListIter it l i
theorem Xb7 {P:Program} {w:World} {K:W.Frag} {elts:List Expr} {k0:Nat} {tpos:Pos} (e it l:Addr) (hne:e≠it) :
    Turn P w K (.Tuple elts k0 tpos) (Ite K l) [e,it] e (enSt e it l) where
  mem:=by simp
  obj:=fun i h st b hb=>by
    obtain⟨⟨old,hz⟩,⟨o1,e1,c1,d1⟩⟩:=st;simp only[List.mem_cons,List.not_mem_nil,or_false] at hb;rcases hb with rfl | rfl
    · exact⟨_,hz,fun v q=>by cases q⟩
    · exact⟨o1,e1,fun v q=>by rw[d1] at q;cases q⟩
  keep:=fun i h h' st k=>by
    obtain⟨⟨old,hz⟩,h1⟩:=st;exact⟨⟨old,k e (by simp) _ hz⟩,h1.at fun o q=>k it (by simp) o q⟩
  item:=by
    intro X hP hw hK hc i pins s σ H E I hf st hg;subst hP hw hK;obtain⟨⟨old,hz⟩,h1⟩:=st;obtain⟨xs,x,q1,hx⟩:=hg;obtain⟨its1,rv1,p1,_⟩:=I.list q1;obtain⟨u1,hu1,ru1⟩:=rv1.get hx;refine wpAny_pyNext_enum_item hz h1 p1.isList (x:=u1) (by simpa using hu1) hne fun h' a1 a2 a5 a6 kk=>?_;have hT:H s.heap.objs.size=none:=I.hok.fresh (Nat.le_refl _)
    have nch:∀ b u,H b=some u→b ∉ [e,it]:=fun b u q hb=>by rw[(hf b hb).1] at q;cases q
    have kk':∀ b o,b ∉ [e,it]→s.heap.get? b=some o→h'.get? b=some o:=fun b o hb q=>by
      simp only[List.mem_cons,List.not_mem_nil,or_false,not_or] at hb;exact kk b o hb.1 hb.2 q
    have ltT:∀ b o,s.heap.get? b=some o→b≠s.heap.objs.size:=fun b o q=>Nat.ne_of_lt (Heap.lt_size q)
    have hokT:HOk X.prog X.w (upd H s.heap.objs.size (.tup [.int i,x])) h':=fun b ob q=>by
      by_cases hb:b=s.heap.objs.size
      · subst hb
        rw[Za5] at q;cases q;exact⟨by show 2≤sizeLine;decide,[.int i s.toks,u1],.cons ⟨_,rfl⟩ (.cons ru1 .nil),_,a5,rfl,_,rfl⟩
      · rw[Zb0 hb] at q
        refine (I.hok b ob q).stay (fun c v hcv q'=>kk' c v ?_ q') (fun c q'=>by rw[Zb0 (Za9 q' hT)];exact q') fun c xs q'=>by rw[Zb0 (Za9 q' hT)];exact q'
        rcases hcv with rfl | hcv
        · exact nch _ _ q
        · exact nch _ _ hcv
    have I1:Inv X pins σ (upd H s.heap.objs.size (.tup [.int i,x])) { s with heap:=h',toks:=s.toks+1 }:=by
      refine I.step (g':=s.gens) (d':=s.drawn) (t':=s.toks+1) (ch:=[e,it]) (fun b hb=>?_) (fun b o _ _ hb q _=>kk' b o hb q) (fun b o _ _ hb q _=>⟨o.slots,kk' b o hb q⟩) (fun b o _ q n=>by rw[Zb0 (ltT b o q)];exact n) (fun b o hb q=>⟨o,kk' b o hb q⟩)
        (fun b xs q=>by rw[Zb0 (Za9 q hT)];exact q) (fun b o u q=>by rw[Zb0 (Za9 q hT)];exact q) (fun b ps q=>⟨#[],by rw[Zb0 (Za9 q hT),q];simp⟩) (fun m hm=>?_) hokT I.bare
      · obtain⟨f0,f1,f2,f3,f4,f5⟩:=hf b hb
        exact⟨f3,f1,f4,f5⟩
      · obtain⟨o,es,ep,ho,r⟩:=hm
        refine⟨o,es,ep,kk' _ o ?_ ho,r⟩;simp only[List.mem_cons,List.not_mem_nil,or_false,not_or];exact⟨((hf e (by simp)).2.1).symm,((hf it (by simp)).2.1).symm⟩
    refine⟨_,rfl,wpAny_letOwnedTupleGo_enum a1 fun h'' hz'' sb=>?_⟩;obtain⟨f0,f1,f2,f3,f4,f5⟩:=hf e (by simp)
    have ltz:∀ b∈[e,it],b≠s.heap.objs.size:=fun b hb=>by
      simp only[List.mem_cons,List.not_mem_nil,or_false] at hb;obtain⟨o1,e1,_⟩:=h1;rcases hb with rfl | rfl
      · exact ltT _ _ hz
      · exact ltT _ _ e1
    have fn:∀ b∈[e,it],upd H s.heap.objs.size (.tup [.int i,x]) b=none:=fun b hb=>by rw[Zb0 (ltz b hb)];exact (hf b hb).1
    have I2:Inv X pins σ (upd H s.heap.objs.size (.tup [.int i,x])) { s with heap:=h'',toks:=s.toks+1 }:=I1.turned (t':=s.toks+1) (fun b o hb q=>(sb.2 b hb).trans q) (fn e (by simp)) f1 f3 f4 f5;refine⟨.ref s.heap.objs.size,_,I2,rfl,⟨_,x,rfl,hT,rfl,fun ys hy'=>by rw[I.list_inj hy' q1];exact hx⟩,⟨⟨u1,?_⟩,?_⟩,fn⟩
    · rw[Int.natCast_add];exact hz''
    · exact a2.extBut sb.extBut (Ne.symm hne)
  done:=by
    intro X hP hw hK hc i pins s σ H E I hf st hg;subst hP hw hK;obtain⟨⟨old,hz⟩,h1⟩:=st;obtain⟨xs,q1,hend⟩:=hg;obtain⟨its1,rv1,p1,_⟩:=I.list q1;have e1:=rv1.length;refine wpAny_pyNext_enum_end (I.ok.hd hc) hz h1 p1.isList (by simp;walk_at "o") fun h' eb=>⟨rfl,?_⟩;obtain⟨f0,f1,f2,f3,f4,f5⟩:=hf it (by simp);exact I.turned (t':=s.toks) (fun b o hb q=>eb b o hb q) f0 f1 f3 f4 f5
  self:=fun _ _ _ _ _ st h=>by
    obtain⟨⟨old,hz⟩,_⟩:=st;exact wpAny_pyIter_enum hz h
section
variable {X:Cx}
def Yq6 (K:W.Frag) (ta:TA):TI:=fun σ H R=>ta σ H fun vs H1=>∃ a,vs=[.ref a]∧(∃ xs,SqL K H1 a xs)∧R (Ite K a) H1
theorem Xw6 {a:Expr} {ta:TA} {p pos:Pos} {elts:List Expr} {k0:Nat} {tpos:Pos} (hg:Gl X "enumerate") (hm:X.mg "enumerate"=none) (ha:PA X [a] ta) (hs:starEach [a] X.env=[(false,eval a X.env)]:=by rfl) :
  PI X (.Tuple elts k0 tpos) (.Call (.Name "enumerate" p) [a] [] pos) (Yq6 X.K ta):=by with_unfolding_all
 intro pins s σ H R I h;refine Call_ (Zn7 I hg hm (by first | exact PySem.boot_enumerate | rfl) (PyProof.Rows.callWith_type1 (thn (ha pos pins s σ H _ I h) fun us s1 ⟨vs,H1,I1,r1,q1⟩=>?_) (by rw[hs];rfl) rfl));obtain⟨l,e,⟨xs,q1⟩,q⟩:=q1;subst e;obtain⟨u1,rfl,ru1⟩:=r1.one;cases ru1;obtain⟨its1,rv1,p1,_⟩:=I1.list q1;refine call_enumerate_list p1.isList fun h' hz hi _ hk=>wpAny_pyIter_enum hz ?_;have I2:Inv X pins σ H1 { s1 with heap:=h' }:=I1.kept (t':=s1.toks) hk;refine⟨_,_,_,_,H1,rfl,I2,Xb7 _ _ l (Nat.succ_ne_self _),⟨⟨_,hz⟩,hi⟩,fun b hb=>?_,q⟩
 have hb':s1.heap.objs.size≤b:=by
  simp only[List.mem_cons,List.not_mem_nil,or_false] at hb
  rcases hb with rfl | rfl<;>walk_at "o"
 exact I1.fpOk hb' (I1.hok.fresh hb')
end
theorem Yp0 {X:Cx} {K:W.Frag} {pos:Pos} {es:List Expr} {k:Nat} {t:TGs} {n:Nat} (hc:X.calm=true) (hK:X.K=K) (h:PGs X es t)
  (hn:(assignEach es X.env).length=n) (hst:(assignEach es X.env).findIdx? (·.1)=none):PG X (.Tuple es k pos) (gTup K n t):=hK▸Zy2 hc h hn hst
end L2
namespace Ken
open PySem L2
theorem Zs9 {α β:Type} {F:α→β→Prop}:∀ {l:List α} {m:List β},Paired F l m→Paired F l.reverse m.reverse
 | _,_,.nil=>.nil
 | _,_,.cons h t=>by rw[List.reverse_cons,List.reverse_cons];exact Paired.snoc (Zs9 t) h
theorem Zg8 {α β:Type} {F:α→β→Prop}:∀ {l l':List α} {m m':List β},Paired F l m→Paired F l' m'→Paired F (l++l') (m++m')
 | _,_,_,_,.nil,q=>q
 | _,_,_,_,.cons h t,q=>.cons h (Zg8 t q)
end Ken
namespace L2
open PySem PySem.Spec PyProof.Rows
noncomputable abbrev TK:=St→Hp→(Hp→Prop)→Prop
def Xl1 (σ0:St) (J:It) (g:TG) (tk:TK) (Q:Hp→Prop) (W:Nat→Nat→Hp→Prop):Prop :=
 ∀ i m H2,W i m H2→(J.stop i H2∧Q H2)∨(J.go i H2∧∀ x H3,J.yld i H2 x H3→g x σ0 H3 fun σ4 H4=>Wk σ0 σ4∧tk σ4 H4 fun H5=>∃ m',m' < m∧W (i+1) m' H5)
def PTn (Y:Cx) (body:Sem Unit) (tk:TK):Prop:=∀ (pins:List (Addr×Obj)) (s:Shared) (σ:St) (H:Hp) (N:Hp→Prop),Inv Y pins σ H s→tk σ H N →
 wpAny (model Y.prog Y.w) Y.A body (fun _ s'=>∃ σ' H',Inv Y pins σ' H' s'∧Wk σ σ'∧N H') Y.xe s
def Zs1 (e:Expr) (d:Nat) (tg:Expr) (p:Pos) (acc:Value) (env:Env) (body:Sem Unit):Prop:=∀ it,compTurn e d it acc env=(standAt p >>= fun _=>pyNext it >>= fun r=>match r with
   | none=>pure (.done .next)
   | some v=>letOwnedTupleGo tg it v >>= fun _=>assign tg env v >>= fun _=>body >>= fun _=>again (.compLoop e d it acc env))
def Ys2 (prog:Program) (w:World) (A:Around) (e:Expr) (d:Nat) (acc:Value) (env:Env):Prop:=∀ it,
 (model prog w).den (.compLoop e d it acc env)=(compTurn e d it acc env).onRaise (fun x=>do noteFrame x env;theTreesLotGoes x)∧A.under (.compLoop e d it acc env)=A ∧
 (∃ p,(model prog w).den (.compStart e d it acc env)=(compStart e d it acc env).onRaise (fun x=>do noteFrame x env;standAt p))∧A.under (.compStart e d it acc env)=A
theorem Yl0 {Y:Cx} {e tg:Expr} {d:Nat} {p:Pos} {g:TG} {tk:TK} {it:Addr} {acc:Value} {body:Sem Unit} {fp:List Addr} {tn:Nat→Heap→Prop} {J:It} {Q:Hp→Prop} {σ0:St} {R:Result→Shared→Prop} {s:Shared} {i0 m0:Nat} {H1:Hp} {W:Nat→Nat→Hp→Prop} {pins:List (Addr×Obj)}
  (hc:Y.calm=true) (hxe:Y.xe=fun _ _=>False) (hden:Ys2 Y.prog Y.w Y.A e d acc Y.env) (eq:Zs1 e d tg p acc Y.env body) (hg:PG Y tg g) (hb:PTn Y body tk) (T:Turn Y.prog Y.w Y.K tg J fp it tn)
  (hfp:∀ (H':Hp),(∀ b∈fp,H' b=none)→∀ b∈fp,FpOk Y pins H' b) (hW:Xl1 σ0 J g tk Q W)
  (hR:∀ s' H',Inv Y pins σ0 H' s'→Q H'→R (.ok .next) s')
  (I:Inv Y pins σ0 H1 s) (hst:tn i0 s.heap) (hfr:∀ b∈fp,H1 b=none) (w:W i0 m0 H1) :
  codeAny (model Y.prog Y.w) Y.A (.compLoop e d (.ref it) acc Y.env) R s:=by with_unfolding_all
 have nE:∀ {M:Model} {A:Around} {env:Env} {E:Value→Shared→Prop} (x:Value) (s:Shared),Y.xe x s→notedBy M A env E x s:=fun x s z=>by rw[hxe] at z;exact z.elim
 refine codeAny_loop rfl (fun n s=>∃ i H2,Inv Y pins σ0 H2 s∧tn i s.heap∧(∀ b∈fp,H2 b=none)∧W i n H2) (fun n s hI=>?_) m0 ⟨i0,H1,I,hst,hfr,w⟩;obtain⟨i,H2,I2,st2,fr2,w2⟩:=hI;rw[(hden (.ref it)).1,(hden (.ref it)).2.1];refine wpAny_noted ?_;rw[eq];refine wpAny_bind (wpAny_standAt (wpAny_bind ?_));rcases hW i n H2 w2 with ⟨stop,q⟩ | ⟨go,step⟩
 ·refine thn (T.done Y rfl rfl rfl hc i pins s σ0 H2 _ I2 (hfp H2 fr2) st2 stop) fun r s1 zq=>?_;obtain⟨hr,I3⟩:=zq
  subst hr;exact wpAny_pure (hR s1 H2 I3 q)
 ·refine thn (T.item Y rfl rfl rfl hc i pins s σ0 H2 _ I2 (hfp H2 fr2) st2 go) fun r s1 zq=>?_;obtain⟨u,hr,h4⟩:=zq
  subst hr;refine wpAny_bind (thn h4 fun _ s5 zq=>?_);obtain⟨x,H5,I5,r5,y5,st5,fr5⟩:=zq;have I5':=I5.pinned (hfp H5 fr5) (T.obj _ _ st5);refine wpAny_bind (wpAny_mono (hg _ s5 σ0 H5 x u _ I5' r5 (step x H5 y5)) (fun _ s6 ⟨σ6,H6,I6,hw6,q6⟩=>?_) nE);refine wpAny_bind (wpAny_mono (hb _ s6 σ6 H6 _ I6 q6) (fun _ s8 ⟨σ8,H8,I8,hw8,m',hm',w7⟩=>?_) nE);refine wpAny_pure ⟨rfl,m',hm',i+1,H8,?_,?_,fun b hb=>?_,w7⟩
  ·have:=hw6.trans hw8
   exact I8.unpinned.weak this.1.symm this.2
  ·exact T.keep _ _ _ st5 fun b hb o e=>(I8.pin (b,o) (List.mem_append_right _ (List.mem_append_right _ (Zj1 hb e)))).1
  ·obtain⟨o,e,dd⟩:=T.obj _ _ st5 b hb
   exact (I8.pin (b,o) (List.mem_append_right _ (List.mem_append_right _ (Zj1 hb e)))).2.1
theorem Zi5 {prog:Program} {w:World} {A:Around} {R:Result→Shared→Prop} {s:Shared} {e:Expr} {d:Nat} {g:Comprehension} {it acc:Value} {env:Env} (hden:Ys2 prog w A e d acc env) (hcl:(clausesOf e)[d]?=some g) (ha:g.is_async=0)
  (h0:codeAny (model prog w) A (.compLoop e d it acc env) R s)
  (h:wpAny (model prog w) A (pyIter it) (fun it' s'=>codeAny (model prog w) A (.compLoop e d it' acc env) R s') (notedBy (model prog w) A env fun x s'=>R (.error x) s') s) :
  codeAny (model prog w) A (.compStart e d it acc env) R s:=by
 refine codeAny_of_tree ?_;obtain⟨p,ep⟩:=(hden it).2.2.1;rw[ep,(hden it).2.2.2];refine wpAny_notedAt ?_;unfold compStart;rw[hcl]
 have e1:((some g).elim false fun x=>x.is_async != 0)=false:=by show (g.is_async != 0)=false;rw[ha];rfl
 rw[e1,if_neg Bool.false_ne_true];refine wpAny_bind (wpAny_askSetting ?_);refine wpAny_ite ?_
 split
 ·exact wpAny_pure ⟨rfl,h0⟩
 ·refine wpAny_bind (wpAny_rule (wpAny_bind (wpAny_standAt (wpAny_bind (wpAny_mono h (fun it' s' h'=>wpAny_pure ⟨rfl,h'⟩) fun _ _ z=>z)))))
theorem Wn1 {prog:Program} {w:World} {A:Around} {elt:Expr} {gens:List Comprehension} {scope:Scope} {pos:Pos} {d:Nat} {acc:Value} {env:Env}:Ys2 prog w A (.ListComp elt gens scope pos) d acc env:=fun it=>⟨rfl,rfl,⟨_,rfl⟩,rfl⟩
theorem Wn0 {prog:Program} {w:World} {A:Around} {elt:Expr} {gens:List Comprehension} {scope:Scope} {pos:Pos} {d:Nat} {acc:Value} {env:Env}:Ys2 prog w A (.SetComp elt gens scope pos) d acc env:=fun it=>⟨rfl,rfl,⟨_,rfl⟩,rfl⟩
theorem Wn2 {prog:Program} {w:World} {A:Around} {k v:Expr} {gens:List Comprehension} {scope:Scope} {pos:Pos} {d:Nat} {acc:Value} {env:Env}:Ys2 prog w A (.DictComp k v gens scope pos) d acc env:=fun it=>⟨rfl,rfl,⟨_,rfl⟩,rfl⟩
noncomputable def Xk0 (elt:Expr) (acc:Value) (env:Env):Sem Unit:=eval elt env >>= fun x=>call (.builtin "list.append") [acc,x] >>= fun _=>pure ()
noncomputable def Xj9 (elt:Expr) (acc:Value) (env:Env):Sem Unit:=eval elt env >>= fun v=>standAt elt.pos >>= fun _=>call (.builtin "set.add") [acc,v] >>= fun _=>pure ()
noncomputable def Xk1 (k v:Expr) (d:Addr) (env:Env):Sem Unit:=eval k env >>= fun kv=>holding [kv] (eval v env) >>= fun vv=>standAt { line:=k.pos.line,col:=k.pos.col,endLine:=v.pos.endLine,endCol:=v.pos.endCol } >>= fun _=>holding [kv,vv] (dictSet d kv vv)
noncomputable def Yx4 (c:Expr) (env:Env) (body:Sem Unit):Sem Unit:=PySem.isTrue c env (eval c env) >>= fun ok=>if ok=true then body else pure ()
noncomputable def Xx8 (e:Expr) (d:Nat) (iter:Expr) (acc:Value) (env:Env):Sem Unit:=eval iter env >>= fun x=>standAt iter.pos >>= fun _=>foldedSetIterable iter env x >>= fun x=>holding [x] (pyIter x) >>= fun it=>runOwn (.compStart e d it acc env) env >>= fun _=>pure ()
theorem Xv2 {elt tg iter c tg2 iter2:Expr} {scope:Scope} {pos:Pos} {acc:Value} {env:Env}:Zs1 (.ListComp elt [⟨tg,iter,[c],0⟩] scope pos) 0 tg iter.pos acc env (Yx4 c env (Xk0 elt acc env)):=fun it=>by
  simp only[compTurn,Yx4,Xk0,Xj9,Xk1,Xx8,List.getElem?_cons_zero,List.getElem?_cons_succ,List.getElem?_nil,List.forIn_cons,List.forIn_nil,bind_assoc,pure_bind,if_true,bne_self_eq_false,Bool.false_eq_true,if_false,Nat.zero_add,Nat.reduceAdd];refine bind_congr fun _=>bind_congr fun r=>?_
  cases r with
  | none=>rfl
  | some v =>
    refine bind_congr fun _=>bind_congr fun _=>?_
    first
      | rfl
      | (refine bind_congr fun ok => ?_
         cases ok<;>simp)
      | simp
theorem Xv1 {elt tg iter c tg2 iter2:Expr} {scope:Scope} {pos:Pos} {acc:Value} {env:Env}:Zs1 (.SetComp elt [⟨tg,iter,[c],0⟩] scope pos) 0 tg iter.pos acc env (Yx4 c env (Xj9 elt acc env)):=fun it=>by
  simp only[compTurn,Yx4,Xk0,Xj9,Xk1,Xx8,List.getElem?_cons_zero,List.getElem?_cons_succ,List.getElem?_nil,List.forIn_cons,List.forIn_nil,bind_assoc,pure_bind,if_true,bne_self_eq_false,Bool.false_eq_true,if_false,Nat.zero_add,Nat.reduceAdd];refine bind_congr fun _=>bind_congr fun r=>?_
  cases r with
  | none=>rfl
  | some v =>
    refine bind_congr fun _=>bind_congr fun _=>?_
    first
      | rfl
      | (refine bind_congr fun ok => ?_
         cases ok<;>simp)
      | simp
theorem Xv3 {elt tg iter c tg2 iter2:Expr} {a:Addr} {scope:Scope} {pos:Pos} {env:Env}:Zs1 (.DictComp elt iter2 [⟨tg,iter,[],0⟩] scope pos) 0 tg iter.pos (.ref a) env (Xk1 elt iter2 a env):=fun it=>by
  simp only[compTurn,Yx4,Xk0,Xj9,Xk1,Xx8,List.getElem?_cons_zero,List.getElem?_cons_succ,List.getElem?_nil,List.forIn_cons,List.forIn_nil,bind_assoc,pure_bind,if_true,bne_self_eq_false,Bool.false_eq_true,if_false,Nat.zero_add,Nat.reduceAdd];refine bind_congr fun _=>bind_congr fun r=>?_
  cases r with
  | none=>rfl
  | some v =>
    refine bind_congr fun _=>bind_congr fun _=>?_
    first
      | rfl
      | (refine bind_congr fun ok => ?_
         cases ok<;>simp)
      | simp
def kApp (te:TE) (acc:Addr):TK:=fun σ H N=>te σ H fun y H5=>∃ ys,H5 acc=some (.lst ys)∧ys.length < sizeLine∧N (upd H5 acc (.lst (ys++[y])))
def Yp7 (tc:TT) (tk:TK):TK:=fun σ H N=>tc σ H fun b H1=>if b=true then tk σ H1 N else N H1
section
variable {Y:Cx}
theorem Xo9 {elt:Expr} {te:TE} {acc:Addr} (he:PE Y elt te):PTn Y (Xk0 elt (.ref acc) Y.env) (kApp te acc):=by with_unfolding_all
 intro pins s σ H N I h;refine wpAny_bind (thn (he pins s σ H _ I h) fun v s7 zq=>?_);obtain⟨y,H7,I7,r7,ys,ha7,hlen,n⟩:=zq;refine wpAny_bind (thn (Zj3 (X:=Y) pins s7 σ H7 (.ref acc) [y] (.ref acc) [v] (fun _ H8=>H8=upd H7 acc (.lst (ys++[y]))) I7 rfl (.cons r7 .nil) ⟨acc,ys,y,rfl,rfl,ha7,hlen,rfl⟩) fun _ s8 zq=>?_);obtain⟨_,H8,I8,_,e8⟩:=zq;subst e8;exact wpAny_pure ⟨σ,_,I8,Wk.refl _,n⟩
theorem Xe6 {c:Expr} {tc:TT} {body:Sem Unit} {tk:TK} (ht:PT Y c tc) (hb:PTn Y body tk):PTn Y (Yx4 c Y.env body) (Yp7 tc tk):=by with_unfolding_all
 intro pins s σ H N I h;refine wpAny_bind (thn (ht pins s σ H _ I h) fun b s1 zq=>?_);obtain⟨H1,I1,q1⟩:=zq
 cases b with
 | true =>
  rw[if_pos rfl] at q1 ⊢;exact hb pins s1 σ H1 N I1 q1
 | false =>
  rw[if_neg Bool.false_ne_true] at q1 ⊢;exact wpAny_pure ⟨σ,H1,I1,Wk.refl _,q1⟩
end
def Yd4 (nt:Nat) (ci:List Nat) (wi:TI) (g:TG) (tk:Addr→TK) (o0:HO):TE:=fun σ H Q=>wi σ H fun J H1=>∀ acc,H1 acc=none→∃ W:Nat→Nat→Hp→Prop,(∃ m,W 0 m (upd H1 acc o0))∧Xl1 (capt nt ci σ) J g (tk acc) (fun H2=>Q (.ref acc) H2) W
section
variable {X:Cx} {scope:Scope} {cl:List (Str×Addr)} {N':List Str} {nt:Nat} {ci:List Nat} {pins:List (Addr×Obj)} {σ:St} {H:Hp} {s:Shared}
theorem Yc9 {o0:HO} (B:BlkOk X scope cl N' nt ci) (I:Inv X pins σ H s) {fp:List Addr} (hf:∀ b∈fp,FpOk X pins H b) (ho:∀ b∈fp,∃ o,s.heap.get? b=some o) {C acc:Addr} {h1:Heap} {tk:Nat}
    (hacc:acc=s.heap.objs.size) (hC:C=s.heap.objs.size+1) (k:∀ b u,s.heap.get? b=some u→h1.get? b=some u) (ns:h1.Ns C fun _=>none) (ha:ObjOk X.prog X.w (upd H acc o0) h1 acc o0) :
    Inv (blk X N' scope cl s H C fp) [] (capt nt ci σ) (upd H acc o0) { s with heap:=h1,toks:=tk }:=by
  have hn:H acc=none:=I.hok.fresh (by rw[hacc];exact Nat.le_refl _);have hnC:H C=none:=I.hok.fresh (by rw[hC];exact Nat.le_succ _)
  have cellLt:∀ x c,cl.lookup x=some c→c < s.heap.objs.size:=fun x c e=>by
    obtain⟨v,q⟩:=I.cell x c (B.sub x c e);exact q.lt
  refine⟨⟨I.ok.mod,B.kind,I.ok.glob,I.ok.blt,?_,fun x y c e1 e2=>I.ok.inj x y c (B.sub _ _ e1) (B.sub _ _ e2),fun x hx=>B.has x hx,fun x c (z:false=true)=>Bool.noConfusion z,fun hc=>I.ok.hd hc,I.ok.frames,.inl rfl,fun b hb=>?_,I.bs,?_,fun b o e hb=>?_,fun b hb=>?_,I.stack,fun b hb=>I.stkFree b hb⟩,
    rfl,I.bare,Un.laid (a:=acc) (o:=o0) k (by rw[hacc];exact Nat.le_refl _) hn,⟨_,ns,fun i x v e1 e2 e3=>?_⟩,fun x c e=>?_,?_,fun x c e=>?_,fun p hp=>absurd (show p∈([]:List (Addr×Obj)) from hp) (by simp),I.hok.laid k (by rw[hacc];exact Nat.le_refl _) ha,?_⟩
  · show s.heap.objs.size≤C
    rw[hC];exact Nat.le_succ _
  · obtain⟨f0,f1,f2,f3,f4,f5⟩:=hf b hb
    obtain⟨o,e⟩:=ho b hb;refine⟨?_,fun x c e'=>f4 x c (B.sub x c e')⟩;show b≠C;rw[hC];exact Nat.ne_of_lt (Nat.lt_succ_of_lt (Heap.lt_size e))
  · exact Nat.le_trans I.ok.bsz I.sz
  · obtain⟨f0,f1,f2,f3,f4,f5⟩:=hf b hb
    rcases f3 with z | z
    · exact I.ok.noex b o e z
    · exact absurd (Nat.lt_of_lt_of_le (Heap.lt_size e) (Nat.le_trans I.ok.bsz z)) (Nat.lt_irrefl _)
  · intro z
    obtain⟨f0,f1,f2,f3,f4,f5⟩:=hf b hb;rcases List.mem_cons.mp (I.stkSub b z) with y | y
    · exact f1 y
    · exact f2 y
  ·
    obtain⟨m,hm,hl⟩:=I.loc;unfold capt at e2
    by_cases hi:i < nt
    · rw[List.getElem?_append_left (by simpa using hi),List.getElem?_replicate] at e2
      split at e2<;>cases e2
    · rw[List.getElem?_append_right (by simpa using hi),List.length_replicate,List.getElem?_map] at e2
      cases q:ci[i - nt]? with
      | none=>rw[q] at e2;cases e2
      | some j =>
        rw[q] at e2;have e2':(σ[j]?).join=some v:=Option.some.inj e2;obtain⟨y,a1,a2,a3,a4⟩:=B.cap _ j q
        have ei:nt+(i - nt)=i:=by walk_at "o"
        rw[ei,show N'[i]?=some x from e1] at a1;cases a1
        have e2'':σ[j]?=some (some v):=by
          cases z:σ[j]? with
          | none=>rw[z] at e2';cases e2'
          | some w=>rw[z] at e2';exact congrArg some e2'
        obtain⟨u,r,l⟩:=hl j x v a2 e2'' (.inr (.inl a3));refine⟨u,r,.inr ⟨a4,?_⟩⟩;rcases l with ⟨kk,_⟩ | ⟨_,c,c1,c2⟩
        · have kk':X.env.scope.names.lookup x=some .local:=kk
          rw[a3] at kk';cases kk'
        · obtain⟨c',ec⟩:=B.has x a4
          have:=B.sub x c' ec;rw[c1] at this;cases this;exact⟨c,ec,let ⟨o,e,d⟩:=c2;⟨o,k _ _ e,d⟩⟩
  · obtain⟨v,q⟩:=I.cell x c (B.sub x c e)
    exact⟨v,let ⟨o,e,d⟩:=q;⟨o,k _ _ e,d⟩⟩
  · show upd H acc o0 C=none
    rw[Zb0 (by rw[hacc,hC];exact Nat.succ_ne_self _)];exact hnC
  · have lt:=cellLt x c e
    rw[Zb0 (by rw[hacc];exact Nat.ne_of_lt lt)];exact I.freeC x c (B.sub x c e)
  · show (capt nt ci σ).length=N'.length
    unfold capt;rw[List.length_append,List.length_replicate,List.length_map,B.len]
theorem Xl8 {e:Expr} {gs:List Comprehension} {ifs:List Expr} {body:Addr→Env→Sem Unit} {newAcc:Sem Value} {ob:Obj} {o0:HO} {p0:Pos} {tk:Addr→TK} {tg iter:Expr} {pos':Pos} {wi:TI} {g:TG} {use:Option (Value→Sem Unit)} {Q:VK} {Qf:Value→Shared→Prop} (B:BlkOk X scope cl N' nt ci) (hc:X.calm=true) (hi:PI X tg iter wi)
  (hg:∀ s H C ex,PG (blk X N' scope cl s H C ex) tg g) (hcl:clausesOf e=⟨tg,iter,ifs,0⟩ :: gs) (hden:∀ acc env,Ys2 X.prog X.w X.A e 0 acc env) (htn:∀ a env,Zs1 e 0 tg p0 (.ref a) env (body a env))
  (hb:∀ s H C ex a,PTn (blk X N' scope cl s H C ex) (body a (blk X N' scope cl s H C ex).env) (tk a)) (hnew:∀ {M:Model} {A:Around} {E:Value→Shared→Prop} {s:Shared} {Q:Value→Shared→Prop},Q (.ref s.heap.objs.size) { s with heap:=s.heap.push ob }→wpAny M A newAcc Q E s)
  (hfree:ob.isFreed=false) (hobj:∀ (H:Hp) (h:Heap) (a:Addr),h.get? a=some ob→sysModules < a→ObjOk X.prog X.w (upd H a o0) h a o0) (hs:∀ x,foldedSetIterable iter X.env x=pure x) (I:Inv X pins σ H s) (h:Yd4 nt ci wi g tk o0 σ H Q)
  (fin:∀ (acc C:Addr) (s':Shared) (H':Hp),Inv X pins σ H' s'→Q (.ref acc) H'→(∃ m,s'.heap.Ns C m)→FpOk X pins H' C→(∃ o,s'.heap.get? C=some o∧∀ v,o.data≠.cell v)→compPost (model X.prog X.w) X.A X.xe use Qf (.ref acc) C (.ok .next) s') :
  wpAny (model X.prog X.w) X.A (comprehension e scope X.env pos' newAcc false (eval iter X.env) use) Qf X.xe s:=by with_unfolding_all
 refine wpAny_comprehension_free (use:=use) hcl hs B.clos B.kind B.names (thn (hi pins s σ H _ I h) fun v s1 h1=>thn h1 fun itv s2 h2=>?_);obtain⟨it,fp,tn,J,H2,e,I2,T,st2,f2,q2⟩:=h2;subst e;have hacc:H2 s2.heap.objs.size=none:=I2.hok.fresh (Nat.le_refl _);obtain⟨W,⟨m0,w0⟩,hW⟩:=q2 s2.heap.objs.size hacc;refine hnew (wpAny_newFunctionEnv B.cell (by intro y hy;simp at hy) (fun h₁ hns₁ hsb₁=>?_) B.kind);dsimp only at hns₁ hsb₁ ⊢;have hCs:(s2.heap.push ob).objs.size=s2.heap.objs.size+1:=Heap.size_push ..;have k1:∀ b u,s2.heap.get? b=some u→h₁.get? b=some u:=fun b u e=>hsb₁.extBut b u (by rw[hCs];exact Nat.ne_of_lt (Nat.lt_succ_of_lt (Heap.lt_size e))) (Heap.get?_push_of_some _ (Heap.get?_push_of_some _ e));have a1:h₁.get? s2.heap.objs.size=some ob:=hsb₁.extBut _ _ (by rw[hCs];exact Nat.ne_of_lt (Nat.lt_succ_self _)) (Heap.get?_push_of_some _ (Heap.get?_push_size _ hfree));rw[hCs] at hns₁ ⊢;have hsys:sysModules < s2.heap.objs.size:=I2.big;have I3:=Yc9 (o0:=o0) (tk:=s2.toks+([]:List (Str×Value)).length) B I2 f2 (fun b hb=>let ⟨o,e,_⟩:=T.obj _ _ st2 b hb;⟨o,e⟩) rfl rfl k1 (by simpa using hns₁) (hobj _ _ _ a1 hsys)
 have hfpB:∀ (H':Hp),(∀ b∈fp,H' b=none)→∀ b∈fp,FpOk (blk X N' scope cl s2 H2 (s2.heap.objs.size+1) fp) [] H' b:=fun H' hn b hb=>by
  obtain⟨f0,f1,f3,f4,f5,f6⟩:=f2 b hb;obtain⟨o,e,_⟩:=T.obj _ _ st2 b hb;refine⟨hn b hb,?_,fun z=>?_,.inl hb,fun x c e'=>f5 x c (B.sub x c e'),fun p hp=>absurd (show p∈([]:List (Addr×Obj)) from hp) (by simp)⟩
  ·exact Nat.ne_of_lt (Nat.lt_succ_of_lt (Heap.lt_size e))
  ·rcases List.mem_cons.mp (I2.stkSub b z) with y | y
   ·exact f1 y
   ·exact f3 y
 have hfr3:∀ b∈fp,upd H2 s2.heap.objs.size o0 b=none:=fun b hb=>by
  obtain⟨o,e,_⟩:=T.obj _ _ st2 b hb;rw[Zb0 (Nat.ne_of_lt (Heap.lt_size e))];exact (f2 b hb).1
 have st3:tn 0 h₁:=T.keep _ _ _ st2 fun b _ o e=>k1 b o e;have loop:codeAny (model X.prog X.w) X.A (.compLoop e 0 (.ref it) (.ref s2.heap.objs.size) (compEnvC scope cl (s2.heap.objs.size+1) X.env))
   (compPost (model X.prog X.w) X.A X.xe use Qf (.ref s2.heap.objs.size) (s2.heap.objs.size+1)) { s2 with heap:=h₁,toks:=s2.toks+([]:List (Str×Value)).length }:=by
  refine Yl0 (Y:=blk X N' scope cl s2 H2 (s2.heap.objs.size+1) fp) (Q:=fun H'=>Q (.ref s2.heap.objs.size) H') hc rfl (hden _ _) (htn _ _) (hg _ _ _ _) (hb _ _ _ _ _) T hfpB hW (fun s' H' I' q=>?_) I3 st3 hfr3 w0;have un:=I'.base;have ns:=I'.loc;have fC:H' (s2.heap.objs.size+1)=none:=I'.free
  have I4:Inv X pins σ H' s':=I2.call' I'.os un I'.hok I'.bare fun b hb=>by
   obtain⟨f0,f1,f3,f4,f5,f6⟩:=f2 b hb;exact⟨f4,f1,f5,f6⟩
  obtain⟨m,hm,_⟩:=ns;have hm':s'.heap.Ns (s2.heap.objs.size+1) m:=hm;refine fin _ _ s' H' I4 q ⟨m,hm'⟩ (I2.fpOk (Nat.le_succ _) fC) ?_;obtain⟨o,es,ep,e,d,_⟩:=hm';exact⟨o,e,fun v z=>by rw[d] at z;cases z⟩
 exact Zi5 (hden _ _) (by rw[hcl];rfl) rfl loop (T.self _ _ _ _ _ st3 loop)
theorem Xy0 {P:Program} {w:World} (H:Hp) (h:Heap) (a:Addr) (e:h.get? a=some { cls:=.type "list",dict:=none,data:=.seq ([]:List Value).toArray }) (_:sysModules < a):ObjOk P w (upd H a (.lst [])) h a (.lst []):=⟨Nat.zero_le _,[],0,.nil,e⟩
theorem We2 {elt tg iter:Expr} {ifs:List Expr} {gs:List Comprehension} {pos p0:Pos} {wi:TI} {g:TG} {tk:Addr→TK} {body:Addr→Env→Sem Unit} (B:X.Ok→BlkOk X scope cl N' nt ci) (hc:X.calm=true) (hi:PI X tg iter wi)
  (hg:∀ s H C ex,PG (blk X N' scope cl s H C ex) tg g) (htn:∀ a env,Zs1 (.ListComp elt (⟨tg,iter,ifs,0⟩ :: gs) scope pos) 0 tg p0 (.ref a) env (body a env))
  (hb:∀ s H C ex a,PTn (blk X N' scope cl s H C ex) (body a (blk X N' scope cl s H C ex).env) (tk a)) (hs:∀ x,foldedSetIterable iter X.env x=pure x:=by intro _;rfl) :
  PE X (.ListComp elt (⟨tg,iter,ifs,0⟩ :: gs) scope pos) (Yd4 nt ci wi g tk (.lst [])):=by with_unfolding_all
 intro pins s σ H Q I h;rw[eval_ListComp];refine Xl8 (B I.ok) hc hi hg rfl (fun _ _=>Wn1) htn hb (fun h=>wpAny_newObj_type h) rfl Xy0 hs I h fun acc C s' H' I' q hm hf ho=>?_;obtain⟨m,hm⟩:=hm;obtain⟨f0,f1,f2,f3,f4,f5⟩:=hf;exact⟨m,hm,fun h' sb=>⟨.ref acc,H',I'.turned (t':=s'.toks) (fun b o hb e=>(sb.2 b hb).trans e) f0 f1 f3 f4 f5,rfl,q⟩⟩
end
end L2
namespace Ken
open PySem L2
end Ken
namespace L2
open PySem PySem.Spec PyProof.Rows
section
variable {X:Cx} {pins:List (Addr×Obj)} {σ:St} {H:Hp} {s:Shared} {a:Addr} {y v:V} {u r:Value} {A:Around} {E:Value→Shared→Prop}
theorem Xk7 {H':Hp} {Q:Unit→Shared→Prop} (hu:A.units < cLine) (I:Inv X pins σ H s) (g:DPut H a y v H') (ry:RelV y u) (rv:RelV v r) (h:∀ s',Inv X pins σ H' s'→Q () s') :
  wpAny (model X.prog X.w) A (dictSet a u r) Q E s:=by
 rcases g with ⟨kvs,k,e,ey,l,eH⟩ | ⟨kvs,k,b,e,ey,eb,l,eH⟩
 ·subst ey eH
  obtain⟨z,hd,vs,rel,dd⟩:=Wm9 I.hok e
  have hz:vs.length≤sizeLine:=by rw[← rel.length];exact z
  have hl:(putK kvs k v).length≤sizeLine:=by have:=Zo7 kvs k v;walk_at "o"
  refine wpAny_dictSet_pairs (hsz:=hz) (Xh5 ry) dd fun h' dd' hs=>h _ ?_
  have he:∃ q,h'.get? a=some q:=let ⟨q,_,_,hq,_⟩:=dd';⟨q,hq⟩
  exact Xk5 I (by rw[e];exact True.intro) hs he (Wj7 hl hd (rel.put k rv) dd')
 ·subst ey eH
  cases (show u=Value.ref b from ry);obtain⟨z,hd,xs,rel,dd⟩:=Wm8 I.hok e
  have hz:xs.length≤sizeLine:=by rw[← Paired.length rel];exact z
  have hl:(putK kvs k v).length≤sizeLine:=by have:=Zo7 kvs k v;walk_at "o"
  refine wpAny_dictSet_heap (hsz:=hz) (knd:=tupleKind (Ze4 X.prog X.w)) hu (Xh2 I.hok eb) dd fun h' dd' hs=>h _ ?_;obtain⟨q,es,ep,hq,h2,h3,h4,_,h5⟩:=dd';refine Xk5 I (by rw[e];exact True.intro) hs ⟨q,hq⟩ ⟨hl,hd,_,(rel.put k eb rv).keeps fun c ys ec=>?_,q,es,ep,hq,h2,h3,h4,h5⟩;rw[Zb0 (Xg2 ec e (fun z=>nomatch z))];exact ec
end
def kPut (tk tv:TE) (acc:Addr):TK:=fun σ H N=>tk σ H fun y H1=>tv σ H1 fun x H2=>∃ H3,DPut H2 acc y x H3∧N H3
section
variable {Y:Cx}
theorem Xp0 {k v:Expr} {tk tv:TE} {acc:Addr} (hu:Y.A.units < cLine) (hk:PE Y k tk) (hv:PE Y v tv):PTn Y (Xk1 k v acc Y.env) (kPut tk tv acc):=by with_unfolding_all
 intro pins s σ H N I h;refine wpAny_bind (thn (hk pins s σ H _ I h) fun kv s1 zq=>?_);obtain⟨y,H1,I1,r1,h1⟩:=zq;refine wpAny_bind (wpAny_holding (thn (hv pins s1 σ H1 _ I1 h1) fun vv s2 zq=>?_));obtain⟨x,H2,I2,r2,H3,g,n⟩:=zq;refine wpAny_bind (wpAny_standAt (wpAny_holding ?_));exact Xk7 hu I2 g r1 r2 fun s' I'=>⟨σ,_,I',Wk.refl _,n⟩
end
theorem Yl1 {K:W.Frag} {a:Addr} {xs:List V} {σ0:St} {g:TG} {tk:TK} {Q:Hp→Prop} {H:Hp} (Pv:Nat→Hp→Prop) (h0:Pv 0 H) (hl:∀ i H,i≤xs.length→Pv i H→SqL K H a xs)
  (hs:∀ i x H (N:Hp→Prop),xs[i]?=some x→Pv i H→(∀ H',Pv (i+1) H'→N H')→g x σ0 H fun σ4 H4=>Wk σ0 σ4∧tk σ4 H4 N) (hd:∀ H,Pv xs.length H→Q H) :
  ∃ W:Nat→Nat→Hp→Prop,(∃ m,W 0 m H)∧Xl1 σ0 (Itl K a) g tk Q W:=by
 refine⟨fun i m H=>m=xs.length - i∧i≤xs.length∧Pv i H,⟨xs.length,by simp,Nat.zero_le _,h0⟩,?_⟩;rintro i m H ⟨rfl,hi,p⟩;have q:=hl i H hi p
 by_cases hlt:i < xs.length
 ·refine .inr ⟨⟨xs,xs[i],q,by simp[hlt]⟩,fun x H' y=>?_⟩
  obtain⟨e,y⟩:=y;subst e;exact hs i x H' _ (y xs q) p fun H5 p5=>⟨xs.length - (i+1),by walk_at "o",rfl,hlt,p5⟩
 ·have e:i=xs.length:=by walk_at "o"
  subst e;exact .inl ⟨⟨xs,q,Nat.le_refl _⟩,hd _ p⟩
end L2
namespace Ken
open PySem L2
end Ken
namespace L2
open PySem PySem.Spec PyProof.Rows
def Zw4 (i:Nat) (f:Addr) (t:TE):TE:=fun σ H Q=>σ[i]?=some (some (.ref f))∧t σ H Q
section
variable {X:Cx}
theorem Yu5 {k:Nat} {CX:CXT} {E:XK} {f:Addr} {fd:FuncData} {ps:List Str} {sp:Sp} {ds:List Value} {dvs:List V} {x:Str} {p pos:Pos} {e:Expr} {es:List Expr} {t:TA} {i:Nat} (F:FnOk X.prog X.w X.K X.mg X.base CX k f fd ps sp) (hr:Room k X.A) (hN:X.N[i]?=some x) (hv:Vis X.env.scope x) (hk:W.keepIn X.K (.ref f)=true) (hb:Binds X.K fd ps ds) (hd:Vals dvs ds) (hx:Yd1 CX X E)
  (ha:PA X (e :: es) t) (hdb:(x == ("__debug__":Str))=false:=by decide) (hcd:(x == ("__classdict__":Str))=false:=by decide) (he:starEach (e :: es) X.env=(false,eval e X.env) :: starEach es X.env:=by rfl) (hpl:(backTo pos (starEach es X.env)).any (·.1)=false:=by rfl) :
  PE X (.Call (.Name x p) (e :: es) [] pos) (Zw4 i f (Ya6 sp dvs E t)):=by with_unfolding_all
 intro pins s σ H Q I h;obtain⟨h1,h2⟩:=h;refine wpAny_Call_Name_kw ?_;refine thn (Xf1 (X:=X) (i:=i) hN hv hdb hcd pins s σ H (fun v H1=>v=.ref f∧H1=H) I ⟨_,h1,rfl,rfl⟩) fun v s0 zq=>?_;obtain⟨y,H0,I0,r0,e1,e2⟩:=zq;subst e1;subst e2;cases (show v=Value.ref f from r0);refine W.callWith_K (h₀:=X.base) I0.ok.mod.kin hk (thn (ha pos pins s0 σ H0 _ I0 h2) fun us s1 ⟨vs,H1,I1,r,q⟩=>⟨I1.kIn,?_⟩) he hpl;exact Xr8 F hr hb hd hx I1 r q
end
end L2
namespace Ken
open PySem L2
end Ken
namespace L2
open PySem PySem.Spec PyProof.Rows
noncomputable def posOf (s:Stmt):Pos:=match s with
 | .FunctionDef _ _ _ _ _ _ _ _ _ p=>p
 | _=>⟨0,0,0,0⟩
noncomputable def Xi5 (s:Stmt) (j:Nat):Stmt:=(Zc1 s).getD j (.Pass ⟨0,0,0,0⟩)
theorem Zy0 {X:Cx} {i:Nat} {name qual:Str} {st:Stmt} {cl:List (Str×Addr)} {c P:Addr} {ds:List (Pos×Str)}
  (hst:st=.FunctionDef name (Zc5 st) (Zc1 st) [] none [] (Za3 st) none name (posOf st))
  (hN:X.N.Nodup) (hi:X.N[i]?=some name) (hx:Loc X.env.scope name) (hcl:closureFor (Za3 st) X.env=pure cl) (hc:X.env.code=.ref c) (hC:∀ h,X.K.In h→W.CodeHd h c P) (hB:∀ h,X.K.In h→h.BuiltinsAt X.mg P) (hP:mainGlobals≠P)
  (hq:qualnameIn X.env name name=qual) (hd:(posOf st,qual)∈ds) (hds:∀ d∈ds,d.1.line=(posOf st).line→d.1.col=(posOf st).col→d.2=qual)
  (h1:(Zc5 st).defaults=[]) (h2:(Zc5 st).kw_defaults=[]) (h3:annTrees (Zc5 st) none X.env=[])
  (hf:X.fn name=true∨X.env.scope.names.lookup name=some .local:=by first | exact .inl rfl | exact .inr rfl | assumption) :
  PS X st (tDef i name qual (Zc5 st) (Zc1 st) (Za3 st) cl P ds):=by
 have h:=Wd6 (X:=X) (pos:=posOf st) (body:=Zc1 st) hN hi hx hcl hc hC hB hP hq hd hds h1 h2 h3 hf;rw[← hst] at h;exact h
theorem Xl5 {K:W.Frag} {c:Addr} {o:Obj} {vs:Array Value} {q:Str} {t:Tok} (h:K.lookup c=some o) (hd:o.data=.fields vs) (hv:vs[1]?=some (.str q t)):W.codeIn K (.ref c) q=true:=by
 obtain⟨cls,dict,data,slots⟩:=o;have hd:data=.fields vs:=hd;subst hd;unfold W.codeIn;dsimp only;rw[show List.lookup c K=_ from h];obtain⟨l⟩:=vs
 have hv:l[1]?=some (.str q t):=by simpa using hv
 match l,hv with
 | a :: b :: r,hv =>
  have hb:b=.str q t:=by simpa using hv
  subst hb;show (q == q)=true;simp
theorem Zr2 {K:W.Frag} {f:Addr} {oc:Value} {od:Option Addr} {fd:FuncData} {sl:Array (Option Value)} (h:K.lookup f=some ⟨oc,od,.func fd,sl⟩):W.keepIn K (.ref f)=true:=by
 unfold W.keepIn;dsimp only;rw[show List.lookup f K=_ from h]
theorem Zz9 {K K':W.Frag} (k:KLe K K') {cd:Value} {q:Str} (h:W.codeIn K cd q=true):W.codeIn K' cd q=true:=by
 cases cd with
 | ref c =>
  unfold W.codeIn at h ⊢;dsimp only at h ⊢
  cases z:List.lookup c K with
  | none=>rw[z] at h;cases h
  | some o =>
   rw[z] at h;rw[show List.lookup c K'=some o from k c o z];exact h
 | _=>exact absurd h (by simp[W.codeIn])
theorem Fun.le {K K':W.Frag} (k:KLe K K') {x qual:Str} {st:Stmt} {f:Addr} {fd:FuncData} (F:Fun K x qual st f fd):Fun K' x qual st f fd:=by
 obtain⟨⟨oc,od,kV,doc,pm,an,cdv,ct,osl,e,lk,hcd⟩,kp⟩:=F;exact⟨⟨oc,od,kV,doc,pm,an,cdv,ct,osl,e,k _ _ lk,Zz9 k hcd⟩,Zr2 (k _ _ lk)⟩
theorem Binds.le {K K':W.Frag} (k:KLe K K') {fd:FuncData} {ps:List Str} {ds:List Value} (b:Binds K fd ps ds):Binds K' fd ps ds:=fun s us h hl=>b s us (fun a o e=>h a o (k a o e)) hl
theorem SqT.le {K K':W.Frag} (k:KLe K K') {H:Hp} {a:Addr} {xs:List V} (h:SqT K H a xs):SqT K' H a xs:=by
 rcases h with h | ⟨o,its,n,e,r⟩
 ·exact .inl h
 ·exact .inr ⟨o,its,n,k a o e,r⟩
structure FunT (K:W.Frag) (x qual:Str) (st:Stmt) (f:Addr) (fd:FuncData) (P:Addr):Prop where
 ex:∃ (oc:Value) (od:Option Addr) (kV doc pm:Value) (an:Option Addr) (c:Addr) (ct:Value) (osl:Array (Option Value)),
  fd=W.fnOf x qual (Zc5 st) (Zc1 st) (Za3 st) .none kV doc pm an (.ref c) ct∧K.lookup f=some ⟨oc,od,.func fd,osl⟩∧W.codeIn K (.ref c) qual=true∧∀ h,K.In h→W.CodeHd h c P
 kp:W.keepIn K (.ref f)=true
theorem FunT.ok {P:Program} {w:World} {K:W.Frag} {mg:Str→Option Value} {base:Heap} {x qual:Str} {st:Stmt} {f:Addr} {fd:FuncData} {T:Addr} {N ps:List Str} {k:Nat} {sp:Sp} (F:FunT K x qual st f fd T) (S:FnScope N ps (Za3 st)) (len:∀ vs H Q E,sp vs H Q E→vs.length=ps.length)
  (hbody:∀ (c:Addr) (A:Around) (outer:List Env) (s:Shared) (H:Hp) (vs:List V) (Q:VK) (E:XK),(∀ h,K.In h→W.CodeHd h c T)→Room k (A.deeper (envOfC qual (Za3 st) s.heap.objs.size f (.ref c)))→sp vs H Q E →
   ∃ t,PSs (cxOf CX0 P w K mg base N qual (Za3 st) f (.ref c) A outer s H E).nox (Zc1 st) t∧t { nx:=fun _ H'=>Q .non H',rt:=Q } (start N vs) H):FnOk P w K mg base CX0 (k+1) f fd ps sp:=by
 obtain⟨oc,od,kV,doc,pm,an,c,ct,osl,rfl,lk,hcd,hC⟩:=F.ex;refine fn_of lk hcd S len fun A outer s H vs Q E hr hsp=>?_;obtain⟨t,h,q⟩:=hbody c A outer s H vs Q E hC hr hsp;exact⟨t,h.nox,q⟩
structure FunC (K:W.Frag) (x qual:Str) (st:Stmt) (cl:List (Str×Addr)) (f:Addr) (fd:FuncData):Prop where
 ex:∃ (oc:Value) (od:Option Addr) (doc pm cdv ct:Value) (osl:Array (Option Value)),
  fd=W.fnX x qual (Zc5 st) (Zc1 st) (Za3 st) cl .none .none doc pm none cdv ct∧K.lookup f=some ⟨oc,od,.func fd,osl⟩∧W.codeIn K cdv qual=true
 kp:W.keepIn K (.ref f)=true
theorem FunC.ok {P:Program} {w:World} {K:W.Frag} {mg:Str→Option Value} {base:Heap} {x qual:Str} {st:Stmt} {cl:List (Str×Addr)} {f:Addr} {fd:FuncData} {N ps fv:List Str} {frv:List V} {k:Nat} {sp:Sp} (F:FunC K x qual st cl f fd) (S:FnScopeC N ps fv (Za3 st)) (C:Caught K (Za3 st) cl fv frv) (len:∀ vs H Q E,sp vs H Q E→vs.length=ps.length)
  (hbody:∀ (cdv:Value) (A:Around) (outer:List Env) (s:Shared) (H:Hp) (vs:List V) (Q:VK) (E:XK),Room k (A.deeper (W.envX qual (Za3 st) s.heap.objs.size f cdv cl))→sp vs H Q E →
   ∃ t,PSs (cxC CX0 P w K mg base N qual (Za3 st) f cdv cl A outer s H E).nox (Zc1 st) t∧t { nx:=fun _ H'=>Q .non H',rt:=Q } (start N (vs++frv)) H):FnOk P w K mg base CX0 (k+1) f fd ps sp:=by
 obtain⟨oc,od,doc,pm,cdv,ct,osl,rfl,lk,hcd⟩:=F.ex;refine Wj3 lk hcd S C len fun A outer s H vs Q E hr hsp=>?_;obtain⟨t,h,q⟩:=hbody cdv A outer s H vs Q E hr hsp;exact⟨t,h.nox,q⟩
theorem FunC.binds {K:W.Frag} {x qual:Str} {st:Stmt} {cl:List (Str×Addr)} {f:Addr} {fd:FuncData} {ps:List Str} (F:FunC K x qual st cl f fd)
  (h:∀ (doc pm cdv ct:Value) (us:List Value),us.length=ps.length→bindArgs (W.fnX x qual (Zc5 st) (Zc1 st) (Za3 st) cl .none .none doc pm none cdv ct) ⟨us,[]⟩=pure (ps.zip us)):Binds K fd ps []:=by
 obtain⟨oc,od,doc,pm,cdv,ct,osl,rfl,lk,hcd⟩:=F.ex;exact .all (h doc pm cdv ct)
def Zu5 (X:Cx) (K:W.Frag) (x:Str) (v:V):Prop:=∃ c o u,X.env.cells.lookup x=some c∧K.lookup c=some o∧o.data=.cell (some u)∧RelV v u
theorem Zn0 {X:Cx} {K:W.Frag} {sc:Scope} {fv:List Str} {frv:List V} (ok:X.Ok) (hlen:frv.length=fv.length) (h1:∀ y∈sc.names,y.2=.free→y.1∈fv) (h2:∀ x∈fv,(x,NameKind.free)∈sc.names)
  (hc:∀ (i:Nat) (x:Str) (v:V),fv[i]?=some x→frv[i]?=some v→Zu5 X K x v):Caught K sc (Zi9 X.env.cells sc.names []) fv frv:=by
 have at':∀ x c,(Zi9 X.env.cells sc.names []).lookup x=some c→x∈fv∧c=(X.env.cells.lookup x).getD 0:=fun x c e=>by
  rcases Zr8 (PySem.mem_of_lookup e) with z | ⟨z1,z2⟩
  ·exact absurd z (by simp)
  ·exact⟨h1 _ z1 rfl,z2⟩
 have val:∀ x∈fv,∃ i v,fv[i]?=some x∧frv[i]?=some v:=fun x hx=>by
  obtain⟨i,hi,e⟩:=List.getElem_of_mem hx;exact⟨i,frv[i]'(by walk_at "o"),by rw[List.getElem?_eq_getElem hi,e],List.getElem?_eq_getElem _⟩
 have lk:∀ x,x∈fv→∃ c,(Zi9 X.env.cells sc.names []).lookup x=some c:=fun x hx=>by
  obtain⟨c,hm⟩:=Zr9 (cells:=X.env.cells) (acc:=[]) (.inl (h2 x hx));exact Zq9 hm
 refine⟨hlen,fun i x v e1 e2=>?_,fun x c e=>?_,fun x y c e1 e2=>?_,fun x e=>?_⟩
 ·obtain⟨c,o,u,g1,g2,g3,g4⟩:=hc i x v e1 e2
  obtain⟨c',e⟩:=lk x (List.mem_of_getElem? e1);have:=(at' x c' e).2;rw[g1] at this;cases this;exact⟨c,o,u,e,g2,g3,g4⟩
 ·obtain⟨hx,hcv⟩:=at' x c e
  obtain⟨i,v,e1,e2⟩:=val x hx;obtain⟨c',o,u,g1,g2,g3,g4⟩:=hc i x v e1 e2;rw[g1] at hcv;cases hcv;exact⟨o,_,g2,g3⟩
 ·obtain⟨hx,hcx⟩:=at' x c e1
  obtain⟨hy,hcy⟩:=at' y c e2;obtain⟨i,v,i1,i2⟩:=val x hx;obtain⟨j,u,j1,j2⟩:=val y hy;obtain⟨c1,_,_,g1,_⟩:=hc i x v i1 i2;obtain⟨c2,_,_,g2,_⟩:=hc j y u j1 j2;rw[g1] at hcx;rw[g2] at hcy;cases hcx;cases hcy;exact ok.inj x y _ g1 g2
 ·exact lk x (h1 _ (PySem.mem_of_lookup e) rfl)
mutual
theorem Dn.moveT {K K':W.Frag} {H H':Hp} (k:∀ a xs,SqT K H a xs→SqT K' H' a xs):∀ {d:PyData} {v:V},noList d=true→Dn K H v d→Dn K' H' v d
 | .none,v,_,h=>by rw[Dn] at h ⊢;exact h
 | .bool _,v,_,h=>by rw[Dn] at h ⊢;exact h
 | .int _,v,_,h=>by rw[Dn] at h ⊢;exact h
 | .str _,v,_,h=>by rw[Dn] at h ⊢;exact h
 | .list _,v,n,h=>by rw[noList] at n;cases n
 | .dict _,v,n,h=>by rw[noList] at n;cases n
 | .tuple ds,v,n,h=>by
  rw[Dn] at h ⊢;rw[noList] at n;obtain⟨a,xs,e,hs,hd⟩:=h;exact⟨a,xs,e,k a xs hs,DnAll.moveT k n hd⟩
theorem DnAll.moveT {K K':W.Frag} {H H':Hp} (k:∀ a xs,SqT K H a xs→SqT K' H' a xs):∀ {ds:List PyData} {xs:List V},noLists ds=true→DnAll K H xs ds→DnAll K' H' xs ds
 | [],xs,_,h=>by rw[DnAll] at h ⊢;exact h
 | d :: ds,xs,n,h=>by
  rw[DnAll] at h ⊢;rw[noLists,Bool.and_eq_true] at n;obtain⟨x,r,e,h1,h2⟩:=h;exact⟨x,r,e,Dn.moveT k n.1 h1,DnAll.moveT k n.2 h2⟩
end
theorem Yb3 {K K':W.Frag} {H:Hp} {xs:List (Addr×Obj)} (hx:∀ p∈xs,H p.1=some (FZ p.2)) (k:KLe K K') (a:Addr) (ys:List V) (h:SqT K H a ys):SqT K' (remX xs H) a ys:=by
 have out:∀ {b:Addr} {u:HO},H b=some u→(∀ o,u≠FZ o)→b ∉ xs.map (·.1):=fun {b u} e n z=>by
  obtain⟨p,hp,rfl⟩:=List.mem_map.mp z;rw[hx p hp] at e;cases e;exact n p.2 rfl
 rcases h with (h | ⟨o,h⟩) | ⟨o,its,n,e,r⟩
 ·exact .inl (.inl (by rw[Zc9 (out h fun _ z=>nomatch z)];exact h))
 ·exact .inl (.inr ⟨o,by rw[Zc9 (out h fun _ z=>by cases z)];exact h⟩)
 ·exact .inr ⟨o,its,n,k a o e,r⟩
theorem Yd6 {K K':W.Frag} {H H2:Hp} {xs cs:List (Addr×Obj)} (k:∀ a o,K'.lookup a=some o→K.lookup a=some o∨(a,o)∈xs++cs) (hn:∀ p∈xs++cs,∀ its n,p.2.data≠.seq its n) (hx:∀ p∈xs,H2 p.1=none) (a:Addr) (ys:List V) (h:SqT K' H2 a ys):SqT K (Ya3 xs H H2) a ys:=by
 have out:∀ {b:Addr} {u:HO},H2 b=some u→b ∉ xs.map (·.1):=fun {b u} e z=>by
  obtain⟨p,hp,rfl⟩:=List.mem_map.mp z;rw[hx p hp] at e;cases e
 rcases h with (h | ⟨o,h⟩) | ⟨o,its,n,e,r1,r2,r3⟩
 ·exact .inl (.inl (by rw[Zd8 (out h)];exact h))
 ·exact .inl (.inr ⟨o,by rw[Zd8 (out h)];exact h⟩)
 ·rcases k a o e with z | z
  ·exact .inr ⟨o,its,n,z,r1,r2,r3⟩
  ·exact absurd r2 (hn _ z its n)
end L2
namespace Ken
open PySem L2
theorem SameT.keepT {K:W.Frag} {H H':Hp} (e:SameT H H'):KeepT K H H':=fun a xs h=>by
 rcases h with (h | ⟨o,h⟩) | h
 ·exact .inl (.inl (e _ _ (fun _ z=>nomatch z) h))
 ·exact .inl (.inr ⟨o,e _ _ (fun _ z=>nomatch z) h⟩)
 ·exact .inr h
theorem SameT.seq {K:W.Frag} {H H':Hp} {a:Addr} {xs:List V} (e:SameT H H') (h:SqL K H a xs):SqL K H' a xs:=by
 rcases h with (h | ⟨o,h⟩) | h
 ·exact .inl (.inl (e _ _ (fun _ z=>nomatch z) h))
 ·exact .inl (.inr ⟨o,e _ _ (fun _ z=>nomatch z) h⟩)
 ·exact .inr h
end Ken
namespace L2
open PySem PySem.Spec PyProof.Rows
structure CodeFs (vs:Array Value) (T:Addr):Prop where
 a:vs[11]?=some (.ref T)
 b:vs.getD 11 .none=.ref T
 c:∃ file tf,vs.getD 18 .none=.str file tf
 d:∃ flags tg,vs.getD 7 .none=.int flags tg
 e:∃ inF,vs.getD 9 .none=.bool inF
 f:∃ text tt,vs.getD 10 .none=.int text tt
theorem Xl6 {K:W.Frag} {c T:Addr} {od:Option Addr} {vs:Array Value} {sl:Array (Option Value)} (l:K.lookup c=some ⟨.type "code",od,.fields vs,sl⟩) (x:CodeFs vs T) (n:c≠T) (h:Heap) (k:K.In h):W.CodeHd h c T:=by
 obtain⟨file,tf,h1⟩:=x.c;obtain⟨flags,tg,h2⟩:=x.d;obtain⟨inF,h3⟩:=x.e;obtain⟨text,tt,h4⟩:=x.f;exact⟨_,vs,file,tf,flags,tg,inF,text,tt,k _ _ l,rfl,rfl,x.a,x.b,h1,h2,h3,h4,n⟩
theorem Xz7 {K:W.Frag} {x qual:Str} {st:Stmt} {f:Addr} {oc:Value} {od an:Option Addr} {osl:Array (Option Value)} {kV doc pm ct:Value} {c T:Addr} (l:K.lookup f=some ⟨oc,od,.func (W.fnOf x qual (Zc5 st) (Zc1 st) (Za3 st) .none kV doc pm an (.ref c) ct),osl⟩)
  (cc:W.codeIn K (.ref c) qual=true) (k:W.keepIn K (.ref f)=true) (hC:∀ h,K.In h→W.CodeHd h c T):FunT K x qual st f (W.fnOf x qual (Zc5 st) (Zc1 st) (Za3 st) .none kV doc pm an (.ref c) ct) T:=⟨⟨oc,od,kV,doc,pm,an,c,ct,osl,rfl,l,cc,hC⟩,k⟩
end L2
namespace Hd
open PySem PySem.W PySem.Calls PyProof.Rows
noncomputable abbrev pos0:Pos:=⟨0,0,0,0⟩
noncomputable def o11:Obj:={ cls:=.type "tuple",data:=.seq #[] }
noncomputable def o12:Obj:={ cls:=.none,data:=.fields #[] }
noncomputable def o13:Obj:={ cls:=.type "code",data:=.fields #[.str (Str.ofString "<module>") 182,.str (Str.ofString "<module>") 183,.str (Str.ofString "/claim/cut.py") 184,.int 1 0,.int 0 0,.int 0 0,.int 0 0,.int 0 0,.ref 11,.bool false,.int 181 0,.ref 12,.none,.none,.none,.none,.int 185 0,.int 1 0,.str (Str.ofString "/claim/cut.py") 186] }
noncomputable def o14:Obj:={ cls:=.type "frame",slots:=#[some (.ref 13),some (.ref 3),some (.ref 3),none,some (.str (Str.ofString "__main__") 164),none,some (.ref 0)] }
noncomputable def Wl4 (P:Params):BT :=
 (.node (boot_o_0 P) (.node (boot_o_1 P) (.node (boot_o_3 P) (.node (boot_o_7 P) .nil .nil) (.node o11 .nil .nil)) (.node (boot_o_5 P) (.node (boot_o_9 P) .nil .nil) (.node o13 .nil .nil))) (.node (boot_o_2 P) (.node (boot_o_4 P) (.node (boot_o_8 P) .nil .nil) (.node o12 .nil .nil)) (.node (boot_o_6 P) (.node (boot_o_10 P) .nil .nil) (.node o14 .nil .nil))))
noncomputable abbrev annB:Option Value:=some (.ref 6)
noncomputable def Xq7 (p:Program):Env:={ scope:=p.main.scope,locals:=mainNs,globals:=mainNs,cells:=[],code:=.ref 13,frame:=some 14 }
noncomputable def Zr6 (p:Program):Code:=.body (behindTheImports p) (Xq7 p)
noncomputable def SB (w:World) (os:OsState):SharedT:=⟨Wl4 w.params,15,{},#[],{},187,os⟩
noncomputable def S0 (w:World) (os:OsState):Shared:=⟨boot_heap w.params,Array.mk [],boot_drawn,boot_toks,os⟩
noncomputable def pre (p:Program) (w:World) (os:OsState):=topGo treeTable p w 11 annB 12 (S0 w os) (topStub p)
noncomputable def preTo (p:Program) (w:World) (os:OsState):Option (Shared×Thread):=some ((SB w os).abs,⟨denote treeTable (Zr6 p),Zr6 p,pos0,[topFrame pos0]⟩)
noncomputable def blk (p:Program) (w:World) (os:OsState):=segRun treeTable p w 11 annB 1 1 (SB w os).abs (blockOf (behindTheImports p) (Xq7 p) (Zr6 p) pos0 [topFrame pos0])
noncomputable def blkTo (p:Program) (w:World) (os:OsState):Option (Flow×Shared×Code×Pos):=some (.next,(SB w os).abs,Zr6 p,pos0)
noncomputable def run (p:Program) (n:Nat) (w:World) (os:OsState):=segRunT treeTable p w 11 annB 1 n (SB w os) (piecesOf (behindTheImports p) (Xq7 p) (Zr6 p) pos0 [topFrame pos0])
noncomputable def fin (p:Program) (e:Pos) (w:World) (x:SharedT):Option Shared:=topRun treeTable p w 11 annB 2 x.abs ⟨doneF .next,Zr6 p,e,[topFrame pos0]⟩
noncomputable def kept (p:Program) (w:World) (s:Shared):Bool:=staticsOk (importedModules p.main.body) (boot_heap w.params) s.heap&&namesBound p s.heap&&gensDone s&&laidKept (boot_heap w.params) s.heap
noncomputable def ev {α:Type} (p q:Program) (loose:List Str) (lv:List (Str×WData)) (Yf:Shared→α) (n:Nat) (e:Pos) (w:World) (os:OsState) :=
 (run p n w os).map fun x=>(x.1,x.2.2,(fin p e w x.2.1).map fun s=>(kept p w s,openSeen q loose (importedModules p.main.body) (fun s=>xlAt q lv s&&recOk [] s) true s,Yf s))
noncomputable def evTo {α:Type} (p q:Program) (loose:List Str) (Ya:World→α) (e:Pos) (w:World) :=
 some (Flow.next,(Zr6 p,e),some (true,(expectedOf q,bltViewBooted,true,true,pinGoodD (drecsOf q),
  plainGoodE q (looseW q loose),plainGoodD q loose,wideGood q,clsGoodW q loose),Ya w))
theorem Wa6 (w:World) (os:OsState):((S0 w os).heap.isNs mainGlobals&&(S0 w os).gens.size == 0)=true∧(S0 w os).heap.objs.size=11∧(S0 w os).heap.nsMap mainGlobals "__annotations__"=annB:=by
 refine⟨?_,?_,?_⟩<;>kernel_rfl
theorem left {α:Type} {p q:Program} {loose:List Str} {lv:List (Str×WData)} {Yf:Shared→α} {Ya:World→α} {N n:Nat} {e:Pos}
  (ho:opening p=plainProg p.main.scope.names) (hN:Nat.ble 600 N=true) (hf:∀ s,fenceModules? p s=some s)
  (h1:∀ w,(fun os=>pre p w os)=fun os=>preTo p w os) (h2:∀ w,(fun os=>blk p w os)=fun os=>blkTo p w os)
  (h3:∀ w,(fun os=>ev p q loose lv Yf n e w os)=fun _=>evTo p q loose Ya e w) (hl:Nat.ble (12+(1+(n+2))) N=true) :
  LeftO p q loose (fun s=>xlAt q lv s&&recOk [] s) Yf Ya N:=fun w=>by
 obtain⟨s,es,eb⟩:=Option.map_eq_some_iff.mp (boot_open ho hN hf w);obtain⟨hp,gs,dr,tk,os⟩:=s;have sz:=Wa6 w os
 obtain⟨rfl,rfl,rfl,rfl⟩:hp=boot_heap w.params∧gs=Array.mk []∧dr=boot_drawn∧tk=boot_toks:=by
  have:=eb;simp only[Prod.mk.injEq] at this;exact this
 obtain⟨x,ex,ey⟩:=Option.map_eq_some_iff.mp (congrFun (h3 w) os);obtain⟨f,xT,c,pe⟩:=x;have q1:=(Prod.mk.inj ey).1;have q2:=(Prod.mk.inj (Prod.mk.inj ey).2).1;have q3:=(Prod.mk.inj (Prod.mk.inj ey).2).2;dsimp only at q1 q2 q3;subst q1;cases q2;obtain⟨s1,e1,e2⟩:=Option.map_eq_some_iff.mp q3;have r3:topRun treeTable p w 11 annB (n+2) (SB w os).abs (restOf (behindTheImports p++[]) (Xq7 p) (Zr6 p) pos0 [topFrame pos0])=some s1:=piece_app (segRun_of ex) (piece_nil e1);rw[List.append_nil] at r3;have r2:=piece_block (congrFun (h2 w) os) r3;have r1:=go_top (congrFun (h1 w) os) r2;have r0:=topRun_mono (N - (12+(1+(n+2)))) _ _ _ _ r1;rw[show 12+(1+(n+2))+(N - (12+(1+(n+2))))=N by have:=Nat.le_of_ble_eq_true hl;walk_at "o"] at r0;have k1:=(Prod.mk.inj e2).1;have k2:=(Prod.mk.inj (Prod.mk.inj e2).2).1;have k3:=(Prod.mk.inj (Prod.mk.inj e2).2).2
 have t:topFrom treeTable p w N (S0 w os)=some s1:=by
  unfold topFrom;rw[sz.1,sz.2.1,sz.2.2];dsimp only;rw[r0,Option.bind_some];have k1':(staticsOk (importedModules p.main.body) (S0 w os).heap s1.heap&&namesBound p s1.heap&&gensDone s1&&laidKept (S0 w os).heap s1.heap)=true:=k1;rw[k1']
 unfold openEnds;rw[es,Option.bind_some];have t':=congrArg (Option.map fun s=>(openSeen q loose (importedModules p.main.body) (fun s=>xlAt q lv s&&recOk [] s) true s,Yf s)) t;exact t'.trans (congrArg some (Prod.ext k2 k3))
theorem pre_self:@pre=@pre:=rfl
theorem preTo_self:@preTo=@preTo:=rfl
theorem blk_self:@blk=@blk:=rfl
theorem blkTo_self:@blkTo=@blkTo:=rfl
end Hd
name_quick hdPre for Hd.pre by Hd.pre_self
name_quick hdPreTo for Hd.preTo by Hd.preTo_self
name_quick hdBlk for Hd.blk by Hd.blk_self
name_quick hdBlkTo for Hd.blkTo by Hd.blkTo_self
namespace Hd
open PySem PySem.W PySem.Calls PyProof.Rows
noncomputable def evA (p:Program) (n:Nat) (e:Pos) (w:World) (os:OsState):=(run p n w os).map fun x=>(x.1,x.2.2,(fin p e w x.2.1).map fun s=>kept p w s)
noncomputable def evATo (p:Program) (e:Pos):=some (Flow.next,(Zr6 p,e),some true)
noncomputable def Wc2 (p q:Program) (loose:List Str) (lv:List (Str×WData)) (s:Shared):=((openSeen q loose (importedModules p.main.body) (fun s=>xlAt q lv s&&recOk [] s) true s).1,(openSeen q loose (importedModules p.main.body) (fun s=>xlAt q lv s&&recOk [] s) true s).2.1,(openSeen q loose (importedModules p.main.body) (fun s=>xlAt q lv s&&recOk [] s) true s).2.2.1)
noncomputable def Wc1 (p q:Program) (loose:List Str) (lv:List (Str×WData)) (s:Shared):=(openSeen q loose (importedModules p.main.body) (fun s=>xlAt q lv s&&recOk [] s) true s).2.2.2
noncomputable def evB (p q:Program) (loose:List Str) (lv:List (Str×WData)) (n:Nat) (e:Pos) (w:World) (os:OsState):=(run p n w os).map fun x=>(fin p e w x.2.1).map fun s=>Wc2 p q loose lv s
noncomputable def evBTo (q:Program):=some (some (expectedOf q,bltViewBooted,true))
noncomputable def evD (p q:Program) (loose:List Str) (lv:List (Str×WData)) (n:Nat) (e:Pos) (w:World) (os:OsState):=(run p n w os).map fun x=>(fin p e w x.2.1).map fun s=>Wc1 p q loose lv s
noncomputable def evDTo (q:Program) (loose:List Str):=some (some (true,pinGoodD (drecsOf q),plainGoodE q (looseW q loose),plainGoodD q loose,wideGood q,clsGoodW q loose))
noncomputable def evC {α:Type} (p:Program) (Yf:Shared→α) (n:Nat) (e:Pos) (w:World) (os:OsState):=(run p n w os).map fun x=>(fin p e w x.2.1).map fun s=>Yf s
noncomputable def evCTo {α:Type} (Ya:World→α) (w:World):=some (some (Ya w))
theorem ev_of {α:Type} {p q:Program} {loose:List Str} {lv:List (Str×WData)} {Yf:Shared→α} {Ya:World→α} {n:Nat} {e:Pos} {w:World}
  (hA:(fun os=>evA p n e w os)=fun _=>evATo p e) (hB:(fun os=>evB p q loose lv n e w os)=fun _=>evBTo q) (hD:(fun os=>evD p q loose lv n e w os)=fun _=>evDTo q loose) (hC:(fun os=>evC p Yf n e w os)=fun _=>evCTo Ya w) :
  (fun os=>ev p q loose lv Yf n e w os)=fun _=>evTo p q loose Ya e w:=by
 funext os
 have a:=congrFun hA os;have b:=congrFun hB os;have c:=congrFun hC os;have d:=congrFun hD os;unfold evD evDTo at d;unfold evA evATo at a;unfold evB evBTo at b;unfold evC evCTo at c;unfold ev evTo
 cases hr:run p n w os with
 | none=>rw[hr] at a;cases a
 | some x =>
  rw[hr] at a b c d;have a:=Option.some.inj a;have b:=Option.some.inj b;have c:=Option.some.inj c;have d:=Option.some.inj d;dsimp only at a b c d;obtain⟨a1,a2⟩:=Prod.mk.inj a;obtain⟨a2,a3⟩:=Prod.mk.inj a2;show some (x.1,x.2.2,_)=_
  cases hf:fin p e w x.2.1 with
  | none=>rw[hf] at a3;cases a3
  | some s =>
   rw[hf] at a3 b c d;have a3:=Option.some.inj a3;have b:=Option.some.inj b;have c:=Option.some.inj c;have d:=Option.some.inj d;dsimp only at a3 b c d;unfold Wc2 at b;unfold Wc1 at d;obtain⟨b1,b2⟩:=Prod.mk.inj b;obtain⟨b2,b3⟩:=Prod.mk.inj b2;have o:openSeen q loose (importedModules p.main.body) (fun s=>xlAt q lv s&&recOk [] s) true s=(expectedOf q,bltViewBooted,true,true,pinGoodD (drecsOf q),plainGoodE q (looseW q loose),plainGoodD q loose,wideGood q,clsGoodW q loose):=Prod.ext b1 (Prod.ext b2 (Prod.ext b3 d));rw[a1,a2];show some (_,_,some (kept p w s,_,_))=_;rw[a3,o,c]
theorem evA_self:@evA=@evA:=rfl
theorem evB_self:@evB=@evB:=rfl
theorem evD_self:@evD=@evD:=rfl
theorem evDTo_self:@evDTo=@evDTo:=rfl
theorem evC_self:@evC=@evC:=rfl
end Hd
name_quick hdEvA for Hd.evA by Hd.evA_self
name_quick hdEvB for Hd.evB by Hd.evB_self
name_quick hdEvD for Hd.evD by Hd.evD_self
name_quick hdEvDTo for Hd.evDTo by Hd.evDTo_self
name_quick hdEvC for Hd.evC by Hd.evC_self
namespace Hd
open PySem PySem.W PySem.Calls PyProof.Rows L2
noncomputable def pick (h:Heap) (as:List Addr):Frag:=as.filterMap fun a=>(h.get? a).map fun o=>(a,o)
theorem Xe8 (h:Heap):∀ as:List Addr,(pick h as).In h
 | []=>fun _ _ e=>by cases e
 | b :: as=>fun a o e=>by
  have ih:=Xe8 h as a o;have e':List.lookup a (pick h (b :: as))=some o:=e;unfold pick at e';rw[List.filterMap_cons] at e'
  cases z:h.get? b with
  | none=>rw[z] at e';exact ih e'
  | some u =>
   rw[z] at e';dsimp only[Option.map] at e';rw[List.lookup_cons] at e'
   split at e'
   ·rename_i hb
    have:=eq_of_beq hb;subst this;cases e';exact z
   ·exact ih e'
noncomputable def stAt (p:Program) (i:Nat):Stmt:=p.main.body.getD i (.Pass ⟨0,0,0,0⟩)
noncomputable def nm:Stmt→Str
 | .FunctionDef n _ _ _ _ _ _ _ _ _=>n
 | .ClassDef n _ _ _ _ _ _ _ _ _ _=>n
 | .Assign [.Name n _] _ _=>n
 | _=>Str.empty
noncomputable def Xk9:PySem.Expr→Str
 | .Constant (.str s) _ _=>s
 | .Name n _=>n
 | _=>Str.empty
noncomputable def Wb1:Stmt→List Str
 | .Assign _ (.Tuple es _ _) _=>es.map Xk9
 | _=>[]
noncomputable def Yr5:Stmt→List (Str×Str)
 | .Assign _ (.Dict ks vs _) _=>List.zip (ks.map fun k=>match k with | some e=>Xk9 e | none=>Str.empty) (vs.map Xk9)
 | _=>[]
structure Ask where
 fns:List Nat
 tups:List Nat
 kfs:List Nat
 kds:List Nat
 bl:List Str
noncomputable abbrev FnD:=Str×Str×Arguments×FuncBody×Scope×Addr×List (Str×Addr)×Value×Addr×Bool
noncomputable def fnD (K:Frag) (fd:FuncData):FnD:=(fd.name,fd.qualname,fd.params,fd.body,fd.scope,fd.globals,fd.closure,fd.defaults,fd.builtins,codeIn K fd.code fd.qualname)
noncomputable def Zj2 (K:Frag) (x:Str):Option (Addr×Obj):=match nsIn K mainGlobals x with
 | some (some (.ref f))=>(K.lookup f).map fun o=>(f,o)
 | _=>none
noncomputable def Zr5 (K:Frag) (x:Str):Option FnD:=match Zj2 K x with
 | some (_,⟨_,_,.func fd,_⟩)=>some (fnD K fd)
 | _=>none
noncomputable def Zu4 (st:Stmt):Option FnD:=some (nm st,nm st,Zc5 st,.stmts (Zc1 st),Za3 st,mainGlobals,[],.none,builtinsNs,true)
theorem Xe2 {K:Frag} {x:Str} {r:Addr×Obj} (e:Zj2 K x=some r):nsIn K mainGlobals x=some (some (.ref r.1))∧K.lookup r.1=some r.2:=by
 unfold Zj2 at e
 split at e
 ·rename_i f hf
  obtain⟨o,e1,e2⟩:=Option.map_eq_some_iff.mp e;subst e2;exact⟨hf,e1⟩
 ·cases e
theorem fn_of {K:Frag} {st:Stmt} (e:Zr5 K (nm st)=Zu4 st):∃ (f:Addr) (oc:Value) (od:Option Addr) (sl:Array (Option Value)) (kV dc pm:Value) (an:Option Addr) (cd ct:Value),
  nsIn K mainGlobals (nm st)=some (some (.ref f))∧K.lookup f=some ⟨oc,od,.func (fnOf (nm st) (nm st) (Zc5 st) (Zc1 st) (Za3 st) .none kV dc pm an cd ct),sl⟩∧codeIn K cd (nm st)=true∧keepIn K (.ref f)=true:=by
 unfold Zr5 at e
 split at e
 ·rename_i f oc od fd sl h
  obtain⟨h1,h2⟩:=Xe2 h;dsimp only at h1 h2;obtain⟨a1,a2,a3,a4,a5,a6,a7,a8,a9,a10,a11,a12,a13,a14,a15⟩:=fd;have e:=Option.some.inj e;simp only[fnD,Prod.mk.injEq] at e;obtain⟨rfl,rfl,rfl,rfl,rfl,rfl,rfl,rfl,rfl,hc⟩:=e;refine⟨f,oc,od,sl,_,_,_,_,_,_,h1,h2,hc,?_⟩;show (match K.lookup f with | some ⟨_,_,.func _,_⟩=>true | some ⟨_,_,.cls _,_⟩=>specialIn K (.ref f) "__call__" == some (some (.builtin "type.__call__")) | _=>false)=true;rw[h2]
 ·cases e
noncomputable def Zu6:Value→Option Str
 | .str s _=>some s
 | _=>none
theorem Yd5 {v:Value} {s:Str} (e:Zu6 v=some s):∃ t,v=.str s t:=by
 unfold Zu6 at e
 split at e
 ·cases e;exact⟨_,rfl⟩
 ·cases e
noncomputable def Xv5 (K:Frag) (x:Str):Option (Value×List (Option Str)):=match Zj2 K x with
 | some (_,⟨c,_,.seq vs _,_⟩)=>some (c,vs.toList.map Zu6)
 | _=>none
noncomputable def Xv4 (st:Stmt):Option (Value×List (Option Str)):=some (.type "tuple",(Wb1 st).map some)
noncomputable abbrev DiD:=Value×Option Addr×Array (Option Value)×Bool×Nat×List (Int×Option Str×Bool)
noncomputable def Wm4 (K:Frag) (e:DictEntry) (kf:Str×Str):Int×Option Str×Bool:=(e.hash,Zu6 e.key,nsIn K mainGlobals kf.2 == some (some e.val))
noncomputable def Wi0 (K:Frag) (x:Str) (kfs:List (Str×Str)):Option DiD:=match Zj2 K x with
 | some (a,⟨c,od,.dict es _,sl⟩)=>some (c,od,sl,a == sysModules,es.toList.length,List.zipWith (Wm4 K) es.toList kfs)
 | _=>none
noncomputable def Wh9 (P:Params) (kfs:List (Str×Str)):Option DiD:=some (.type "dict",none,#[],false,kfs.length,kfs.map fun kf=>(PyData.keyHash P kf.1,some kf.1,true))
noncomputable abbrev DsD:=Value×Option Addr×Array (Option Value)×Bool×List (Int×Option Str×Option Str)
noncomputable def Wi6 (K:Frag) (x:Str):Option DsD:=match Zj2 K x with
 | some (a,⟨c,od,.dict es _,sl⟩)=>some (c,od,sl,a == sysModules,es.toList.map fun e=>(e.hash,Zu6 e.key,Zu6 e.val))
 | _=>none
noncomputable def Wi5 (P:Params) (kvs:List (Str×Str)):Option DsD:=some (.type "dict",none,#[],false,kvs.map fun kv=>(PyData.keyHash P kv.1,some kv.1,some kv.2))
noncomputable abbrev Obs:=List (Option FnD)×List (Option (Value×List (Option Str)))×List (Option DiD)×List (Option DsD)×List (Option (Option Value))
noncomputable def obsK (p:Program) (A:Ask) (K:Frag):Obs :=
 (A.fns.map fun i=>Zr5 K (nm (stAt p i)),A.tups.map fun i=>Xv5 K (nm (stAt p i)),A.kfs.map fun i=>Wi0 K (nm (stAt p i)) (Yr5 (stAt p i)),A.kds.map fun i=>Wi6 K (nm (stAt p i)),A.bl.map fun x=>nsIn K mainGlobals x)
noncomputable def valK (p:Program) (A:Ask) (P:Params):Obs :=
 (A.fns.map fun i=>Zu4 (stAt p i),A.tups.map fun i=>Xv4 (stAt p i),A.kfs.map fun i=>Wh9 P (Yr5 (stAt p i)),A.kds.map fun i=>Wi5 P (Yr5 (stAt p i)),A.bl.map fun _=>some none)
noncomputable def Wn5 (p:Program) (A:Ask) (h:Heap):List Addr :=
 mainGlobals :: (A.fns++A.tups++A.kfs++A.kds).flatMap fun i=>match nsIn (pick h [mainGlobals]) mainGlobals (nm (stAt p i)) with
  | some (some (.ref a))=>a :: (match h.get? a with
   | some ⟨_,_,.func fd,_⟩=>(match fd.code with | .ref c=>[c] | _=>[])
   | _=>[])
  | _=>[]
theorem Xt2 {α β:Type} {f g:α→β} {l:List α} (e:l.map f=l.map g) {a:α} (h:a∈l):f a=g a:=List.map_inj_left.mp e a h
section
variable {p:Program} {A:Ask} {K:Frag} {P:Params} (e:obsK p A K=valK p A P)
theorem e_fn (e:obsK p A K=valK p A P) {i:Nat} (h:i∈A.fns):Zr5 K (nm (stAt p i))=Zu4 (stAt p i):=Xt2 (f:=fun i=>Zr5 K (nm (stAt p i))) (g:=fun i=>Zu4 (stAt p i)) (Prod.mk.inj e).1 h
theorem e_bl (e:obsK p A K=valK p A P) {x:Str} (h:x∈A.bl):nsIn K mainGlobals x=some none :=
 Xt2 (f:=fun x=>nsIn K mainGlobals x) (g:=fun _=>some none) (Prod.mk.inj (Prod.mk.inj (Prod.mk.inj (Prod.mk.inj e).2).2).2).2 h
end
open PySem.Spec
noncomputable def posOf:Stmt→Pos
 | .FunctionDef _ _ _ _ _ _ _ _ _ p=>p
 | _=>⟨0,0,0,0⟩
def FnF (K:Frag) (x:Str) (st:Stmt):Prop:=∃ (f:Addr) (oc:Value) (od:Option Addr) (sl:Array (Option Value)) (kV dc pm:Value) (an:Option Addr) (cd ct:Value),
 nsIn K mainGlobals x=some (some (.ref f))∧K.lookup f=some ⟨oc,od,.func (fnOf x x (Zc5 st) (Zc1 st) (Za3 st) .none kV dc pm an cd ct),sl⟩∧codeIn K cd x=true∧keepIn K (.ref f)=true
theorem fn_ofx {K:Frag} {x:Str} {st:Stmt} (hx:nm st=x) (e:Zr5 K (nm st)=Zu4 st):FnF K x st:=hx▸fn_of e
def FunF (K:Frag) (x:Str) (st:Stmt):Prop:=∃ (f:Addr) (fd:FuncData),nsIn K mainGlobals x=some (some (.ref f))∧Fun K x x st f fd
theorem Xz6 {K:Frag} {x:Str} {st:Stmt} (hx:nm st=x) (e:Zr5 K (nm st)=Zu4 st):FunF K x st:=by
 obtain⟨f,oc,od,sl,kV,dc,pm,an,cd,ct,a,l,c,k⟩:=fn_ofx hx e;exact⟨f,_,a,Xj3 l c k⟩
end Hd
namespace L2
open PySem PySem.Spec PyProof.Rows Ken
theorem Yf6 (t:SetTable) (n:Nat):(t.orStandIn n).led=t.led:=by
 unfold SetTable.orStandIn;split<;>rfl
theorem Yy7 (t:SetTable) (es:Array (Int×Value)) (h:Int) (x:Value):(layNew t es h x).2.1.led=t.led:=by
 unfold layNew
 split
 ·show ((t.put _).1.orStandIn _).led=t.led
  rw[Yf6];rfl
 ·rfl
theorem Yy8 {mask finger moves:Nat} {led plain:Bool} {hashes:Array Int} {t:SetTable} {o:Array Nat} (h:SetTable.laid mask finger moves led plain hashes=some (t,o)):t.led=led∧t.plain=plain:=by
 unfold SetTable.laid at h
 cases z:SetTable.layClean mask hashes with
 | none=>rw[z] at h;cases h
 | some ow =>
  rw[z] at h;cases h;exact⟨rfl,rfl⟩
theorem Yj7 (t:SetTable) (es:Array (Int×Value)) (n:Nat):(relayAll t es n).2.1.led=t.led:=by
 unfold relayAll
 split
 ·rename_i t' o e
  have f:=Yy8 (show SetTable.laid _ _ _ t.led t.plain _=some (t',o) from e);dsimp only
  split
  ·exact f.1
  ·rfl
 ·rfl
theorem Zy3 {α β:Type} {F:α→β→Prop} {l l':List α} {m:List β} (p:List.Perm l l') (h:Paired F l m):∃ m',List.Perm m m'∧Paired F l' m':=by
 induction p generalizing m with
 | nil=>cases h;exact⟨[],.nil,.nil⟩
 | cons x _ ih =>
  cases h with
  | cons hx t =>
   obtain⟨m',p',q'⟩:=ih t;exact⟨_ :: m',.cons _ p',.cons hx q'⟩
 | swap x y l =>
  cases h with
  | cons hx t =>
   cases t with
   | cons hy t=>exact⟨_,.swap _ _ _,.cons hy (.cons hx t)⟩
 | trans _ _ ih1 ih2 =>
  obtain⟨m1,p1,q1⟩:=ih1 h;obtain⟨m2,p2,q2⟩:=ih2 q1;exact⟨m2,p1.trans p2,q2⟩
noncomputable def Yn9 (w:World):Obj:={ cls:=.type "set",data:=.set #[] 0 (SetTable.fresh 0 0 !(w.params.followText "set-order")) }
section
variable {P:Program} {w:World} {A:Around} {E:Value→Shared→Prop} {s:Shared}
theorem Xx7 {Q:Value→Shared→Prop} (h:Q (.ref s.heap.objs.size) { s with heap:=s.heap.push (Yn9 w) }):wpAny (model P w) A (newSet (.type "set")) Q E s:=by
 unfold newSet;refine wpAny_bind (wpAny_bind (wpAny_askSetting (wpAny_pure ?_)));exact wpAny_newObj_type h (hd:=by show (0:Nat)≤sizeLine;decide)
end
def Zt7 (nt:Nat) (ci:List Nat) (wi:TI) (g:TG) (tk:Addr→TK) (o0:Addr→HO):TE:=fun σ H Q=>wi σ H fun J H1=>∀ acc,H1 acc=none→∃ W:Nat→Nat→Hp→Prop,(∃ m,W 0 m (upd H1 acc (o0 acc)))∧Xl1 (capt nt ci σ) J g (tk acc) (fun H2=>Q (.ref acc) H2) W
section
variable {X:Cx} {scope:Scope} {cl:List (Str×Addr)} {N':List Str} {nt:Nat} {ci:List Nat} {pins:List (Addr×Obj)} {σ:St} {H:Hp} {s:Shared}
theorem Xr2 {e:Expr} {gs:List Comprehension} {ifs:List Expr} {body:Addr→Env→Sem Unit} {newAcc:Sem Value} {ob:Obj} {o0:Addr→HO} {p0:Pos} {tk:Addr→TK} {tg iter:Expr} {pos':Pos} {wi:TI} {g:TG} {use:Option (Value→Sem Unit)} {Q:VK} {Qf:Value→Shared→Prop} (B:BlkOk X scope cl N' nt ci) (hc:X.calm=true) (hi:PI X tg iter wi)
  (hg:∀ s H C ex,PG (blk X N' scope cl s H C ex) tg g) (hcl:clausesOf e=⟨tg,iter,ifs,0⟩ :: gs) (hden:∀ acc env,Ys2 X.prog X.w X.A e 0 acc env) (htn:∀ a env,Zs1 e 0 tg p0 (.ref a) env (body a env))
  (hb:∀ s H C ex a,PTn (blk X N' scope cl s H C ex) (body a (blk X N' scope cl s H C ex).env) (tk a)) (hnew:∀ {A:Around} {E:Value→Shared→Prop} {s:Shared} {Q:Value→Shared→Prop},Q (.ref s.heap.objs.size) { s with heap:=s.heap.push ob }→wpAny (model X.prog X.w) A newAcc Q E s)
  (hfree:ob.isFreed=false) (hobj:∀ (H:Hp) (h:Heap) (a:Addr),h.get? a=some ob→sysModules < a→ObjOk X.prog X.w (upd H a (o0 a)) h a (o0 a)) (hs:∀ x,foldedSetIterable iter X.env x=pure x) (I:Inv X pins σ H s) (h:Zt7 nt ci wi g tk o0 σ H Q)
  (fin:∀ (acc C:Addr) (s':Shared) (H':Hp),Inv X pins σ H' s'→Q (.ref acc) H'→(∃ m,s'.heap.Ns C m)→FpOk X pins H' C→(∃ o,s'.heap.get? C=some o∧∀ v,o.data≠.cell v)→compPost (model X.prog X.w) X.A X.xe use Qf (.ref acc) C (.ok .next) s') :
  wpAny (model X.prog X.w) X.A (comprehension e scope X.env pos' newAcc false (eval iter X.env) use) Qf X.xe s:=by with_unfolding_all
 refine wpAny_comprehension_free (use:=use) hcl hs B.clos B.kind B.names (thn (hi pins s σ H _ I h) fun v s1 h1=>thn h1 fun itv s2 h2=>?_);obtain⟨it,fp,tn,J,H2,e,I2,T,st2,f2,q2⟩:=h2;subst e;have hacc:H2 s2.heap.objs.size=none:=I2.hok.fresh (Nat.le_refl _);obtain⟨W,⟨m0,w0⟩,hW⟩:=q2 s2.heap.objs.size hacc;refine hnew (wpAny_newFunctionEnv B.cell (by intro y hy;simp at hy) (fun h₁ hns₁ hsb₁=>?_) B.kind);dsimp only at hns₁ hsb₁ ⊢;have hCs:(s2.heap.push ob).objs.size=s2.heap.objs.size+1:=Heap.size_push ..;have k1:∀ b u,s2.heap.get? b=some u→h₁.get? b=some u:=fun b u e=>hsb₁.extBut b u (by rw[hCs];exact Nat.ne_of_lt (Nat.lt_succ_of_lt (Heap.lt_size e))) (Heap.get?_push_of_some _ (Heap.get?_push_of_some _ e));have a1:h₁.get? s2.heap.objs.size=some ob:=hsb₁.extBut _ _ (by rw[hCs];exact Nat.ne_of_lt (Nat.lt_succ_self _)) (Heap.get?_push_of_some _ (Heap.get?_push_size _ hfree));rw[hCs] at hns₁ ⊢;have hsys:sysModules < s2.heap.objs.size:=I2.big;have I3:=Yc9 (o0:=o0 s2.heap.objs.size) (tk:=s2.toks+([]:List (Str×Value)).length) B I2 f2 (fun b hb=>let ⟨o,e,_⟩:=T.obj _ _ st2 b hb;⟨o,e⟩) rfl rfl k1 (by simpa using hns₁) (hobj _ _ _ a1 hsys)
 have hfpB:∀ (H':Hp),(∀ b∈fp,H' b=none)→∀ b∈fp,FpOk (blk X N' scope cl s2 H2 (s2.heap.objs.size+1) fp) [] H' b:=fun H' hn b hb=>by
  obtain⟨f0,f1,f3,f4,f5,f6⟩:=f2 b hb;obtain⟨o,e,_⟩:=T.obj _ _ st2 b hb;refine⟨hn b hb,?_,fun z=>?_,.inl hb,fun x c e'=>f5 x c (B.sub x c e'),fun p hp=>absurd (show p∈([]:List (Addr×Obj)) from hp) (by simp)⟩
  ·exact Nat.ne_of_lt (Nat.lt_succ_of_lt (Heap.lt_size e))
  ·rcases List.mem_cons.mp (I2.stkSub b z) with y | y
   ·exact f1 y
   ·exact f3 y
 have hfr3:∀ b∈fp,upd H2 s2.heap.objs.size (o0 s2.heap.objs.size) b=none:=fun b hb=>by
  obtain⟨o,e,_⟩:=T.obj _ _ st2 b hb;rw[Zb0 (Nat.ne_of_lt (Heap.lt_size e))];exact (f2 b hb).1
 have st3:tn 0 h₁:=T.keep _ _ _ st2 fun b _ o e=>k1 b o e;have loop:codeAny (model X.prog X.w) X.A (.compLoop e 0 (.ref it) (.ref s2.heap.objs.size) (compEnvC scope cl (s2.heap.objs.size+1) X.env))
   (compPost (model X.prog X.w) X.A X.xe use Qf (.ref s2.heap.objs.size) (s2.heap.objs.size+1)) { s2 with heap:=h₁,toks:=s2.toks+([]:List (Str×Value)).length }:=by
  refine Yl0 (Y:=blk X N' scope cl s2 H2 (s2.heap.objs.size+1) fp) (Q:=fun H'=>Q (.ref s2.heap.objs.size) H') hc rfl (hden _ _) (htn _ _) (hg _ _ _ _) (hb _ _ _ _ _) T hfpB hW (fun s' H' I' q=>?_) I3 st3 hfr3 w0;have un:=I'.base;have ns:=I'.loc;have fC:H' (s2.heap.objs.size+1)=none:=I'.free
  have I4:Inv X pins σ H' s':=I2.call' I'.os un I'.hok I'.bare fun b hb=>by
   obtain⟨f0,f1,f3,f4,f5,f6⟩:=f2 b hb;exact⟨f4,f1,f5,f6⟩
  obtain⟨m,hm,_⟩:=ns;have hm':s'.heap.Ns (s2.heap.objs.size+1) m:=hm;refine fin _ _ s' H' I4 q ⟨m,hm'⟩ (I2.fpOk (Nat.le_succ _) fC) ?_;obtain⟨o,es,ep,e,d,_⟩:=hm';exact⟨o,e,fun v z=>by rw[d] at z;cases z⟩
 exact Zi5 (hden _ _) (by rw[hcl];rfl) rfl loop (T.self _ _ _ _ _ st3 loop)
end
section
variable {prog:Program} {w:World} {A:Around} {E:Value→Shared→Prop} {s:Shared}
theorem Zw7 {α:Type} {Q:α→Shared→Prop} (hh:A.handled=none) (hE:∀ h' e,(∀ b o,s.heap.get? b=some o→h'.get? b=some o)→(∃ o,h'.get? e=some o∧o.cls=.type "StopIteration")→E (.ref e) { s with heap:=h' }) :
  wpAny (model prog w) A (Builtin.SmallTypes.stopIteration:Sem α) Q E s:=by
 show wpAny _ _ (newExc (Value.type "StopIteration") [] >>= _) _ _ _;refine wpAny_bind ?_;unfold newExc;refine wpAny_bind (wpAny_newObj_type ?_);refine wpAny_bind (wpAny_of_eq (Eq.refl (firstArgMember (Value.type "StopIteration") [])) (wpAny_newObj_type ?_));unfold raiseNew;refine wpAny_bind (wpAny_handled ?_);rw[hh];refine wpAny_throw ?_;exact hE _ _ (fun b o e=>Heap.get?_push_of_some _ (Heap.get?_push_of_some _ e)) ⟨_,Heap.get?_push_size _ rfl,rfl⟩
theorem Zt2 {it l:Addr} {i:Nat} {items:Array Value} {x:Value} {Q:Value→Shared→Prop} (hit:s.heap.IsTupleIter it l i) (hl:s.heap.IsTuple l items) (hx:items[i]?=some x)
  (hQ:∀ h',h'.IsTupleIter it l (i+1)→Heap.SameBut it s.heap h'→Q x { s with heap:=h' }):wpAny (model prog w) A (Builtin.SmallTypes.nextOf (Value.ref it)) Q E s:=by
 obtain⟨o,ho,hc,hd⟩:=id hit;obtain⟨ol,hol,_,nl,hdl⟩:=hl;show wpAny _ _ (callSpecial? (Value.ref it) (Str.ofString "__next__") >>= _) _ _ _;refine wpAny_bind (wpAny_callSpecial?_slot (Heap.IsTupleIter.typeIs hit) slot_tupleiter_next (wpAny_call_entry slot_tupleiter_next (Heap.IsTupleIter.typeIs hit) entry_tupleiter_next ?_ (args_tupleiter_next (Value.ref it))));show wpAny _ _ (field (Value.ref it) 0 >>= _) _ _ _;refine wpAny_bind (wpAny_field ho hd rfl ?_);dsimp only;rw[if_neg (show ¬ (#[Value.ref l,Value.int (↑i) 0][0] == Value.none)=true from Bool.false_ne_true)];refine wpAny_bind (wpAny_field ho hd rfl ?_);show wpAny _ _ (seqItems? (Value.ref l) >>= _) _ _ _;refine wpAny_bind (wpAny_seqItems hol hdl ?_);dsimp only;rw[show items[((i:Int)).toNat]?=some x from hx];refine wpAny_bind (wpAny_setField ho hd (by simp) (wpAny_pure ⟨x,rfl,wpAny_pure (hQ _ ⟨_,Heap.get?_update_self _ ho (Obj.isFreed_of_fields (Obj.data_mapFields hd _)),(Obj.cls_mapFields o _).trans hc,?_⟩ (Heap.SameBut.update s.heap it _))⟩));rw[Obj.data_mapFields hd];rfl
theorem Zu9 {it l:Addr} {i:Nat} {items:Array Value} {Q:Value→Shared→Prop} (hh:A.handled=none) (hit:s.heap.IsTupleIter it l i) (hl:s.heap.IsTuple l items) (hx:items[i]?=none)
  (hE:∀ h' e,Heap.ExtBut it s.heap h'→(∃ o,h'.get? e=some o∧o.cls=.type "StopIteration")→E (.ref e) { s with heap:=h' }):wpAny (model prog w) A (Builtin.SmallTypes.nextOf (Value.ref it)) Q E s:=by
 obtain⟨o,ho,hc,hd⟩:=id hit;obtain⟨ol,hol,_,nl,hdl⟩:=hl;show wpAny _ _ (callSpecial? (Value.ref it) (Str.ofString "__next__") >>= _) _ _ _;refine wpAny_bind (wpAny_callSpecial?_slot (Heap.IsTupleIter.typeIs hit) slot_tupleiter_next (wpAny_call_entry slot_tupleiter_next (Heap.IsTupleIter.typeIs hit) entry_tupleiter_next ?_ (args_tupleiter_next (Value.ref it))));show wpAny _ _ (field (Value.ref it) 0 >>= _) _ _ _;refine wpAny_bind (wpAny_field ho hd rfl ?_);dsimp only;rw[if_neg (show ¬ (#[Value.ref l,Value.int (↑i) 0][0] == Value.none)=true from Bool.false_ne_true)];refine wpAny_bind (wpAny_field ho hd rfl ?_);show wpAny _ _ (seqItems? (Value.ref l) >>= _) _ _ _;refine wpAny_bind (wpAny_seqItems hol hdl ?_);dsimp only;rw[show items[((i:Int)).toNat]?=none from hx];refine wpAny_bind (wpAny_rule (wpAny_bind (wpAny_setField ho hd (by simp) ?_)));refine Zw7 (A:=A.in1) (by first | exact hh | rfl) fun h' e k hc'=>?_;exact hE h' e (fun b ob hb eb=>k b ob ((Heap.SameBut.update s.heap it _).2 b hb |>.trans eb)) hc'
end
theorem slot_si_next:Slot "set_iterator" (Str.ofString "__next__") "set_iterator.__next__" :=
 Slot.of (owner:="set_iterator") (n:="__next__") (by rw[typeLookup_type,builtinLookup_eq_fast];rfl) (by decide +kernel) (by decide +kernel) (by decide +kernel) (Or.inl (by decide +kernel)) (by rw[isSubtype_type];rfl) (by decide +kernel)
theorem Yg3:entryFor table "set_iterator.__next__"=some Builtin.«set_iterator.__next__»:=entryFor_of_tree rfl
theorem Yu8:List.lookup (String.ofList ("set_iterator".toList)) Manifest.owners=some Manifest.sig_set_iterator:=rfl
theorem Ym2 (a:Value):argsOk "set_iterator.__next__" { pos:=[a] }:=by
 show (match Manifest.signature? "set_iterator.__next__" with | some sig=>Bind.checkArgs "set_iterator.__next__" sig { pos:=[a] } | none=>pure ())=pure ();rw[signature?_of (id:="set_iterator.__next__") (n:="__next__".toList.reverse) (o:="set_iterator".toList.reverse) rfl Yu8];rfl
theorem Ya9:entryFor table "set.__iter__"=some Builtin.«frozenset.__iter__» :=
 entryFor_alias (id':="frozenset.__iter__") (by rw[fastTable_eq_tree];rfl) (by decide +kernel) (by decide +kernel) (by rw[fastTable_eq_tree];rfl)
theorem Zt8:Slot "set_iterator" (Str.ofString "__iter__") "set_iterator.__iter__" :=
 Slot.of (owner:="set_iterator") (n:="__iter__") (by rw[typeLookup_type,builtinLookup_eq_fast];rfl) (by decide +kernel) (by decide +kernel) (by decide +kernel) (Or.inl (by decide +kernel)) (by rw[isSubtype_type];rfl) (by decide +kernel)
theorem Yg4:entryFor table "set_iterator.__iter__"=some Builtin.«dict_keyiterator.__iter__» :=
 entryFor_alias (id':="dict_keyiterator.__iter__") (by rw[fastTable_eq_tree];rfl) (by decide +kernel) (by decide +kernel) (by rw[fastTable_eq_tree];rfl)
theorem Ym3 (a:Value):argsOk "set_iterator.__iter__" { pos:=[a] }:=by
 show (match Manifest.signature? "set_iterator.__iter__" with | some sig=>Bind.checkArgs "set_iterator.__iter__" sig { pos:=[a] } | none=>pure ())=pure ();rw[signature?_of (id:="set_iterator.__iter__") (n:="__iter__".toList.reverse) (o:="set_iterator".toList.reverse) rfl Yu8];rfl
noncomputable abbrev Zl8 (first:Value) (i:Nat) (a:Addr) (n ep:Nat):Obj:={ cls:=.type "set_iterator",data:=.fields #[first,.int i 0,.ref a,.int n 0,.int ep 0] }
section
variable {P:Program} {w:World} {A:Around} {E:Value→Shared→Prop} {s:Shared}
theorem Wa2 {α:Type} {src:Source} {n:Nat} {k:Nat→Sem α} {Q:α→Shared→Prop} (hn:n≠0) (h:∀ i d,i < n→wpAny (model P w) A (k i) Q E { s with drawn:=d }):wpAny (model P w) A (Sem.choose src n k) Q E s:=by
 intro Γ p hΓ;rw[Sem.wp_choose];exact⟨hn,h _ _ (Nat.mod_lt _ (Nat.pos_of_ne_zero hn)) Γ p hΓ⟩
theorem Zp7 {I a:Addr} {first:Value} {i n ep:Nat} {o:Obj} {es:Array (Int×Value)} {t:SetTable} {Q:Option Value→Shared→Prop} (hI:s.heap.get? I=some (Zl8 first i a es.size ep)) (ha:s.heap.get? a=some o) (hd:o.data=.set es ep t) (hf:t.fits es.size=true)
  (h:wpAny (model P w) A.in1 (match first with
     | Value.int slot tok=>do
      let __do_lift ← setNext a slot.toNat i ep
      match __do_lift with
       | some (x,next)=>do
        setField (.ref I) 0 (rawInt ↑next)
        setField (.ref I) 1 (rawInt (i+1))
        ret x
       | none=>do
        setField (.ref I) 2 Value.none
        Builtin.SmallTypes.stopIteration
     | x=>do
      let __x ← seqItems? first
      match __x with
       | some places =>
        match places[i]? with
        | some (Value.int place tok)=>do
         let x ← setNextDrawn a place.toNat ep
         setField (.ref I) 1 (rawInt (i+1))
         ret x
        | some val=>unsupported "internal:set_iterator"
        | none=>do
         setField (.ref I) 0 (rawInt 0)
         setField (.ref I) 2 Value.none
         Builtin.SmallTypes.stopIteration
       | x=>unsupported "internal:set_iterator")
   (fun fin s'=>∃ v,fin=Fin.done (Flow.ret v)∧Q (some v) s') (fun e s'=>wpAny (model P w) A (isInstance e (Value.type "StopIteration") >>= fun b=>if b=true then pure none else throw e) Q E s') s):wpAny (model P w) A (pyNext (.ref I)) Q E s:=by
 have hTy:s.TypeIs (.ref I) "set_iterator":=⟨_,hI,rfl⟩;refine wpAny_bind (wpAny_attempt (wpAny_callSpecial?_slot hTy slot_si_next (wpAny_call_entry slot_si_next hTy Yg3 ?_ (Ym2 _))));show wpAny _ _ (fieldsOf (.ref I) >>= _) _ _ _;refine wpAny_bind (wpAny_fieldsOf hI rfl ?_);refine wpAny_bind (wpAny_setEntries_of ha hd hf ?_);dsimp only;rw[if_neg (by simp)];refine wpAny_mono h (fun fin s' ⟨v,e,q⟩=>⟨v,e,wpAny_pure q⟩) fun e s' q=>q
theorem Ye0 {I a T:Addr} {i ep:Nat} {o:Obj} {es:Array (Int×Value)} {t:SetTable} {places:List Nat} {pl:Nat} {hx:Int} {x:Value} {Q:Option Value→Shared→Prop} (hI:s.heap.get? I=some (Zl8 (.ref T) i a es.size ep)) (ha:s.heap.get? a=some o) (hd:o.data=.set es ep t) (hf:t.fits es.size=true)
  (hT:s.heap.get? T=some { cls:=.type "tuple",data:=.seq (places.map fun (k:Nat)=>rawInt (k:Int)).toArray }) (hp:places[i]?=some pl) (he:es[pl]?=some (hx,x))
  (hQ:∀ h',h'.get? I=some (Zl8 (.ref T) (i+1) a es.size ep)→Heap.SameBut I s.heap h'→Q (some x) { s with heap:=h' }):wpAny (model P w) A (pyNext (.ref I)) Q E s:=by
 refine Zp7 (n:=es.size) hI ha hd hf ?_;dsimp only;refine wpAny_bind (wpAny_seqItems hT rfl ?_);dsimp only;rw[show (places.map fun (k:Nat)=>rawInt (k:Int)).toArray[i]?=some (rawInt (pl:Int)) from by simp[hp]];unfold rawInt;dsimp only;refine wpAny_bind ?_;unfold setNextDrawn;refine wpAny_bind (wpAny_setState_of ha hd hf ?_);dsimp only;rw[if_neg (by simp),Int.toNat_natCast,he];refine wpAny_pure (wpAny_bind (wpAny_setField_rec hI (by simp) fun h' hI' sb=>wpAny_pure ⟨x,rfl,hQ h' ?_ sb⟩));exact hI'
theorem Yj1 {I a T:Addr} {i ep:Nat} {o:Obj} {es:Array (Int×Value)} {t:SetTable} {places:List Nat} {Q:Option Value→Shared→Prop} (hh:A.handled=none) (hI:s.heap.get? I=some (Zl8 (.ref T) i a es.size ep)) (ha:s.heap.get? a=some o) (hd:o.data=.set es ep t) (hf:t.fits es.size=true)
  (hT:s.heap.get? T=some { cls:=.type "tuple",data:=.seq (places.map fun (k:Nat)=>rawInt (k:Int)).toArray }) (hp:places[i]?=none)
  (hQ:∀ h',Heap.ExtBut I s.heap h'→Q none { s with heap:=h' }):wpAny (model P w) A (pyNext (.ref I)) Q E s:=by
 refine Zp7 (n:=es.size) hI ha hd hf ?_;dsimp only;refine wpAny_bind (wpAny_seqItems hT rfl ?_);dsimp only;rw[show (places.map fun (k:Nat)=>rawInt (k:Int)).toArray[i]?=none from by simp[hp]];dsimp only;refine wpAny_bind (wpAny_setField_rec hI (by simp) fun h1 hI1 sb1=>wpAny_bind (wpAny_setField_rec hI1 (by simp) fun h2 hI2 sb2=>?_));refine Zw7 (A:=A.in1) hh fun h' e k ⟨oe,he,hc⟩=>wpAny_bind (wpAny_isInstance ⟨oe,he,hc⟩ isSubtype_stop ?_);rw[if_pos rfl];exact wpAny_pure (hQ h' fun b ob hb eb=>k b ob ((sb2.2 b hb).trans ((sb1.2 b hb).trans eb)))
theorem Yj0 {I a:Addr} {i ep:Nat} {o:Obj} {es:Array (Int×Value)} {t:SetTable} {e:Int×Value} {Q:Option Value→Shared→Prop} (hb:w.params.followText "set-order"=true) (hI:s.heap.get? I=some (Zl8 (.int 0 0) i a es.size ep)) (ha:s.heap.get? a=some o) (hd:o.data=.set es ep t) (hf:t.fits es.size=true)
  (he:(pickOrder (w.params.setOrder a ep) es)[i]?=some e)
  (hQ:∀ h',h'.get? I=some (Zl8 (.int 0 0) (i+1) a es.size ep)→Heap.SameBut I s.heap h'→Q (some e.2) { s with heap:=h' }):wpAny (model P w) A (pyNext (.ref I)) Q E s:=by
 refine Zp7 (n:=es.size) hI ha hd hf ?_;dsimp only;refine wpAny_bind ?_;unfold setNext;refine wpAny_bind (wpAny_setState_of ha hd hf ?_);dsimp only;refine wpAny_bind (wpAny_bind (wpAny_askSetting (wpAny_pure ?_)));rw[if_pos (show (model P w).w.params.followText "set-order"=true from hb),if_neg (by simp)];refine wpAny_bind ?_;unfold setWalk;refine wpAny_bind (wpAny_setState_of ha hd hf ?_);dsimp only;refine wpAny_bind (wpAny_bind (wpAny_askSetting (wpAny_pure ?_)));rw[if_pos (show (model P w).w.params.followText "set-order"=true from hb)];refine wpAny_bind (wpAny_askSetting (wpAny_pure (wpAny_pure ?_)));rw[show (pickOrder ((model P w).w.params.setOrder a ep) es)[i]?=some e from he];dsimp only[Option.map_some];refine wpAny_bind (wpAny_setField_rec hI (by simp) fun h1 hI1 sb1=>wpAny_bind (wpAny_setField_rec hI1 (by simp) fun h2 hI2 sb2=>wpAny_pure ⟨_,rfl,hQ h2 ?_ (sb1.trans sb2)⟩));exact hI2
theorem Yn8 {I a:Addr} {i ep:Nat} {o:Obj} {es:Array (Int×Value)} {t:SetTable} {Q:Option Value→Shared→Prop} (hh:A.handled=none) (hb:w.params.followText "set-order"=true) (hI:s.heap.get? I=some (Zl8 (.int 0 0) i a es.size ep)) (ha:s.heap.get? a=some o) (hd:o.data=.set es ep t) (hf:t.fits es.size=true)
  (he:(pickOrder (w.params.setOrder a ep) es)[i]?=none)
  (hQ:∀ h',Heap.ExtBut I s.heap h'→Q none { s with heap:=h' }):wpAny (model P w) A (pyNext (.ref I)) Q E s:=by
 refine Zp7 (n:=es.size) hI ha hd hf ?_;dsimp only;refine wpAny_bind ?_;unfold setNext;refine wpAny_bind (wpAny_setState_of ha hd hf ?_);dsimp only;refine wpAny_bind (wpAny_bind (wpAny_askSetting (wpAny_pure ?_)));rw[if_pos (show (model P w).w.params.followText "set-order"=true from hb),if_neg (by simp)];refine wpAny_bind ?_;unfold setWalk;refine wpAny_bind (wpAny_setState_of ha hd hf ?_);dsimp only;refine wpAny_bind (wpAny_bind (wpAny_askSetting (wpAny_pure ?_)));rw[if_pos (show (model P w).w.params.followText "set-order"=true from hb)];refine wpAny_bind (wpAny_askSetting (wpAny_pure (wpAny_pure ?_)));rw[show (pickOrder ((model P w).w.params.setOrder a ep) es)[i]?=none from he];dsimp only[Option.map_none];refine wpAny_bind (wpAny_setField_rec hI (by simp) fun h1 hI1 sb1=>?_);refine Zw7 (A:=A.in1) hh fun h' e k ⟨oe,he,hc⟩=>wpAny_bind (wpAny_isInstance ⟨oe,he,hc⟩ isSubtype_stop ?_);rw[if_pos rfl];exact wpAny_pure (hQ h' fun b ob hb eb=>k b ob ((sb1.2 b hb).trans eb))
theorem Zs7 {α:Type}:∀ (l:List α) (i:Nat) (h:i < l.length),List.Perm (l[i] :: l.eraseIdx i) l
 | [],i,h=>absurd h (by simp)
 | x :: l,0,h=>.refl _
 | x :: l,i+1,h=>by
  have ih:=Zs7 l i (by simpa using h);rw[List.eraseIdx_cons_succ,List.getElem_cons_succ];exact (List.Perm.swap _ _ _).trans (.cons _ ih)
theorem Yc5 {α:Type}:∀ (n:Nat) (xs:List α) {s:Shared} {Q:List α→Shared→Prop},xs.length≤n→(∀ ys d,List.Perm ys xs→Q ys { s with drawn:=d })→wpAny (model P w) A (drawOrder n xs) Q E s
 | 0,xs,s,Q,hn,hQ=>by
  have:xs=[]:=List.length_eq_zero_iff.mp (Nat.le_zero.mp hn);subst this;rw[drawOrder.eq_def];exact wpAny_pure (hQ [] s.drawn .nil)
 | n+1,[],s,Q,hn,hQ=>by
  rw[drawOrder.eq_def];exact wpAny_pure (hQ [] s.drawn .nil)
 | n+1,x :: xs,s,Q,hn,hQ=>by
  rw[drawOrder.eq_def];dsimp only;refine wpAny_bind (Wa2 (by simp) fun i d hi=>wpAny_pure ?_);rw[List.getElem?_eq_getElem hi];dsimp only;refine wpAny_bind (Yc5 n ((x :: xs).eraseIdx i) (by rw[List.length_eraseIdx_of_lt hi];walk_at "o") fun ys d' hp=>wpAny_pure (hQ _ _ ?_));exact (List.Perm.cons _ hp).trans (Zs7 _ _ hi)
theorem Zj8 {α:Type} (next:Nat→Nat) (xs:Array α):List.Perm (pickOrder next xs).toList xs.toList:=by
 have gen:∀ (f k:Nat) (left:List α) (out:Array α),left.length=f→List.Perm (pickOrder.go next f k left out).toList (out.toList++left):=by
  intro f
  induction f with
  | zero =>
   intro k left out h;rw[List.length_eq_zero_iff.mp h,List.append_nil,pickOrder.go.eq_def]
  | succ f ih =>
   intro k left out h;rw[pickOrder.go.eq_def];dsimp only;have hi:next k % left.length < left.length:=Nat.mod_lt _ (by walk_at "o");rw[List.getElem?_eq_getElem hi];dsimp only;refine (ih (k+1) _ _ (by rw[List.length_eraseIdx_of_lt hi];walk_at "o")).trans ?_;rw[Array.toList_push,List.append_assoc];exact List.Perm.append_left _ (Zs7 _ _ hi)
 unfold pickOrder;have:=gen xs.size 0 xs.toList #[] (by simp)
 simpa using this
end
section
variable {P:Program} {w:World} {A:Around} {E:Value→Shared→Prop} {s:Shared}
theorem Yd7:splitId "set.__len__"=some ("set","__len__"):=by decide +kernel
theorem Xp9 {a:Addr} {Q:Bool→Shared→Prop} (hT:s.TypeIs (.ref a) "set") (h:Q false s):wpAny (model P w) A (Builtin.List.listLengthHint (.ref a)) Q E s:=by
 unfold Builtin.List.listLengthHint;refine wpAny_bind (wpAny_specialOf hT F.slot_set_len.lookup ?_);dsimp only;rw[Yd7];dsimp only;refine wpAny_bind (wpAny_isInstance hT sub_set_self ?_);rw[if_neg (by decide)];refine wpAny_ite_split (fun _=>wpAny_bind (wpAny_typeOf hT (wpAny_pure h))) fun hz=>absurd (by first | rfl | decide +kernel) hz
end
theorem Zk4 (CX:CXT) (P:Program) (w:World) (K:W.Frag) (mg:Str→Option Value) (base:Heap) (N:List Str) (qual:Str) (scope:Scope) (f:Addr) (cd:Value) (A:Around) (outer:List Env) (s:Shared) (H:Hp) (E:XK):(cxOf CX P w K mg base N qual scope f cd A outer s H E).prog=P:=rfl
theorem Yc6 (CX:CXT) (P:Program) (w:World) (K:W.Frag) (mg:Str→Option Value) (base:Heap) (N:List Str) (qual:Str) (scope:Scope) (f:Addr) (cd:Value) (A:Around) (outer:List Env) (s:Shared) (H:Hp) (E:XK):(cxOf CX P w K mg base N qual scope f cd A outer s H E).w=w:=rfl
theorem Zn5 (X:Cx) (N':List Str) (scope:Scope) (cl:List (Str×Addr)) (s:Shared) (H:Hp) (C:Addr) (ex:List Addr):(blk X N' scope cl s H C ex).prog=X.prog:=rfl
theorem Xa2 (X:Cx) (N':List Str) (scope:Scope) (cl:List (Str×Addr)) (s:Shared) (H:Hp) (C:Addr) (ex:List Addr):(blk X N' scope cl s H C ex).w=X.w:=rfl
end L2
namespace Ken
open PySem L2 PyProof.Rows
end Ken
namespace L2
open PySem PySem.Spec PyProof.Rows Ken
noncomputable def ExcO (e:Addr) (C:Value) (dd T:Option Addr):HO:=.ext fun h=>∃ vs sl,h.get? e=some ⟨C,dd,.fields vs,sl⟩∧vs.size=6∧vs[1]?=some (T.elim Value.none Value.ref)
noncomputable def TbO (t:Addr) (fl:Value):HO:=.ext fun h=>∃ c d ts sl,h.get? t=some ⟨c,d,.fields ts,sl⟩∧ts[3]?=some fl
section
variable {P:Program} {w:World} {H:Hp} {h:Heap} {e t:Addr} {C fl:Value} {dd T:Option Addr}
theorem Yr2 (hok:HOk P w H h) (q:H e=some (ExcO e C dd T)):∃ vs sl,h.get? e=some ⟨C,dd,.fields vs,sl⟩∧vs.size=6∧vs[1]?=some (T.elim Value.none Value.ref):=(hok e _ q).1
theorem Xt5 (z:∃ vs sl,h.get? e=some ⟨C,dd,.fields vs,sl⟩∧vs.size=6∧vs[1]?=some (T.elim Value.none Value.ref)):ObjOk P w H h e (ExcO e C dd T) :=
 ⟨z,let ⟨_,_,q,_⟩:=z;⟨_,q⟩,fun _ _ ⟨vs,sl,a,b⟩ k=>⟨vs,sl,k _ a,b⟩⟩
theorem Xc6 (hok:HOk P w H h) (q:H t=some (TbO t fl)):∃ c d ts sl,h.get? t=some ⟨c,d,.fields ts,sl⟩∧ts[3]?=some fl:=(hok t _ q).1
theorem Xn3 (z:∃ c d ts sl,h.get? t=some ⟨c,d,.fields ts,sl⟩∧ts[3]?=some fl):ObjOk P w H h t (TbO t fl) :=
 ⟨z,let ⟨_,_,_,_,q,_⟩:=z;⟨_,q⟩,fun _ _ ⟨c,d,ts,sl,a,b⟩ k=>⟨c,d,ts,sl,k _ a,b⟩⟩
end
def Wa7 (fl:Value) (H:Hp) (e:Addr) (C:Value) (dd T:Option Addr):Prop:=H e=some (ExcO e C dd T)∧∀ t,T=some t→t≠e∧H t=some (TbO t fl)
noncomputable abbrev FlyT:=Wa7 .none
def XStep (e:Addr) (T:Option Addr) (H:Hp) (T':Option Addr) (H':Hp):Prop :=
 (∀ b o,H b=some o→b≠e→T≠some b→H' b=some o)∧∀ t,T'=some t→t≠e∧(T=some t∨H t=none)
theorem XStep.refl {e:Addr} {T:Option Addr} {H:Hp} (h:∀ t,T=some t→t≠e):XStep e T H T H:=⟨fun _ _ q _ _=>q,fun t q=>⟨h t q,.inl q⟩⟩
theorem XStep.trans {e:Addr} {T T' T'':Option Addr} {H H' H'':Hp} (a:XStep e T H T' H') (b:XStep e T' H' T'' H''):XStep e T H T'' H'':=by
 refine⟨fun c o q n1 n2=>b.1 c o (a.1 c o q n1 n2) n1 fun z=>?_,fun t q=>⟨(b.2 t q).1,?_⟩⟩
 ·rcases (a.2 c z).2 with y | y
  ·exact n2 y
  ·rw[q] at y;cases y
 ·rcases (b.2 t q).2 with z | z
  ·exact (a.2 t z).2
  ·by_cases hT:T=some t
   ·exact .inl hT
   ·cases e1:H t with
    | none=>exact .inr rfl
    | some o=>rw[a.1 t o e1 (b.2 t q).1 hT] at z;cases z
section
variable {X:Cx} {pins:List (Addr×Obj)} {σ:St} {H:Hp} {s:Shared} {M:Model} {A:Around} {E:Value→Shared→Prop} {e L:Addr} {C:Value} {dd T:Option Addr}
theorem Inv.noted {s':Shared} {t:Addr} {fl:Value} (I:Inv X pins σ H s) (F:FlyT H e C dd T) (hos:s'.os=s.os) (hg:s'.gens=s.gens)
  (hn:s.heap.objs.size≤t)
  (keep:∀ b o,s.heap.get? b=some o→b ∉ frs X.stack→b≠e→T≠some b→s'.heap.get? b=some o)
  (slot:∀ b o,s.heap.get? b=some o→b∈frs X.stack→∃ sl,s'.heap.get? b=some { o with slots:=sl })
  (old:∀ b,T=some b→∃ c d ts sl,s'.heap.get? b=some ⟨c,d,.fields ts,sl⟩∧ts[3]?=some Value.none)
  (exc:∃ vs sl,s'.heap.get? e=some ⟨C,dd,.fields vs,sl⟩∧vs.size=6∧vs[1]?=some (Value.ref t))
  (tb:∃ c d ts sl,s'.heap.get? t=some ⟨c,d,.fields ts,sl⟩∧ts[3]?=some fl) :
  Inv X pins σ (upd (upd H t (TbO t fl)) e (ExcO e C dd (some t))) s':=by
 have hnt:H t=none:=I.hok.fresh hn;have het:e≠t:=Za9 F.1 hnt
 have hfe:e ∉ frs X.stack:=fun z=>by have:=I.stkFree e z;rw[F.1] at this;cases this
 have nx:∀ b o,H b=some o→(∀ φ,o≠.ext φ)→b≠e∧b≠t∧T≠some b:=fun b o q n=>by
  refine⟨fun z=>?_,Za9 q hnt,fun z=>?_⟩
  ·subst z;rw[F.1] at q;cases q;exact n _ rfl
  ·have:=(F.2 b z).2;rw[q] at this;cases this;exact n _ rfl
 have up:∀ b o,H b=some o→b≠e→upd (upd H t (TbO t fl)) e (ExcO e C dd (some t)) b=some o:=fun b o q n=>by
  rw[Zb0 n,Zb0 (Za9 q hnt)];exact q
 have upn:∀ b,H b=none→b≠t→upd (upd H t (TbO t fl)) e (ExcO e C dd (some t)) b=none:=fun b q n=>by
  rw[Zb0 (Za9 F.1 q).symm,Zb0 n];exact q
 refine I.call' (ch:=[]) hos ⟨fun b o q n hb _=>?_,fun b o q n hb _=>slot b o q hb,fun b o q n _=>upn b n (Nat.ne_of_lt (Nat.lt_of_lt_of_le (Heap.lt_size q) hn)),fun b o q _=>?_,fun b xs q=>up b _ q (nx b _ q fun φ z=>nomatch z).1,fun b o u q=>up b _ q (nx b _ q fun φ z=>nomatch z).1,
  fun b ps q=>⟨#[],by rw[up b _ q (nx b _ q fun φ z=>nomatch z).1];simp⟩⟩ (fun b o q=>?_) (by rw[hg];exact I.bare) (fun b z=>nomatch z)
 ·exact keep b o q hb (Za9 F.1 n).symm fun z=>by have:=(F.2 b z).2;rw[n] at this;cases this
 ·by_cases hb:b∈frs X.stack
  ·obtain⟨sl,z⟩:=slot b o q hb;exact⟨_,z⟩
  ·by_cases he:b=e
   ·subst he;obtain⟨_,_,z,_⟩:=exc;exact⟨_,z⟩
   ·by_cases hT:T=some b
    ·obtain⟨_,_,_,_,z,_⟩:=old b hT;exact⟨_,z⟩
    ·exact⟨o,keep b o q hb he hT⟩
 ·by_cases he:b=e
  ·subst he;rw[Za5] at q;cases q;exact Xt5 exc
  ·rw[Zb0 he] at q
   by_cases ht:b=t
   ·subst ht;rw[Za5] at q;cases q;exact Xn3 tb
   ·rw[Zb0 ht] at q
    by_cases hT:T=some b
    ·have q2:=(F.2 b hT).2
     rw[q] at q2;cases q2;exact Xn3 (old b hT)
    ·refine (I.hok b o q).stay (fun c u hc z=>keep c u z ?_ ?_ ?_) (fun c z=>up c _ z (nx c _ z fun φ y=>nomatch y).1) fun c xs z=>up c _ z (nx c _ z fun φ y=>nomatch y).1
     ·intro y
      have y2:=I.stkFree c y;rcases hc with hc | hc
      ·subst hc;rw[q] at y2;cases y2
      ·rw[hc] at y2;cases y2
     ·rcases hc with hc | hc
      ·rw[hc];exact he
      ·exact (nx c _ hc fun φ y=>nomatch y).1
     ·rcases hc with hc | hc
      ·rw[hc];exact hT
      ·exact (nx c _ hc fun φ y=>nomatch y).2.2
theorem Yw5 {head:Value} {hadNext:Bool} {Q:Unit→Shared→Prop} (I:Inv X pins σ H s) (F:FlyT H e C dd T) (hA:A.frames=some X.stack) (hst:X.stack=X.env :: X.outer) (hf:X.env.frame=some L)
  (h:∀ s' t,H t=none→Inv X pins σ (upd (upd H t (TbO t (rawInt L))) e (ExcO e C dd (some t))) s'→Q () s') :
  wpAny M A (do let a ← frameOf X.env;let pl ← entryPlaceOf L hadNext;let b ← EntryCells.newEntry head a .none (rawInt L) .none pl;setField (.ref e) 1 b) Q E s:=by
 obtain⟨vs,sl,he,hz,h1⟩:=Yr2 I.hok F.1
 have hfe:e ∉ frs X.stack:=fun z=>by have:=I.stkFree e z;rw[F.1] at this;cases this
 have FF:=I.stack;rw[hst] at FF hA;refine wpAny_bind (wpAny_frameOf_fun hA FF hf fun h₁ hs₁=>?_);refine wpAny_bind (wpAny_entryPlaceOf fun pl hpl=>?_);unfold EntryCells.newEntry newFields;refine wpAny_bind (wpAny_newObj_type ?_ (hpl.sizeOk5 _ _ _ _ _));have hs2:∀ b,b ∉ frs X.stack→h₁.get? b=s.heap.get? b:=fun b hb=>hs₁.2.1 b (by rw[hst] at hb;exact hb);have he₁:h₁.get? e=some ⟨C,dd,.fields vs,sl⟩:=(hs2 e hfe).trans he;have he₂:=Heap.get?_push_of_some (h:=h₁) { cls:=.type "traceback",dict:=none,data:=.fields ([head,.ref L,.none,rawInt L,.none]++(if pl.isEmpty then List.replicate 6 Value.none else pl)).toArray } he₁;refine wpAny_setField he₂ rfl (by rw[hz];decide) ?_;have hTe:h₁.objs.size≠e:=Nat.ne_of_gt (Heap.lt_size he₁);have hsz:s.heap.objs.size≤h₁.objs.size:=Nat.le_of_eq hs₁.1.symm;refine h _ h₁.objs.size (I.hok.fresh hsz) (Inv.noted I F rfl rfl hsz (fun b o q hb hbe hT=>?_) (fun b o q hb=>?_) (fun b hT=>?_) ?_ ?_)
 ·show (Heap.update _ e _).get? b=some o
  rw[Heap.get?_update_other _ _ (Ne.symm hbe)];exact Heap.get?_push_of_some _ ((hs2 b hb).trans q)
 ·obtain⟨sl',z⟩:=hs₁.2.2 b o q
  refine⟨sl',?_⟩;show (Heap.update _ e _).get? b=_;rw[Heap.get?_update_other _ _ (fun y=>hfe (by rw[y];exact hb))];exact Heap.get?_push_of_some _ z
 ·obtain⟨c,d,ts,sl',z,z3⟩:=Xc6 I.hok (F.2 b hT).2
  have hb:b ∉ frs X.stack:=fun y=>by have:=I.stkFree b y;rw[(F.2 b hT).2] at this;cases this
  refine⟨c,d,ts,sl',?_,z3⟩;show (Heap.update _ e _).get? b=_;rw[Heap.get?_update_other _ _ (Ne.symm (F.2 b hT).1)];exact Heap.get?_push_of_some _ ((hs2 b hb).trans z)
 ·refine⟨vs.setIfInBounds 1 (.ref h₁.objs.size),sl,?_,by simp[hz],by simp[hz]⟩
  show (Heap.update _ e _).get? e=_;rw[Heap.get?_update_self _ he₂ rfl];rfl
 ·exact⟨_,_,_,_,(Heap.get?_update_other _ _ (Ne.symm hTe)).trans (Heap.get?_push_size h₁ rfl),by simp⟩
theorem Xx6 {Q:Unit→Shared→Prop} (I:Inv X pins σ H s) (F:FlyT H e C dd T) (hA:A.frames=some X.stack) (hst:X.stack=X.env :: X.outer) (hf:X.env.frame=some L)
  (h:∀ s' H' t,Inv X pins σ H' s'→Wa7 (rawInt L) H' e C dd (some t)→XStep e T H (some t) H'→Q () s'):wpAny M A (noteFrame (.ref e) X.env) Q E s:=by
 obtain⟨vs,sl,he,hz,h1⟩:=Yr2 I.hok F.1
 have fin:∀ s' t,H t=none→Inv X pins σ (upd (upd H t (TbO t (rawInt L))) e (ExcO e C dd (some t))) s'→Q () s':=fun s' t hn J=>by
  have het:e≠t:=Za9 F.1 hn;refine h s' _ t J ⟨Za5,fun u q=>?_⟩ ⟨fun b o q n1 n2=>?_,fun u q=>?_⟩
  ·cases q;exact⟨het.symm,by rw[Zb0 het.symm,Za5]⟩
  ·rw[Zb0 n1,Zb0 (Za9 q hn)];exact q
  ·cases q;exact⟨het.symm,.inr hn⟩
 unfold noteFrame;simp only[hf];refine wpAny_bind (wpAny_field he rfl h1 ?_)
 cases hT:T with
 | none =>
  subst hT;rw[if_neg (by decide)];exact Yw5 I F hA hst hf fin
 | some t =>
  subst hT;obtain⟨hte,ht⟩:=F.2 t rfl;obtain⟨c,d,ts,sl',z,z3⟩:=Xc6 I.hok ht;rw[if_pos (show ((Option.some t).elim Value.none Value.ref != Value.none)=true from by simp)];refine wpAny_bind (wpAny_field z rfl z3 ?_);rw[if_neg (by simp[rawInt])];refine wpAny_bind (wpAny_setField z rfl (Array.getElem?_eq_some_iff.mp z3).1 ?_);refine Yw5 (T:=some t) ?_ F hA hst hf fin;have I2:=I.write (o:=TbO t .none) (h':=s.heap.update t (Obj.mapFields (·.setIfInBounds 3 .none))) (x:=t) (e:=t) (t':=s.toks) (by rw[ht];trivial) (.inl rfl) (fun b u n q=>by rw[Heap.get?_update_other _ _ (Ne.symm n)];exact q)
   ⟨_,Heap.get?_update_self _ z rfl⟩ (Xn3 ⟨c,d,ts.setIfInBounds 3 .none,sl',by rw[Heap.get?_update_self _ z rfl];rfl,by simp[(Array.getElem?_eq_some_iff.mp z3).1]⟩)
  have:upd H t (TbO t .none)=H:=by
   funext b
   by_cases hb:b=t
   ·subst hb;rw[Za5,ht]
   ·rw[Zb0 hb]
  rw[this] at I2;exact I2
theorem Xy5 {Q:Unit→Shared→Prop} {fl:Value} (I:Inv X pins σ H s) (F:Wa7 fl H e C dd T)
  (h:∀ s' H',Inv X pins σ H' s'→FlyT H' e C dd T→XStep e T H T H'→Q () s'):wpAny M A (setFlight (.ref e) none) Q E s:=by
 obtain⟨vs,sl,he,hz,h1⟩:=Yr2 I.hok F.1;unfold setFlight;refine wpAny_bind (wpAny_field he rfl h1 ?_)
 cases hT:T with
 | none =>
  subst hT;rw[if_neg (by decide)];exact wpAny_pure (h s H I ⟨F.1,fun t q=>nomatch q⟩ (XStep.refl fun t q=>nomatch q))
 | some t =>
  subst hT;obtain⟨hte,ht⟩:=F.2 t rfl;obtain⟨c,d,ts,sl',z,z3⟩:=Xc6 I.hok ht;rw[if_pos (show ((Option.some t).elim Value.none Value.ref != Value.none)=true from by simp)];refine wpAny_setField z rfl (Array.getElem?_eq_some_iff.mp z3).1 ?_;have I2:=I.write (o:=TbO t .none) (h':=s.heap.update t (Obj.mapFields (·.setIfInBounds 3 .none))) (x:=t) (e:=t) (t':=s.toks) (by rw[ht];trivial) (.inl rfl) (fun b u n q=>by rw[Heap.get?_update_other _ _ (Ne.symm n)];exact q)
   ⟨_,Heap.get?_update_self _ z rfl⟩ (Xn3 ⟨c,d,ts.setIfInBounds 3 .none,sl',by rw[Heap.get?_update_self _ z rfl];rfl,by simp[(Array.getElem?_eq_some_iff.mp z3).1]⟩)
  refine h _ _ I2 ⟨by rw[Zb0 (Ne.symm hte)];exact F.1,fun u q=>?_⟩ ⟨fun b o q n1 n2=>?_,fun u q=>?_⟩
  ·cases q;exact⟨hte,Za5⟩
  ·rw[Zb0 (fun y=>n2 (by rw[y]))];exact q
  ·cases q;exact⟨hte,.inl rfl⟩
end
noncomputable def CXe (P:Program) (w:World):CXT:=fun outer H s E e s'=>∃ ea C dd T H',e=.ref ea∧s'.os=s.os∧AllBare s'.gens∧Un (frs outer) [] H H' s.heap s'.heap∧HOk P w H' s'.heap∧FlyT H' ea C dd T ∧
 ∀ T'' H'',XStep ea T H' T'' H''→FlyT H'' ea C dd T''→E (.ref ea) dd H''
def XOk (X:Cx) (E:XK):Prop:=∀ (pins:List (Addr×Obj)) (σ:St) (H:Hp) (s:Shared) (ea:Addr) (C:Value) (dd T:Option Addr),Inv X pins σ H s→FlyT H ea C dd T →
 (∀ T'' H'',XStep ea T H T'' H''→FlyT H'' ea C dd T''→E (.ref ea) dd H'')→X.xe (.ref ea) s
theorem Xp4 {X:Cx} {pins:List (Addr×Obj)} {σ:St} {H:Hp} {s:Shared} {M:Model} {A:Around} {E:Value→Shared→Prop} {e L:Addr} {C:Value} {dd T:Option Addr} {Q:Unit→Shared→Prop}
  (I:Inv X pins σ H s) (F:FlyT H e C dd T) (hA:A.frames=some X.stack) (hst:X.stack=X.env :: X.outer) (hf:X.env.frame=some L)
  (h:∀ s' H' T',Inv X pins σ H' s'→FlyT H' e C dd T'→XStep e T H T' H'→Q () s'):wpAny M A (leaving X.env (.ref e)) Q E s:=by
 unfold leaving;exact wpAny_bind (Xx6 I F hA hst hf fun s1 H1 t I1 F1 S1=>Xy5 I1 F1 fun s2 H2 I2 F2 S2=>h s2 H2 _ I2 F2 (S1.trans S2))
theorem Zv2 {P:Program} {w:World} {K:W.Frag} {mg:Str→Option Value} {base:Heap} {N:List Str} {qual:Str} {scope:Scope} {f:Addr} {cd:Value} {A:Around} {outer:List Env} {s:Shared} {H:Hp} {E:XK} :
  XOk (cxOf (CXe P w) P w K mg base N qual scope f cd A outer s H E) E:=by
 intro pins σ H1 s1 ea C dd T I F h;refine Xp4 (X:=cxOf (CXe P w) P w K mg base N qual scope f cd A outer s H E) (L:=s.heap.objs.size) I F I.ok.frames rfl rfl fun s2 H2 T' I2 F2 S2=>?_;exact⟨ea,C,dd,T',H2,rfl,I2.os,I2.bare,I2.base,I2.hok,F2,fun T'' H'' S F=>h T'' H'' (S2.trans S) F⟩
theorem Wl7 {X:Cx} {E:XK} (h:XOk X E):Yd1 (CXe X.prog X.w) X E:=by
 rintro pins σ H s e s' I ⟨ea,C,dd,T,H',rfl,ho,hg,hu,hk,F,q⟩;exact h pins σ H' s' ea C dd T (I.call' (ch:=[]) ho hu hk hg fun b z=>nomatch z) F q
noncomputable abbrev bmV:List Value:=[.type "ValueError",.type "Exception",.type "BaseException",.type "object"]
def IsXC (h:Heap) (C:Addr) (bm:List Value) (mN:Str→Option Value):Prop:=∃ nm q N bs hdct sn sub ab col dd k0 k1 k2 k3 k5,h.get? C=some (excClassObj nm q C N bs bm hdct sn sub ab col dd k0 k1 k2 k3 k5 "ValueError.__new__")∧h.Ns N mN∧OwnTail h bmV bm
def XCls (K:W.Frag) (C:Addr):Prop:=∀ h,K.In h→∃ bm mN,IsXC h C bm mN∧mN "__init__"=none
section
variable {P:Program} {w:World} {H:Hp} {h h':Heap} {a:Addr} {o:HO}
theorem ObjOk.obj (x:ObjOk P w H h a o):∃ ob,h.get? a=some ob:=by
 cases o with
 | lst xs=>obtain⟨_,_,_,_,e⟩:=x;exact⟨_,e⟩
 | tup xs=>obtain⟨_,_,_,o,e,_⟩:=x;exact⟨_,e⟩
 | dK kvs=>obtain⟨_,_,_,_,o,_,_,e,_⟩:=x;exact⟨_,e⟩
 | dT kvs=>obtain⟨_,_,_,_,o,_,_,e,_⟩:=x;exact⟨_,e⟩
 | set S n=>obtain⟨o,_,_,_,e,_⟩:=x;exact⟨_,e⟩
 | ins C dx fs=>obtain⟨_,_,_,e,_⟩:=x;exact⟨_,e⟩
 | own y=>exact x
 | xd fs=>obtain⟨_,⟨_,_,_,e,_⟩,_⟩:=x;exact⟨_,e⟩
 | rng lo hi=>obtain⟨_,_,_,e⟩:=x;exact⟨_,e⟩
 | frz ob u=>obtain⟨e,_⟩:=x;exact⟨_,e⟩
 | tbl ps=>exact⟨_,x⟩
 | met f y=>exact⟨_,x⟩
 | ext φ=>exact x.2.1
theorem HOk.newAt (x:HOk P w H h) (n:h.get? a=none):H a=none:=by
 cases q:H a with
 | none=>rfl
 | some u =>
  obtain⟨ob,z⟩:=(x a u q).obj;rw[n] at z;cases z
theorem Inv.laidN {X:Cx} {pins:List (Addr×Obj)} {σ:St} {s:Shared} {t':Nat} (I:Inv X pins σ H s) (k:∀ b u,s.heap.get? b=some u→h'.get? b=some u) (hn:s.heap.get? a=none) (new:ObjOk X.prog X.w (upd H a o) h' a o) :
  Inv X pins σ (upd H a o) { s with heap:=h',toks:=t' }:=by
 have hH:=I.hok.newAt hn
 have nb:∀ b u,H b=some u→upd H a o b=some u:=fun b u q=>by rw[Zb0 (Za9 q hH)];exact q
 refine I.un ⟨fun b u q _ _ _=>k b u q,fun b u q _ _ _=>⟨u.slots,k b u q⟩,fun b u q n _=>?_,fun b u q _=>⟨u,k b u q⟩,fun b xs q=>nb _ _ q,fun b u xs q=>nb _ _ q,fun b ps q=>⟨#[],by rw[nb _ _ q];simp⟩⟩ fun b u q=>?_
 ·rw[Zb0 (fun z=>by subst z;rw[hn] at q;cases q)];exact n
 ·by_cases hb:b=a
  ·subst hb;rw[Za5] at q;cases q;exact new
  ·rw[Zb0 hb] at q
   exact (I.hok b u q).stay (fun c v _ z=>k c v z) (fun c z=>nb _ _ z) fun c xs z=>nb _ _ z
end
theorem IsXC.base {h:Heap} {C:Addr} {bm:List Value} {mN:Str→Option Value} (x:IsXC h C bm mN):bm.contains (.type "BaseException")=true:=by
 obtain⟨_,_,_,_,_,_,_,_,_,_,_,_,_,_,_,_,_,c⟩:=x;exact c.hasType rfl
theorem Xu2 {K:W.Frag} {C N:Addr} {nm q:Str} {bs bm:List Value} {hdct:Bool} {sn:List Str} {sub:List Value} {ab:Bool} {col:Option Bool} {dd:Option Addr} {k0 k1 k2 k3 k5:Option Value}
  (l:K.lookup C=some (excClassObj nm q C N bs bm hdct sn sub ab col dd k0 k1 k2 k3 k5 "ValueError.__new__")) (t:W.tailIn K bmV bm=true) (n:W.nsOkIn K N=true) (i:W.nsIn K N "__init__"=some none):XCls K C:=fun h X =>
 ⟨bm,h.nsMap N,⟨nm,q,N,bs,hdct,sn,sub,ab,col,dd,k0,k1,k2,k3,k5,X _ _ l,.of_isNs (W.isNs_of_in X n),W.tail_of_in X t⟩,W.nsMap_none_of_in X n i⟩
def Xtd (H:Hp) (e:Addr) (C:Value) (dd:Option Addr) (H':Hp):Prop:=H e=none∧Same H H'∧∃ T,FlyT H' e C dd T
theorem Xtd.step {G H H':Hp} {e:Addr} {C:Value} {dd T T':Option Addr} (n:G e=none) (nt:∀ t,T=some t→G t=none) (s:Same G H) (S:XStep e T H T' H') (F:FlyT H' e C dd T'):Xtd G e C dd H' :=
 ⟨n,fun b o q=>S.1 b o (s b o q) (Za9 q n) (fun z=>by rw[nt b z] at q;cases q),T',F⟩
def Yi0 (E:XK) (C:Addr) (t:TA):TS:=fun _ σ H=>t σ H fun vs H1=>vs.length≤sizeLine∧∀ e H',Xtd H1 e (.ref C) none H'→E (.ref e) none H'
section
variable {X:Cx} {E:XK} {x:Str} {C:Addr} {np cpos pos:Pos} {e:Expr} {es:List Expr} {t:TA}
theorem Ye8 (hx:XOk X E) (hc:X.calm=true) (hg:Gl X x) (hm:X.mg x=some (.ref C)) (hC:XCls X.K C) (ha:PA X (e :: es) t) (hdb:(x == ("__debug__":Str))=false:=by decide)
  (hs:starEach (e :: es) X.env=(false,eval e X.env) :: starEach es X.env:=by rfl) (hpl:(backTo cpos (starEach es X.env)).any (·.1)=false:=by rfl) :
  PS X (.Raise (some (.Call (.Name x np) (e :: es) [] cpos)) none pos) (Yi0 E C t):=by with_unfolding_all
 intro pins s σ H D I h;obtain⟨bm,mN,hI,hni⟩:=hC X.base I.ok.mod.kin;obtain⟨nm,q,N,bs,hdct,sn,sub,ab,col,dd,k0,k1,k2,k3,k5,c1,c2,c3⟩:=id hI;refine wpAny_Raise_call_subT F.excBase_ValueError (C:=C) (nm:=nm) (q:=q) (N:=N) (bs:=bs) (bm:=bm) (hdct:=hdct) (sn:=sn) (sub:=sub) (ab:=ab) (col:=col) (dd:=dd) (k0:=k0) (k1:=k1) (k2:=k2) (k3:=k3) (k5:=k5) (mN:=mN)
  hI.base (I.ok.hd hc) (by rw[hs];exact hpl) hni (Zt3 I hg hm ⟨rfl,?_⟩ hdb)
 rw[hs];refine PySem.Calls.evalArgs_plain ?_;have ha':=ha cpos pins s σ H _ I h;rw[hs] at ha';refine thn ha' fun us s1 ⟨vs,H1,I1,r,hl,q1⟩=>⟨rfl,by rw[← r.length];exact hl,I1.bk _ _ c1,c2.keeps I1.bk,c3.keeps I1.bk,fun h' ea m=>?_⟩;obtain⟨t0,he,_,ht⟩:=m.there;have J:=I1.laidN (o:=ExcO ea (.ref C) none none) (t':=s1.toks) m.keeps m.new (Xt5 ⟨_,_,he,rfl,rfl⟩);have hn:=I1.hok.newAt m.new;refine hx pins σ _ _ ea (.ref C) none none J ⟨Za5,fun t q=>nomatch q⟩ fun T'' H'' S F=>q1 ea H'' ?_;exact Xtd.step (T:=none) hn (fun t z=>nomatch z) (fun b o q=>by rw[Zb0 (Za9 q hn)];exact q) S F
end
def XC (K:W.Frag) (C:Addr):Prop:=∀ h,K.In h→∃ bm mN,IsXC h C bm mN
theorem XCls.xc {K:W.Frag} {C:Addr} (x:XCls K C):XC K C:=fun h X=>let ⟨bm,mN,a,_⟩:=x h X;⟨bm,mN,a⟩
open PySem.W
section
variable {prog:Program} {w:World} {A:Around} {E:Value→Shared→Prop} {s:Shared} {K:W.Frag} {x C:Addr} {ox:Obj} {od:Option Obj} {nm:Str} {tk:Tok}
structure XGet (K:W.Frag) (C:Addr):Prop where
 ga:findIn K (.ref C) "__getattribute__"=some (some (.builtin "BaseException.__getattribute__"))
 gt:findIn K (.ref C) "__getattr__"=some none
 mb:mroIn K C (.type "BaseException")=some true
end
section
variable {P:Program} {w:World} {K:W.Frag} {mg:Str→Option Value} {base:Heap}
theorem Fun.okX {x qual:Str} {st:Stmt} {f:Addr} {fd:FuncData} {N ps:List Str} {k:Nat} {sp:Sp} (F:Fun K x qual st f fd) (S:FnScope N ps (Za3 st)) (len:∀ vs H Q E,sp vs H Q E→vs.length=ps.length)
  (hbody:∀ (cdv:Value) (A:Around) (outer:List Env) (s:Shared) (H:Hp) (vs:List V) (Q:VK) (E:XK),Room k (A.deeper (envOfC qual (Za3 st) s.heap.objs.size f cdv))→sp vs H Q E →
   ∃ t,PSs (cxOf (CXe P w) P w K mg base N qual (Za3 st) f cdv A outer s H E) (Zc1 st) t∧t { nx:=fun _ H'=>Q .non H',rt:=Q } (start N vs) H):FnOk P w K mg base (CXe P w) (k+1) f fd ps sp:=by
 obtain⟨oc,od,kV,doc,pm,an,cdv,ct,osl,rfl,lk,hcd⟩:=F.ex;exact fn_of lk hcd S len fun A outer s H vs Q E hr hsp=>hbody cdv A outer s H vs Q E hr hsp
end
structure XIsi (K:W.Frag) (C:Addr):Prop extends XGet K C where
 cls:(clsIn K C).isSome=true
 ca:findIn K (.ref C) "__class__"=some (some (.builtin "object.__class__"))
 mo:mroIn K C (.type "object")=some true
section
variable {X:Cx}
theorem Yy3 (X:Cx):X.nox.K=X.K:=rfl
theorem Zt5 (CX:CXT) (P:Program) (w:World) (K:W.Frag) (mg:Str→Option Value) (base:Heap) (N:List Str) (qual:Str) (scope:Scope) (f:Addr) (cd:Value) (A:Around) (outer:List Env) (s:Shared) (H:Hp) (E:XK):(cxOf CX P w K mg base N qual scope f cd A outer s H E).K=K:=rfl
end
end L2
namespace Ken
open PySem
end Ken
namespace L2
open PySem PySem.Spec PyProof.Rows PySem.W
open Ken
section
variable {X:Cx}
def tFi (te:TE) (t:TF):TF:=fun out σ H Q=>te σ H fun v H1=>∃ i:Int,v=.int i∧i.natAbs.log2 < 1920∧(out++Str.ofString (toString i)).length≤sizeLine∧t (out++Str.ofString (toString i)) σ H1 Q
theorem Xf0 {e:Expr} {te:TE} {pos:Pos} {es:List Expr} {t:TF} (he:PE X e te) (h:PF X es t) (hs:evalEach (.FormattedValue e (-1) none pos :: es) X.env=eval (.FormattedValue e (-1) none pos) X.env :: evalEach es X.env:=by rfl):PF X (.FormattedValue e (-1) none pos :: es) (tFi te t):=by with_unfolding_all
 intro out pins s σ H Q I hw;rw[hs];refine joinParts_cons (FormattedValue_plain (thn (he pins s σ H _ I hw) fun v s1 zq=>?_));obtain⟨x,H1,I1,r1,q1⟩:=zq;obtain⟨i,rfl,hy,hz,q⟩:=q1;obtain⟨tk,rfl⟩:=r1;exact wpAny_formatField_int hy ⟨hz,h _ pins _ σ H1 Q (I1.tok _) q⟩
end
section
variable {X:Cx} {K:W.Frag}
theorem Xx5 {N:Addr} {c:Value} {d:Option Addr} {es:Array DictEntry} {ep:Nat} {sl:Array (Option Value)} (l:K.lookup N=some ⟨c,d,.dict es ep,sl⟩) (h:(es.toList.all fun e=>match e.key with | .str _ _=>true | _=>false)=true):W.nsOkIn K N=true:=by
 unfold W.nsOkIn;rw[l];show (es.all _)=true;rw[← Array.all_toList];exact h
theorem Xn4 {B N:Addr} {nm q:Str} {bs bm:List Value} {hdct:Bool} {sn:List Str} {sub:List Value} {ab:Bool} {col:Option Bool} {dd:Option Addr} {k0 k1 k2 k3 k5:Option Value} {nw:String}
  (l:K.lookup B=some (excClassObj nm q B N bs bm hdct sn sub ab col dd k0 k1 k2 k3 k5 nw)) (hn:W.nsOkIn K N=true) (hi:W.nsIn K N "__init__"=some none):W.tailIn K bmV (.ref B :: bmV)=true:=by
 rw[W.tailIn.eq_2,l];unfold excClassObj;dsimp only;rw[hn,hi,show W.tailIn K bmV bmV=true by rw[W.tailIn.eq_def];rfl];exact Bool.or_true _
theorem Xr1 {C:Addr} (h:W.hasDictIn K C=true):(W.clsIn K C).isSome=true:=by
 unfold W.hasDictIn at h
 cases e:W.clsIn K C with
 | none=>rw[e] at h;cases h
 | some _=>rfl
end
end L2
namespace Hd
open PySem PySem.W PySem.Calls PySem.Spec PyProof.Rows L2
noncomputable def adr (K:Frag) (x:Str):Addr:=match nsIn K mainGlobals x with
 | some (some (.ref a))=>a
 | _=>0
noncomputable def Xy8 (K:Frag) (x:Str):Bool:=match nsIn K mainGlobals x with
 | some (some (.ref _))=>true
 | _=>false
theorem Wk5 {K:Frag} {x:Str} (h:Xy8 K x=true):nsIn K mainGlobals x=some (some (.ref (adr K x))):=by
 unfold Xy8 at h;unfold adr
 split at h
 ·rename_i a e
  rw[e]
 ·cases h
noncomputable def Zo8 (o:Obj) (C:Addr):Option (List Value×Addr):=match o with
 | ⟨c,_,.cls cd,sl⟩=>(match cd.mro,sl.toList with
  | .ref c1 :: bm,[_,_,_,_,some (.builtin n),_]=>if c=.type "type"∧c1=C∧cd.hasDel=false∧n="ValueError.__new__" then some (bm,cd.ns) else none
  | _,_=>none)
 | _=>none
theorem Xt4 {o:Obj} {C N:Addr} {bm:List Value} (h:Zo8 o C=some (bm,N)):∃ (nm q:Str) (bs:List Value) (hdct:Bool) (sn:List Str) (sub:List Value) (ab:Bool) (col:Option Bool) (dd:Option Addr) (k0 k1 k2 k3 k5:Option Value),
  o=excClassObj nm q C N bs bm hdct sn sub ab col dd k0 k1 k2 k3 k5 "ValueError.__new__":=by
 unfold Zo8 at h
 split at h
 ·rename_i c dd cd sl
  split at h
  ·rename_i c1 bm' k0 k1 k2 k3 n k5 hm hs
   split at h
   ·rename_i hc
    obtain⟨h1,h2,h3,h4⟩:=hc;have h:=Option.some.inj h;obtain⟨e1,e2⟩:=Prod.mk.inj h;obtain⟨nm,bs,mro,ns,q,hd,sn,sub,ab,col,del⟩:=cd;dsimp only at hm h3 e2;subst hm h1 h2 h3 h4 e1 e2;refine⟨nm,q,bs,hd,sn,sub,ab,col,dd,k0,k1,k2,k3,k5,?_⟩;have:sl=#[k0,k1,k2,k3,some (.builtin "ValueError.__new__"),k5]:=Array.toList_inj.mp hs;rw[this]
   ·cases h
  ·cases h
 ·cases h
noncomputable def Yy2 (K:Frag) (N:Addr):Bool:=match K.lookup N with
 | some ⟨_,_,.dict es _,_⟩=>es.toList.all fun e=>match e.key with | .str _ _=>true | _=>false
 | _=>false
theorem Yv5 {K:Frag} {N:Addr} (h:Yy2 K N=true):nsOkIn K N=true:=by
 unfold Yy2 at h
 split at h
 ·rename_i l
  exact Xx5 l h
 ·cases h
noncomputable def Xz8 (K:Frag) (C B:Addr):Bool:=match (K.lookup C).bind (Zo8 · C),(K.lookup B).bind (Zo8 · B) with
 | some (bm,N),some (_,M)=>bm == .ref B :: bmV&&Yy2 K N&&Yy2 K M&&nsIn K N "__init__" == some none&&nsIn K M "__init__" == some none
 | _,_=>false
theorem Xu1 {K:Frag} {C B:Addr} (h:Xz8 K C B=true):XCls K C:=by
 unfold Xz8 at h
 split at h
 ·rename_i bm N bm2 M hC hB
  obtain⟨o,l,f⟩:=Option.bind_eq_some_iff.mp hC;obtain⟨o2,l2,f2⟩:=Option.bind_eq_some_iff.mp hB;simp only[Bool.and_eq_true] at h;obtain⟨⟨⟨⟨h1,h2⟩,h3⟩,h4⟩,h5⟩:=h;have h1:=eq_of_beq h1;have h4:=eq_of_beq h4;have h5:=eq_of_beq h5;subst h1;obtain⟨nm,q,bs,hd,sn,sub,ab,col,dd,k0,k1,k2,k3,k5,rfl⟩:=Xt4 f;obtain⟨nm',q',bs',hd',sn',sub',ab',col',dd',k0',k1',k2',k3',k5',rfl⟩:=Xt4 f2;exact Xu2 l (Xn4 l2 (Yv5 h3) h5) (Yv5 h2) h4
 ·cases h
noncomputable def Xp8 (K:Frag) (C:Addr):Bool:=findIn K (.ref C) "__getattribute__" == some (some (.builtin "BaseException.__getattribute__"))&&findIn K (.ref C) "__getattr__" == some none&&mroIn K C (.type "BaseException") == some true&&hasDictIn K C &&
 findIn K (.ref C) "__class__" == some (some (.builtin "object.__class__"))&&mroIn K C (.type "object") == some true
theorem Xu0 {K:Frag} {C:Addr} (h:Xp8 K C=true):XIsi K C:=by
 unfold Xp8 at h;simp only[Bool.and_eq_true] at h;obtain⟨⟨⟨⟨⟨h1,h2⟩,h3⟩,h4⟩,h5⟩,h6⟩:=h;exact⟨⟨eq_of_beq h1,eq_of_beq h2,eq_of_beq h3⟩,Xr1 h4,eq_of_beq h5,eq_of_beq h6⟩
structure ClsAsk where
 cls:List Nat
 exc:List (Nat×Nat)
 kit:List (Nat×List Nat)
noncomputable def at_ (p:Program) (K:Frag) (i:Nat):Addr:=adr K (nm (stAt p i))
noncomputable def chk (p:Program) (B:ClsAsk) (K:Frag):Bool :=
 (B.cls.all fun i=>Xy8 K (nm (stAt p i)))&&(B.exc.all fun ij=>Xz8 K (at_ p K ij.1) (at_ p K ij.2)&&Xp8 K (at_ p K ij.1)&&kitOne K (.ref (at_ p K ij.1)) (.ref (at_ p K ij.2)) == some true&&kitOne K (.ref (at_ p K ij.1)) (.type "ValueError") == some true) &&
 B.kit.all fun ij=>kitAny K (.ref (at_ p K ij.1)) (ij.2.map fun j=>.ref (at_ p K j)) == some false
section
variable {p:Program} {B:ClsAsk} {K:Frag}
theorem Wn3 (h:chk p B K=true) {i:Nat} (hi:i∈B.cls):nsIn K mainGlobals (nm (stAt p i))=some (some (.ref (at_ p K i))):=by
 unfold chk at h;simp only[Bool.and_eq_true] at h;exact Wk5 (List.all_eq_true.mp h.1.1 i hi)
theorem c_refx {x:Str} (h:chk p B K=true) {i:Nat} (hx:nm (stAt p i)=x) (hi:i∈B.cls):nsIn K mainGlobals x=some (some (.ref (at_ p K i))):=hx▸Wn3 h hi
theorem c_exc (h:chk p B K=true) {ij:Nat×Nat} (hi:ij∈B.exc):XCls K (at_ p K ij.1)∧XIsi K (at_ p K ij.1)∧kitOne K (.ref (at_ p K ij.1)) (.ref (at_ p K ij.2))=some true∧kitOne K (.ref (at_ p K ij.1)) (.type "ValueError")=some true:=by
 unfold chk at h;simp only[Bool.and_eq_true] at h;have:=List.all_eq_true.mp h.1.2 ij hi;simp only[Bool.and_eq_true] at this;obtain⟨⟨⟨h1,h2⟩,h3⟩,h4⟩:=this;exact⟨Xu1 h1,Xu0 h2,eq_of_beq h3,eq_of_beq h4⟩
end
noncomputable def Wl0 (p:Program) (A:Ask) (B:ClsAsk) (h:Heap):List Addr :=
 Wn5 p A h++B.cls.flatMap fun i=>match nsIn (pick h [mainGlobals]) mainGlobals (nm (stAt p i)) with
  | some (some (.ref a))=>a :: (match h.get? a with
   | some ⟨_,_,.cls cd,_⟩=>[cd.ns]
   | _=>[])
  | _=>[]
noncomputable def nsOf (K:Frag) (C:Addr):Option Addr:=((K.lookup C).bind (Zo8 · C)).map (·.2)
noncomputable def Wm6 (K:Frag) (C:Addr):Option (Addr×Obj):=(nsOf K C).bind fun N=>match nsIn K N "__init__" with
 | some (some (.ref f))=>(K.lookup f).map fun o=>(f,o)
 | _=>none
noncomputable def Xz4 (K:Frag) (C:Addr):Option (Value×FnD):=match Wm6 K C with
 | some (_,⟨c,_,.func fd,_⟩)=>some (c,fnD K fd)
 | _=>none
noncomputable def Xz3 (q:Str) (st:Stmt):Option (Value×FnD):=some (.type "function","__init__",q,Zc5 st,.stmts (Zc1 st),Za3 st,mainGlobals,[],.none,builtinsNs,true)
noncomputable def Wj4 (K:Frag) (C B:Addr):Bool:=match (K.lookup C).bind (Zo8 · C),(K.lookup B).bind (Zo8 · B) with
 | some (bm,N),some (_,M)=>bm == .ref B :: bmV&&Yy2 K N&&Yy2 K M&&nsIn K M "__init__" == some none
 | _,_=>false
noncomputable def Wl6 (K:Frag) (C:Addr) (x:Str):Bool:=findIn K (.ref C) "__setattr__" == some (some (.builtin "object.__setattr__"))&&findIn K (.ref C) x == some none&&hasDictIn K C&&mroIn K C (.type "object") == some true
noncomputable def fiOk:Option CFound→Bool
 | some (.val (.builtin n))=>n == "ValueError.__init__"
 | _=>false
noncomputable def Wm5 (K:Frag) (B:Addr):Bool:=specialIn K (.ref B) "__getattribute__" == some (some (.builtin "type.__getattribute__"))&&readsIn K B (.type "type")&&fiOk (findCls K (.ref B) (.type "type") "__init__")
structure IniRow where
 cls:Nat
 bas:Nat
 met:Nat
 qual:Str
 fld:Str
noncomputable def Wj0 (K:Frag) (C B:Addr) (fld:Str):Bool:=Wj4 K C B&&Xp8 K C&&Wl6 K C fld&&Wm5 K B&&kitOne K (.ref C) (.ref B) == some true&&kitOne K (.ref C) (.type "ValueError") == some true
noncomputable def Xy9 (K:Frag) (x:Str) (i:Int):Bool:=match nsIn K mainGlobals x with
 | some (some (.int j _))=>decide (j=i)
 | _=>false
theorem Wi9 {K:Frag} {x:Str} {i:Int} (h:Xy9 K x i=true):∃ t,nsIn K mainGlobals x=some (some (.int i t)):=by
 unfold Xy9 at h
 split at h
 ·rename_i j t e
  have:=of_decide_eq_true h;subst this;exact⟨t,e⟩
 ·cases h
structure MoreAsk where
 ini:List IniRow
 nums:List (Str×Int)
noncomputable def chkM (p:Program) (M:MoreAsk) (K:Frag):Bool:=(M.ini.all fun r=>Wj0 K (at_ p K r.cls) (at_ p K r.bas) r.fld)&&M.nums.all fun xi=>Xy9 K xi.1 xi.2
noncomputable def iniK (p:Program) (M:MoreAsk) (K:Frag):List (Option (Value×FnD)):=M.ini.map fun r=>Xz4 K (at_ p K r.cls)
noncomputable def iniV (p:Program) (M:MoreAsk):List (Option (Value×FnD)):=M.ini.map fun r=>Xz3 r.qual (Xz5 (stAt p r.cls) r.met)
theorem m_int {p:Program} {M:MoreAsk} {K:Frag} (h:chkM p M K=true) {x:Str} {i:Int} (hi:(x,i)∈M.nums):∃ t,nsIn K mainGlobals x=some (some (.int i t)):=by
 unfold chkM at h;rw[Bool.and_eq_true] at h;exact Wi9 (List.all_eq_true.mp h.2 _ hi)
noncomputable def Wk9 (p:Program) (A:Ask) (B:ClsAsk) (M:MoreAsk) (h:Heap):List Addr :=
 cStatics :: Wl0 p A B h++M.ini.flatMap fun r=>match nsIn (pick h [mainGlobals]) mainGlobals (nm (stAt p r.cls)) with
  | some (some (.ref a))=>(match h.get? a with
   | some ⟨_,_,.cls cd,_⟩=>(match nsIn (pick h [cd.ns]) cd.ns "__init__" with
    | some (some (.ref f))=>f :: (match h.get? f with
     | some ⟨_,_,.func fd,_⟩=>(match fd.code with | .ref c=>[c] | _=>[])
     | _=>[])
    | _=>[])
   | _=>[])
  | _=>[]
noncomputable abbrev Obs3:=Obs×Bool×List (Option (Value×FnD))×Bool
noncomputable def Wm2 (p:Program) (A:Ask) (B:ClsAsk) (M:MoreAsk) (K:Frag):Obs3:=(obsK p A K,chk p B K,iniK p M K,chkM p M K)
noncomputable def val3 (p:Program) (A:Ask) (M:MoreAsk) (w:World):Obs3:=(valK p A w.params,true,iniV p M,true)
end Hd
namespace L2
open PySem PySem.Spec PyProof.Rows
structure Df (K:W.Frag) (mg:Str→Option Value) (x:Str) (st:Stmt) (ps:List Str):Prop where
 ex:∃ (f:Addr) (fd:FuncData),mg x=some (.ref f)∧Fun K x x st f fd∧W.keepIn K (.ref f)=true∧Binds K fd ps []
end L2
namespace Hd
open PySem PySem.W PySem.Calls PySem.Spec PyProof.Rows L2
section
variable {p:Program} {A:Ask} {K:Frag} {P:Params} {h:Heap} {mg:Str→Option Value} {x a b c d e f g:Str}
theorem df {ps:List Str} (X:K.In h) (G:h.Ns mainGlobals mg) (E:obsK p A K=valK p A P) (i:Nat) (hx:nm (stAt p i)=x) (hi:i∈A.fns)
  (hb:∀ kV dc pm an cd ct (us:List Value),us.length=ps.length→bindArgs (fnOf x x (Zc5 (stAt p i)) (Zc1 (stAt p i)) (Za3 (stAt p i)) .none kV dc pm an cd ct) ⟨us,[]⟩=pure (ps.zip us)):Df K mg x (stAt p i) ps:=by
 obtain⟨f,fd,a,F⟩:=Xz6 hx (e_fn E hi);exact⟨⟨f,fd,mg_of X G a,F,F.kp,F.binds hb⟩⟩
theorem lS {α:Type} {n:Nat} {us:List α} (h:us.length=n+1):∃ u t,us=u :: t∧t.length=n:=by
 cases us with
 | nil=>cases h
 | cons u t=>exact⟨u,t,rfl,Nat.succ.inj h⟩
theorem df1 (X:K.In h) (G:h.Ns mainGlobals mg) (E:obsK p A K=valK p A P) (i:Nat) (hx:nm (stAt p i)=x:=by kernel_rfl) (hi:i∈A.fns:=by decide)
  (hb:∀ kV dc pm an cd ct u1,bindArgs (fnOf x x (Zc5 (stAt p i)) (Zc1 (stAt p i)) (Za3 (stAt p i)) .none kV dc pm an cd ct) ⟨[u1],[]⟩=pure [(a,u1)]:=by intros;rfl):Df K mg x (stAt p i) [a] :=
 df X G E i hx hi fun kV dc pm an cd ct us hl=>by
  obtain⟨u,us1,rfl,hl1⟩:=lS hl;cases List.length_eq_zero_iff.mp hl1;exact hb kV dc pm an cd ct u
theorem df2 (X:K.In h) (G:h.Ns mainGlobals mg) (E:obsK p A K=valK p A P) (i:Nat) (hx:nm (stAt p i)=x:=by kernel_rfl) (hi:i∈A.fns:=by decide)
  (hb:∀ kV dc pm an cd ct u1 u2,bindArgs (fnOf x x (Zc5 (stAt p i)) (Zc1 (stAt p i)) (Za3 (stAt p i)) .none kV dc pm an cd ct) ⟨[u1,u2],[]⟩=pure [(a,u1),(b,u2)]:=by intros;rfl):Df K mg x (stAt p i) [a,b] :=
 df X G E i hx hi fun kV dc pm an cd ct us hl=>by
  obtain⟨u,us1,rfl,hl1⟩:=lS hl;obtain⟨v,us2,rfl,hl2⟩:=lS hl1;cases List.length_eq_zero_iff.mp hl2;exact hb kV dc pm an cd ct u v
theorem df3 (X:K.In h) (G:h.Ns mainGlobals mg) (E:obsK p A K=valK p A P) (i:Nat) (hx:nm (stAt p i)=x:=by kernel_rfl) (hi:i∈A.fns:=by decide)
  (hb:∀ kV dc pm an cd ct u1 u2 u3,bindArgs (fnOf x x (Zc5 (stAt p i)) (Zc1 (stAt p i)) (Za3 (stAt p i)) .none kV dc pm an cd ct) ⟨[u1,u2,u3],[]⟩=pure [(a,u1),(b,u2),(c,u3)]:=by intros;rfl):Df K mg x (stAt p i) [a,b,c] :=
 df X G E i hx hi fun kV dc pm an cd ct us hl=>by
  obtain⟨u,us1,rfl,hl1⟩:=lS hl;obtain⟨v,us2,rfl,hl2⟩:=lS hl1;obtain⟨w,us3,rfl,hl3⟩:=lS hl2;cases List.length_eq_zero_iff.mp hl3;exact hb kV dc pm an cd ct u v w
theorem df4 (X:K.In h) (G:h.Ns mainGlobals mg) (E:obsK p A K=valK p A P) (i:Nat) (hx:nm (stAt p i)=x:=by kernel_rfl) (hi:i∈A.fns:=by decide)
  (hb:∀ kV dc pm an cd ct u1 u2 u3 u4,bindArgs (fnOf x x (Zc5 (stAt p i)) (Zc1 (stAt p i)) (Za3 (stAt p i)) .none kV dc pm an cd ct) ⟨[u1,u2,u3,u4],[]⟩=pure [(a,u1),(b,u2),(c,u3),(d,u4)]:=by intros;rfl):Df K mg x (stAt p i) [a,b,c,d] :=
 df X G E i hx hi fun kV dc pm an cd ct us hl=>by
  obtain⟨u,us1,rfl,hl1⟩:=lS hl;obtain⟨v,us2,rfl,hl2⟩:=lS hl1;obtain⟨w,us3,rfl,hl3⟩:=lS hl2;obtain⟨y,us4,rfl,hl4⟩:=lS hl3;cases List.length_eq_zero_iff.mp hl4;exact hb kV dc pm an cd ct u v w y
theorem df5 (X:K.In h) (G:h.Ns mainGlobals mg) (E:obsK p A K=valK p A P) (i:Nat) (hx:nm (stAt p i)=x:=by kernel_rfl) (hi:i∈A.fns:=by decide)
  (hb:∀ kV dc pm an cd ct u1 u2 u3 u4 u5,bindArgs (fnOf x x (Zc5 (stAt p i)) (Zc1 (stAt p i)) (Za3 (stAt p i)) .none kV dc pm an cd ct) ⟨[u1,u2,u3,u4,u5],[]⟩=pure [(a,u1),(b,u2),(c,u3),(d,u4),(e,u5)]:=by intros;rfl):Df K mg x (stAt p i) [a,b,c,d,e] :=
 df X G E i hx hi fun kV dc pm an cd ct us hl=>by
  obtain⟨u,us1,rfl,hl1⟩:=lS hl;obtain⟨v,us2,rfl,hl2⟩:=lS hl1;obtain⟨w,us3,rfl,hl3⟩:=lS hl2;obtain⟨y,us4,rfl,hl4⟩:=lS hl3;obtain⟨z,us5,rfl,hl5⟩:=lS hl4;cases List.length_eq_zero_iff.mp hl5;exact hb kV dc pm an cd ct u v w y z
end
noncomputable def Xl4 (K:Frag):Value→Option (Addr×Obj)
 | .ref c=>(K.lookup c).map fun o=>(c,o)
 | _=>none
noncomputable def Yw8 (K:Frag) (x:Str):Option (Addr×Obj):=match Zj2 K x with
 | some (_,⟨_,_,.func fd,_⟩)=>Xl4 K fd.code
 | _=>none
noncomputable def tabV:Option Value→Addr
 | some (.ref T)=>T
 | _=>0
noncomputable def Wl5:Option (Addr×Obj)→Addr
 | some (_,⟨_,_,.fields vs,_⟩)=>tabV vs[11]?
 | _=>0
noncomputable def tabAt (K:Frag) (x:Str):Addr:=Wl5 (Yw8 K x)
noncomputable def Yw4 (c:Addr) (vs:Array Value):Bool:=match (vs[11]?:Option Value),vs.getD 11 .none,vs.getD 18 .none,vs.getD 7 .none,vs.getD 9 .none,vs.getD 10 .none with
 | some (.ref T),.ref T',.str _ _,.int _ _,.bool _,.int _ _=>T == T'&&c != T&&mainGlobals != T
 | _,_,_,_,_,_=>false
noncomputable def Yl4 (K:Frag) (x:Str):Bool:=(match Yw8 K x with
 | some (c,⟨cl,_,.fields vs,_⟩)=>cl == .type "code"&&Yw4 c vs
 | _=>false)&&(K.lookup (tabAt K x)).isNone
theorem Yx9 {K:Frag} {x:Str} {f:Addr} {o:Obj} (a:nsIn K mainGlobals x=some (some (.ref f))) (l:K.lookup f=some o):Zj2 K x=some (f,o):=by
 unfold Zj2;rw[a];dsimp only;rw[l];rfl
def FunTF (K:Frag) (x:Str) (st:Stmt) (T:Addr):Prop:=∃ (f:Addr) (fd:FuncData),nsIn K mainGlobals x=some (some (.ref f))∧FunT K x x st f fd T∧Fun K x x st f fd∧mainGlobals≠T∧K.lookup T=none∧∀ h,K.In h→isCodeTable h T
theorem Xj4 {K:Frag} {st:Stmt} (e:Zr5 K (nm st)=Zu4 st) (h:Yl4 K (nm st)=true):FunTF K (nm st) st (tabAt K (nm st)):=by
 obtain⟨f,oc,od,sl,kV,dc,pm,an,cd,ct,a,l,c,k⟩:=fn_of e;have r:=Yx9 a l
 have q:Yw8 K (nm st)=Xl4 K cd:=by
  unfold Yw8;rw[r]
 unfold Yl4 at h;rw[Bool.and_eq_true] at h;obtain⟨h,hn⟩:=h;have hn:=Option.isNone_iff_eq_none.mp hn
 split at h
 ·rename_i cc cl od2 vs sl2 hc
  have ht:tabAt K (nm st)=tabV vs[11]?:=by
   unfold tabAt;rw[hc];rfl
  rw[Bool.and_eq_true] at h;obtain⟨hcl,hf⟩:=h;have hcl:=eq_of_beq hcl;subst hcl;unfold Yw4 at hf
  split at hf
  ·rename_i T T' s1 s2 i1 i2 b1 j1 j2 g1 g2 g3 g4 g5 g6
   simp only[Bool.and_eq_true] at hf;obtain⟨⟨f1,f2⟩,f3⟩:=hf;have f1:=eq_of_beq f1
   have f2:cc≠T:=fun z=>by rw[z] at f2;simp at f2
   have f3:mainGlobals≠T:=fun z=>by rw[← z] at f3;simp at f3
   subst f1
   have ht:tabAt K (nm st)=T:=by rw[ht,g1];rfl
   rw[ht] at hn ⊢
   cases cd with
   | ref c0 =>
    rw[hc] at q;obtain⟨o,e1,e2⟩:=Option.map_eq_some_iff.mp (show (K.lookup c0).map (fun o=>(c0,o))=_ from q.symm);cases e2;have hC:∀ h,K.In h→CodeHd h cc T:=fun h kx=>Xl6 e1 ⟨g1,g2,⟨_,_,g3⟩,⟨_,_,g4⟩,⟨_,g5⟩,⟨_,_,g6⟩⟩ f2 h kx;exact⟨f,_,a,Xz7 l c k hC,Xj3 l c k,f3,hn,fun h kx=>⟨cc,_,vs,kx _ _ e1,rfl,rfl,g1⟩⟩
   | _=>exact absurd (hc.symm.trans q) (by intro z;cases z)
  ·cases hf
 ·cases h
theorem funT_ofx {K:Frag} {x:Str} {st:Stmt} (hx:nm st=x) (e:Zr5 K (nm st)=Zu4 st) (h:Yl4 K (nm st)=true):FunTF K x st (tabAt K x):=hx▸Xj4 e h
noncomputable def Yg5 (o:Option Obj):Bool:=match o with
 | some ⟨.none,none,.fields vs,sl⟩=>vs.size == 0&&sl.size == 0
 | _=>false
theorem Yr3 {o:Option Obj} (h:Yg5 o=true):o=some (tabObj #[]):=by
 unfold Yg5 at h
 split at h
 ·rename_i vs sl
  rw[Bool.and_eq_true] at h;have h1:vs=#[]:=Array.size_eq_zero_iff.mp (by simpa using h.1);have h2:sl=#[]:=Array.size_eq_zero_iff.mp (by simpa using h.2);rw[h1,h2]
 ·cases h
noncomputable def Wk2 (K:Frag):Bool:=match nsIn K mainGlobals (Str.ofString "__builtins__") with
 | some (some (.ref b))=>(K.lookup b).isSome
 | _=>false
noncomputable def tabs (p:Program) (TA:List Nat) (K:Frag):List Addr:=TA.map fun i=>tabAt K (nm (stAt p i))
noncomputable def codesOk (p:Program) (TA:List Nat) (K:Frag):Bool:=(TA.all fun i=>Yl4 K (nm (stAt p i)))&&Wk2 K
noncomputable def Wb5 (p:Program) (TA:List Nat) (h:Heap) (K:Frag):Bool:=(tabs p TA K).all fun T=>Yg5 (h.get? T)
noncomputable def Wk8 (p:Program) (A:Ask) (B:ClsAsk) (M:MoreAsk) (h:Heap):List Addr :=
 Wk9 p A B M h++(match nsIn (pick h [mainGlobals]) mainGlobals (Str.ofString "__builtins__") with
  | some (some (.ref b))=>[b]
  | _=>[])
theorem t_code {p:Program} {TA:List Nat} {K:Frag} (h:codesOk p TA K=true) {i:Nat} (hi:i∈TA):Yl4 K (nm (stAt p i))=true:=by
 unfold codesOk at h;rw[Bool.and_eq_true] at h;exact List.all_eq_true.mp h.1 i hi
end Hd
namespace Ken
open PySem L2
end Ken
namespace L2
open PySem PySem.Spec PyProof.Rows
open Ken
end L2
namespace Ken
open PySem L2
end Ken
namespace L2
open PySem PySem.Spec PyProof.Rows
noncomputable def Itd (lo:Int) (n:Nat):It:=⟨fun i _=>i < n,fun i H x H'=>H'=H∧x=.int (lo - i),fun i _=>n≤i⟩
theorem Xb8 {P:Program} {w:World} {K:W.Frag} {tg:Expr} (it:Addr) (lo:Int) (n:Nat):Turn P w K tg (Itd lo n) [it] it (fun i h=>IsRangeIter h it (lo+(i:Nat)*(-1)) ((n:Int) - (i:Nat)) (-1)) where
  mem:=by simp
  obj:=fun i h st b hb=>by
    have e:b=it:=by simpa using hb
    subst e
    exact⟨_,st,fun v z=>by
      have z':Data.fields _=Data.cell v:=z
      cases z'⟩
  keep:=fun i h h' st k=>k it (by simp) _ st
  item:=by
    intro X hP hw hK hc i pins s σ H E I hf st hg;subst hP hw hK;obtain⟨f0,f1,f2,f3,f4,f5⟩:=hf it (by simp);have W:=Walks.range (prog:=X.prog) (w:=X.w) (I.ok.hd hc) it lo (-1) n;refine W.item i s _ _ hg st fun v h' tk hv st' kk=>?_;obtain⟨t,rfl⟩:=hv;have I1:Inv X pins σ H { s with heap:=h',toks:=tk }:=I.turned (fun b o hb e=>kk b o (by simpa using hb) e) f0 f1 f3 f4 f5;refine⟨_,rfl,Xj0 (s:={ s with heap:=h',toks:=tk }) (n:="range_iterator") st' rfl rfl (by decide) ⟨.int (lo - i),H,I1,⟨t,?_⟩,⟨rfl,rfl⟩,st',fun b hb=>(hf b hb).1⟩⟩;rw[show lo+(i:Int)*(-1)=lo - i by walk_at "o"]
  done:=by
    intro X hP hw hK hc i pins s σ H E I hf st hg;subst hP hw hK;obtain⟨f0,f1,f2,f3,f4,f5⟩:=hf it (by simp);exact wpAny_pyNext_range_end (I.ok.hd hc) st (by have:n≤i:=hg;walk_at "o") fun h' eb=>⟨rfl,I.turned (t':=s.toks) (fun b o hb e=>eb b o hb e) f0 f1 f3 f4 f5⟩
  self:=fun _ _ _ _ _ st h=>wpAny_pyIter_rangeiter st h
theorem Xq6 {lo:Int} {n:Nat} {g:TG} {tb:TS} {D:Ends} {σ:St} {H:Hp} (Pv:Nat→St→Hp→Prop) (h0:Pv 0 σ H)
  (hs:∀ i σ H,i < n→Pv i σ H→g (.int (lo - i)) σ H fun σ2 H2=>tb { D with nx:=Pv (i+1),ct:=Pv (i+1),bk:=D.nx } σ2 H2) (hd:∀ σ H,Pv n σ H→D.nx σ H) :
  ∃ W:Nat→Nat→St→Hp→Prop,(∃ m,W 0 m σ H)∧∀ i m σ H,W i m σ H →
   ((Itd lo n).stop i H∧D.nx σ H)∨((Itd lo n).go i H∧∃ N:St→Hp→Prop,(∀ σ' H',N σ' H'→∃ m',m' < m∧W (i+1) m' σ' H')∧∀ x H',(Itd lo n).yld i H x H'→g x σ H' fun σ2 H2=>tb { D with nx:=N,ct:=N,bk:=D.nx } σ2 H2):=by
 refine⟨fun i m σ H=>m=n - i∧i≤n∧Pv i σ H,⟨n,by simp,Nat.zero_le _,h0⟩,?_⟩;rintro i m σ H ⟨rfl,hi,p⟩
 by_cases hlt:i < n
 ·refine .inr ⟨hlt,Pv (i+1),fun σ' H' p'=>⟨n - (i+1),by walk_at "o",rfl,hlt,p'⟩,fun x H' y=>?_⟩
  obtain⟨rfl,rfl⟩:=y;exact hs i σ H' hlt p
 ·have:i=n:=by walk_at "o"
  subst this;exact .inl ⟨Nat.le_refl _,hd σ H p⟩
section
variable {X:Cx} {scope:Scope} {cl:List (Str×Addr)} {N':List Str} {nt:Nat} {ci:List Nat} {pins:List (Addr×Obj)} {σ:St} {H:Hp} {s:Shared}
theorem Wj9 {P:Program} {w:World} (H:Hp) (h:Heap) (a:Addr) (e:h.get? a=some { cls:=.type "dict",dict:=none,data:=.dict #[] }) (hb:sysModules < a):ObjOk P w (upd H a (.dK [])) h a (.dK []) :=
 ⟨Nat.zero_le _,beq_eq_false_iff_ne.mpr (Ne.symm (Nat.ne_of_lt hb)),[],.nil,_,#[],0,e,⟨rfl,rfl,rfl⟩,rfl,fun _ he=>by simp at he,Pairs.nil,List.nodup_nil⟩
theorem We3 {ek ev tg iter:Expr} {ifs:List Expr} {gs:List Comprehension} {pos p0:Pos} {wi:TI} {g:TG} {tk:Addr→TK} {body:Addr→Env→Sem Unit} (B:X.Ok→BlkOk X scope cl N' nt ci) (hc:X.calm=true) (hi:PI X tg iter wi)
  (hg:∀ s H C ex,PG (blk X N' scope cl s H C ex) tg g) (htn:∀ a env,Zs1 (.DictComp ek ev (⟨tg,iter,ifs,0⟩ :: gs) scope pos) 0 tg p0 (.ref a) env (body a env))
  (hb:∀ s H C ex a,PTn (blk X N' scope cl s H C ex) (body a (blk X N' scope cl s H C ex).env) (tk a)) (hs:∀ x,foldedSetIterable iter X.env x=pure x:=by intro _;rfl) :
  PE X (.DictComp ek ev (⟨tg,iter,ifs,0⟩ :: gs) scope pos) (Yd4 nt ci wi g tk (.dK [])):=by with_unfolding_all
 intro pins s σ H Q I h;rw[arm_eval_DictComp];refine Xl8 (B I.ok) hc hi hg rfl (fun _ _=>Wn2) htn hb (fun h=>wpAny_newObj_type h) rfl Wj9 hs I h fun acc C s' H' I' q hm hf ho=>?_;obtain⟨m,hm⟩:=hm;obtain⟨f0,f1,f2,f3,f4,f5⟩:=hf;exact⟨m,hm,fun h' sb=>⟨.ref acc,H',I'.turned (t':=s'.toks) (fun b o hb e=>(sb.2 b hb).trans e) f0 f1 f3 f4 f5,rfl,q⟩⟩
end
end L2
namespace Ken
open PySem L2
end Ken
namespace L2
open PySem PySem.Spec PyProof.Rows
end L2
namespace Ken
open PySem L2
theorem Xy7 {n j:Nat} (h:j < n):ixN n (j:Int)=some j:=by
 unfold ixN;simp;walk_at "o"
end Ken
namespace PySem.SeqAt
open PySem PySem.MeetsSeq L2 PyProof.Rows
end PySem.SeqAt
namespace L2
open PySem PySem.Spec PyProof.Rows
end L2
namespace Ken
open PySem L2
end Ken
namespace PySem.SeqAt
open PySem PySem.MeetsSeq L2 PyProof.Rows
end PySem.SeqAt
namespace Ken
open PySem L2 PySem.SeqAt
end Ken
namespace L2
open PySem PySem.Spec PyProof.Rows
end L2
namespace Ken
open PySem L2
end Ken
namespace L2
open PySem PySem.Spec PyProof.Rows
end L2
namespace Ken
open PySem L2
open PyProof.Rows
inductive U5 where
 | left | right | first | second | off
 deriving DecidableEq
noncomputable def U5.str:U5→Str
 | .left=>"left"
 | .right=>"right"
 | .first=>"first"
 | .second=>"second"
 | .off=>"off"
inductive U2 where
 | pair | use
 deriving DecidableEq
noncomputable def U2.str:U2→Str
 | .pair=>"pair"
 | .use=>"use"
inductive Te where
 | at (k:Nat)
 | one (u:U5) (a:Te) (ss:List Tm)
 | two (u:U2) (a b:Te)
 | fn (s:Tm) (a:Te)
 | cs (a b c:Te)
 deriving DecidableEq
noncomputable def Te.tag:Te→Str
 | .at _=>"at"
 | .one u _ _=>u.str
 | .two u _ _=>u.str
 | .fn _ _=>"fun"
 | .cs _ _ _=>"cases"
noncomputable def Te.data:Te→PyData
 | .at k=>.tuple [.str "at",.int (k:Nat)]
 | .one u a ss=>.tuple (.str u.str :: a.data :: ss.map Tm.data)
 | .two u a b=>.tuple [.str u.str,a.data,b.data]
 | .fn s a=>.tuple [.str "fun",s.data,a.data]
 | .cs a b c=>.tuple [.str "cases",a.data,b.data,c.data]
noncomputable def Te.items:Te→List PyData
 | .at k=>[.str "at",.int (k:Nat)]
 | .one u a ss=>.str u.str :: a.data :: ss.map Tm.data
 | .two u a b=>[.str u.str,a.data,b.data]
 | .fn s a=>[.str "fun",s.data,a.data]
 | .cs a b c=>[.str "cases",a.data,b.data,c.data]
theorem Te.data_eq (t:Te):t.data=.tuple t.items:=by cases t<;>rfl
noncomputable def Te.kids:Te→List (Te×Nat)
 | .at _=>[]
 | .one _ a _=>[(a,0)]
 | .two _ a b=>[(a,0),(b,0)]
 | .fn _ a=>[(a,1)]
 | .cs a b c=>[(a,0),(b,1),(c,1)]
noncomputable def Te.plc:Te→List Nat
 | .at _=>[]
 | .one _ _ _=>[1]
 | .two _ _ _=>[1,2]
 | .fn _ _=>[2]
 | .cs _ _ _=>[1,2,3]
noncomputable def Te.inn (t:Te):List (Nat×Nat):=List.zip t.plc (t.kids.map (·.2))
theorem Te.plc_len (t:Te):t.plc.length=t.kids.length:=by cases t<;>rfl
theorem Te.inn_len (t:Te):t.inn.length=t.kids.length:=by cases t<;>rfl
theorem Te.inn_at {t:Te} {i p m:Nat} (h:t.inn[i]?=some (p,m)):∃ k,t.kids[i]?=some (k,m)∧t.items[p]?=some k.data∧t.plc[i]?=some p∧1≤p∧p≤3:=by
 cases t with
 | «at» k=>cases i<;>cases h
 | one u a ss =>
  match i,h with
  | 0,h=>cases h;exact⟨a,rfl,rfl,rfl,by decide,by decide⟩
  | i+1,h=>cases i<;>cases h
 | two u a b =>
  match i,h with
  | 0,h=>cases h;exact⟨a,rfl,rfl,rfl,by decide,by decide⟩
  | 1,h=>cases h;exact⟨b,rfl,rfl,rfl,by decide,by decide⟩
  | i+2,h=>cases i<;>cases h
 | fn s a =>
  match i,h with
  | 0,h=>cases h;exact⟨a,rfl,rfl,rfl,by decide,by decide⟩
  | i+1,h=>cases i<;>cases h
 | cs a b c =>
  match i,h with
  | 0,h=>cases h;exact⟨a,rfl,rfl,rfl,by decide,by decide⟩
  | 1,h=>cases h;exact⟨b,rfl,rfl,rfl,by decide,by decide⟩
  | 2,h=>cases h;exact⟨c,rfl,rfl,rfl,by decide,by decide⟩
  | i+3,h=>cases i<;>cases h
noncomputable def Te.withK:Te→List Te→Te
 | .one u _ ss,[x]=>.one u x ss
 | .two u _ _,[x,y]=>.two u x y
 | .fn s _,[x]=>.fn s x
 | .cs _ _ _,[x,y,z]=>.cs x y z
 | t,_=>t
noncomputable def Zi8 {α:Type}:List α→List Nat→List α→List α
 | xs,p :: ps,y :: ys=>Zi8 (xs.set p y) ps ys
 | xs,_,_=>xs
theorem Te.withK_items {t:Te} {ks:List Te} (h:ks.length=t.kids.length):(t.withK ks).items=Zi8 t.items t.plc (ks.map Te.data):=by
 cases t with
 | «at» k=>cases ks<;>first | rfl | cases h
 | one u a ss=>match ks,h with | [x],_=>rfl
 | two u a b=>match ks,h with | [x,y],_=>rfl
 | fn s a=>match ks,h with | [x],_=>rfl
 | cs a b c=>match ks,h with | [x,y,z],_=>rfl
noncomputable def Te.size:Te→Nat
 | .at _=>1
 | .one _ a _=>1+a.size
 | .two _ a b=>1+a.size+b.size
 | .fn _ a=>1+a.size
 | .cs a b c=>1+a.size+b.size+c.size
noncomputable def Te.deep:Te→Nat
 | .at _=>1
 | .one _ a _=>1+a.deep
 | .two _ a b=>1+max a.deep b.deep
 | .fn _ a=>1+a.deep
 | .cs a b c=>1+max a.deep (max b.deep c.deep)
def Te.all (p:Tm→Prop):Te→Prop
 | .at _=>True
 | .one _ a ss=>a.all p∧∀ s∈ss,p s
 | .two _ a b=>a.all p∧b.all p
 | .fn s a=>p s∧a.all p
 | .cs a b c=>a.all p∧b.all p∧c.all p
theorem Zy6 (ss:List Tm):noLists (ss.map Tm.data)=true:=by
 induction ss with
 | nil=>rfl
 | cons s ss ih=>rw[List.map_cons,noLists,s.noList,ih];rfl
theorem Te.noList:∀ t:Te,L2.noList t.data=true
 | .at _=>rfl
 | .one u a ss=>by
  show (true&&(L2.noList a.data&&noLists (ss.map Tm.data)))=true;rw[a.noList,Zy6];rfl
 | .two u a b=>by
  show (true&&(L2.noList a.data&&(L2.noList b.data&&true)))=true;rw[a.noList,b.noList];rfl
 | .fn s a=>by
  show (true&&(L2.noList s.data&&(L2.noList a.data&&true)))=true;rw[a.noList,s.noList];rfl
 | .cs a b c=>by
  show (true&&(L2.noList a.data&&(L2.noList b.data&&(L2.noList c.data&&true))))=true;rw[a.noList,b.noList,c.noList];rfl
abbrev IsE (K:W.Frag) (H:Hp) (v:V) (t:Te):Prop:=Dn K H v t.data
theorem IsE.keep {K:W.Frag} {H H':Hp} {v:V} {t:Te} (h:IsE K H v t) (k:KeepT K H H'):IsE K H' v t:=Dn.keepT k t.noList h
section
variable {K:W.Frag} {H H':Hp} {v:V}
theorem dn_tup {ds:List PyData}:Dn K H v (.tuple ds)↔∃ a xs,v=.ref a∧SqT K H a xs∧DnAll K H xs ds:=by rw[Dn]
theorem isE_view {t:Te}:IsE K H v t↔∃ a xs,v=.ref a∧SqT K H a xs∧DnAll K H xs t.items:=by
 show Dn K H v t.data↔_;rw[t.data_eq,dn_tup]
theorem Zh5:∀ {ds:List PyData} {xs:List V} {i:Nat} {d:PyData},DnAll K H xs ds→ds[i]?=some d→∃ u,xs[i]?=some u∧Dn K H u d
 | [],xs,i,d,h,e=>by cases i<;>cases e
 | d0 :: ds,xs,i,d,h,e=>by
  rw[DnAll] at h;obtain⟨x,r,rfl,h1,h2⟩:=h
  cases i with
  | zero=>cases e;exact⟨x,rfl,h1⟩
  | succ i=>exact Zh5 (i:=i) h2 e
theorem Yk9:∀ {ds:List PyData} {xs:List V} (i:Nat) {d:PyData} {u:V},DnAll K H xs ds→Dn K H u d→DnAll K H (xs.set i u) (ds.set i d)
 | [],xs,i,d,u,h,e=>by
  rw[DnAll] at h;subst h;exact h_nil
 | d0 :: ds,xs,i,d,u,h,e=>by
  rw[DnAll] at h;obtain⟨x,r,rfl,h1,h2⟩:=h
  cases i with
  | zero=>rw[List.set_cons_zero,List.set_cons_zero,DnAll];exact⟨_,_,rfl,e,h2⟩
  | succ i=>rw[List.set_cons_succ,List.set_cons_succ,DnAll];exact⟨_,_,rfl,h1,Yk9 i h2 e⟩
where
 h_nil {K:W.Frag} {H:Hp}:DnAll K H [] []:=by rw[DnAll]
theorem dnAll_nil:DnAll K H [] []:=by rw[DnAll]
theorem dnAll_cons {x:V} {xs:List V} {d:PyData} {ds:List PyData} (h:Dn K H x d) (t:DnAll K H xs ds):DnAll K H (x :: xs) (d :: ds):=by rw[DnAll];exact⟨_,_,rfl,h,t⟩
theorem Zc8 {xs:List V} {d:PyData} {ds:List PyData} (h:DnAll K H xs (d :: ds)):∃ x r,xs=x :: r∧Dn K H x d∧DnAll K H r ds:=by rw[DnAll] at h;exact h
theorem dn_int {i:Int}:Dn K H v (.int i)↔v=.int i:=by rw[Dn]
theorem dn_str {x:Str}:Dn K H v (.str x)↔v=.str x:=by rw[Dn]
theorem Yj2:∀ {ps:List Nat} {us:List V} {ks:List Te} {xs:List V} {ds:List PyData},DnAll K H xs ds→Paired (IsE K H) us ks→DnAll K H (Zi8 xs ps us) (Zi8 ds ps (ks.map Te.data))
 | [],us,ks,xs,ds,h,_=>by cases us<;>cases ks<;>exact h
 | p :: ps,_,_,xs,ds,h,.nil=>h
 | p :: ps,_,_,xs,ds,h,.cons hu t=>by
  show DnAll K H (Zi8 (xs.set p _) ps _) (Zi8 (ds.set p _) ps _);exact Yj2 (Yk9 p h hu) t
theorem Xh8 (t:Te):∃ r,t.items=.str t.tag :: r:=by cases t<;>exact⟨_,rfl⟩
theorem Zl1 {t:Te} {xs:List V} (h:DnAll K H xs t.items):xs[0]?=some (.str t.tag):=by
 obtain⟨r,e⟩:=Xh8 t;rw[e] at h;obtain⟨x,l,rfl,h1,_⟩:=Zc8 h;rw[dn_str] at h1;subst h1;rfl
end
noncomputable abbrev Pf:=Te×Nat
noncomputable def Te.pre:Te→Nat→List Pf
 | .at k,f=>[(.at k,f)]
 | .one u a ss,f=>(.one u a ss,f) :: a.pre f
 | .two u a b,f=>(.two u a b,f) :: (a.pre f++b.pre f)
 | .fn s a,f=>(.fn s a,f) :: a.pre (f+1)
 | .cs a b c,f=>(.cs a b c,f) :: (a.pre f++(b.pre (f+1)++c.pre (f+1)))
noncomputable def preP (p:Pf):List Pf:=p.1.pre p.2
noncomputable def Zh7 (p:Pf):List Pf:=p.1.kids.map fun k=>(k.1,p.2+k.2)
theorem Zo2 (p:Pf):preP p=p :: (Zh7 p).flatMap preP:=by
 obtain⟨t,f⟩:=p
 cases t<;>simp[preP,Zh7,Te.pre,Te.kids]
theorem Ze2:∀ (t:Te) (f:Nat),(t.pre f).length=t.size
 | .at _,f=>rfl
 | .one _ a _,f=>by show (a.pre f).length+1=1+a.size;rw[Ze2 a];walk_at "o"
 | .two _ a b,f=>by show (a.pre f++b.pre f).length+1=1+a.size+b.size;rw[List.length_append,Ze2 a,Ze2 b];walk_at "o"
 | .fn _ a,f=>by show (a.pre (f+1)).length+1=1+a.size;rw[Ze2 a];walk_at "o"
 | .cs a b c,f=>by
  show (a.pre f++(b.pre (f+1)++c.pre (f+1))).length+1=1+a.size+b.size+c.size;rw[List.length_append,List.length_append,Ze2 a,Ze2 b,Ze2 c];walk_at "o"
theorem Xj5 {fs:List Pf} {a:Pf} {rest:List Pf} (h:fs.flatMap preP=preP a++rest):∃ fs',fs=a :: fs'∧fs'.flatMap preP=rest:=by
 cases fs with
 | nil=>rw[Zo2 a] at h;cases h
 | cons f fs =>
  have h':=h;rw[List.flatMap_cons,Zo2 f,Zo2 a] at h';have ef:f=a:=(List.cons.inj h').1;subst ef;rw[List.flatMap_cons] at h;exact⟨fs,rfl,List.append_cancel_left h⟩
theorem Yw3:∀ {ks fs:List Pf} {rest:List Pf},fs.flatMap preP=ks.flatMap preP++rest→∃ fs',fs=ks++fs'∧fs'.flatMap preP=rest
 | [],fs,rest,h=>⟨fs,rfl,h⟩
 | k :: ks,fs,rest,h=>by
  rw[List.flatMap_cons,List.append_assoc] at h;obtain⟨f1,rfl,h1⟩:=Xj5 h;obtain⟨f2,rfl,h2⟩:=Yw3 h1;exact⟨f2,rfl,h2⟩
theorem Yr0 {fs:List Pf} (h:fs.flatMap preP=[]):fs=[]:=by
 cases fs with
 | nil=>rfl
 | cons f fs=>rw[List.flatMap_cons,Zo2 f] at h;cases h
def Xa9 (l:List Pf):Prop:=∀ j,j < l.length→∃ p rest,l[j]?=some p∧l.drop j=preP p++rest
theorem Zz4 {a b:List Pf} (ha:Xa9 a) (hb:Xa9 b):Xa9 (a++b):=fun j h=>by
 by_cases hj:j < a.length
 ·obtain⟨p,rest,h1,h2⟩:=ha j hj
  exact⟨p,rest++b,by rw[List.getElem?_append_left hj];exact h1,by rw[List.drop_append_of_le_length (Nat.le_of_lt hj),h2,List.append_assoc]⟩
 ·rw[List.length_append] at h
  obtain⟨p,rest,h1,h2⟩:=hb (j - a.length) (by walk_at "o");refine⟨p,rest,by rw[List.getElem?_append_right (by walk_at "o")];exact h1,?_⟩;rw[List.drop_append,List.drop_of_length_le (by walk_at "o"),List.nil_append];exact h2
theorem Zk2 {p:Pf} {l:List Pf} (e:preP p=p :: l) (h:Xa9 l):Xa9 (preP p):=fun j hj=>by
 cases j with
 | zero=>exact⟨p,[],by rw[e];rfl,by rw[List.append_nil];rfl⟩
 | succ j =>
  rw[e] at hj ⊢;exact h j (by simpa using hj)
theorem Zj7:∀ (t:Te) (f:Nat),Xa9 (t.pre f)
 | .at k,f=>Zk2 (p:=(.at k,f)) rfl fun j h=>absurd h (Nat.not_lt_zero _)
 | .one u a ss,f=>Zk2 (p:=(.one u a ss,f)) rfl (Zj7 a f)
 | .two u a b,f=>Zk2 (p:=(.two u a b,f)) rfl (Zz4 (Zj7 a f) (Zj7 b f))
 | .fn s a,f=>Zk2 (p:=(.fn s a,f)) rfl (Zj7 a (f+1))
 | .cs a b c,f=>Zk2 (p:=(.cs a b c,f)) rfl (Zz4 (Zj7 a f) (Zz4 (Zj7 b (f+1)) (Zj7 c (f+1))))
noncomputable def Te.mp (F:Nat→Nat→Te):Te→Nat→Te
 | .at k,f=>F k f
 | .one u a ss,f=>.one u (a.mp F f) ss
 | .two u a b,f=>.two u (a.mp F f) (b.mp F f)
 | .fn s a,f=>.fn s (a.mp F (f+1))
 | .cs a b c,f=>.cs (a.mp F f) (b.mp F (f+1)) (c.mp F (f+1))
noncomputable def mpP (F:Nat→Nat→Te) (p:Pf):Te:=p.1.mp F p.2
theorem Xg4 (F:Nat→Nat→Te) (p:Pf) (h:∀ k,p.1≠.at k):mpP F p=p.1.withK ((Zh7 p).map (mpP F)):=by
 obtain⟨t,f⟩:=p
 cases t with
 | «at» k=>exact absurd rfl (h k)
 | one u a ss=>rfl
 | two u a b=>rfl
 | fn s a=>rfl
 | cs a b c=>rfl
theorem Zr1 (p:Pf):(Zh7 p).length=p.1.kids.length:=by unfold Zh7;rw[List.length_map]
noncomputable def Zb5 (n k f:Nat):Te:=.at (if f≤k then k+n else k)
noncomputable def putF (o:Te) (k f:Nat):Te:=if k=f then o.mp (Zb5 k) 0 else .at (if f < k then k - 1 else k)
end Ken
namespace L2
open PySem PySem.Spec PyProof.Rows
namespace RevT
theorem Yu9:Manifest.owners.lookup (String.ofList ['d','e','s','r','e','v','e','r'].reverse)=some Manifest.sig_reversed:=by kernel_rfl
theorem slot_next:Slot "reversed" "__next__" "reversed.__next__" :=
 .of (owner:="reversed") (n:="__next__") (by rw[typeLookup_type,builtinLookup_eq_fast];kernel_rfl) (by decide +kernel) (by decide +kernel) (by decide +kernel)
  (by first | exact .inl (by decide +kernel) | exact .inr (by decide +kernel)) (by rw[isSubtype_type];kernel_rfl)
theorem Yc4:entryFor table "reversed.__next__"=some Builtin.«reversed.__next__»:=entryFor_of_tree (by kernel_rfl)
theorem Ym4 (a:Value):argsOk "reversed.__next__" ⟨[a],[]⟩:=by
 unfold argsOk;rw[signature?_of (id:="reversed.__next__") (n:=['_','_','t','x','e','n','_','_']) (o:=['d','e','s','r','e','v','e','r']) (by kernel_rfl) Yu9];kernel_rfl
theorem Yi8:Slot "reversed" "__iter__" "reversed.__iter__" :=
 .of (owner:="reversed") (n:="__iter__") (by rw[typeLookup_type,builtinLookup_eq_fast];kernel_rfl) (by decide +kernel) (by decide +kernel) (by decide +kernel)
  (by first | exact .inl (by decide +kernel) | exact .inr (by decide +kernel)) (by rw[isSubtype_type];kernel_rfl)
theorem Xm2 (a:Value):argsOk "reversed.__iter__" ⟨[a],[]⟩:=by
 unfold argsOk;rw[signature?_of (id:="reversed.__iter__") (n:=['_','_','r','e','t','i','_','_']) (o:=['d','e','s','r','e','v','e','r']) (by kernel_rfl) Yu9];kernel_rfl
theorem Yz8:entryFor table "reversed.__iter__"=some Builtin.«dict_keyiterator.__iter__» :=
 entryFor_alias (id':="dict_keyiterator.__iter__") (by kernel_rfl) (by first | rfl | decide +kernel | (unfold String.splitOn;simp +decide [String.splitOnAux])) (by decide +kernel) (by kernel_rfl)
theorem Xd5:Slot "reversed" "__init__" "object.__init__" :=
 .of (owner:="object") (n:="__init__") (by rw[typeLookup_type,builtinLookup_eq_fast];kernel_rfl) (by decide +kernel) (by decide +kernel) (by decide +kernel)
  (by first | exact .inl (by decide +kernel) | exact .inr (by decide +kernel)) (by rw[isSubtype_type];kernel_rfl)
theorem Wk1:TypeCalled "reversed" "reversed.__new__" "object.__init__" :=
 ⟨by decide +kernel,by decide +kernel,⟨_,_,F.mro_reversed⟩,F.made_reversed,by decide +kernel,by rw[isSubtype_type];kernel_rfl,Xd5⟩
theorem Xb9:typeLookup (.type "tuple") "__reversed__"=pure none:=by rw[typeLookup_type,builtinLookup_eq_fast];kernel_rfl
theorem Yx2:isSubtype (.type "tuple") (.type "dict")=pure false:=by rw[isSubtype_type];kernel_rfl
noncomputable def rvObj (l:Addr) (i:Int):Obj:={ cls:=.type "reversed",data:=.fields #[.ref l,rawInt i] }
theorem Xm3 (obj:Value) (a:Value):argsOk "object.__init__" ⟨[obj,a],[]⟩:=F.args_object_init_2 obj a
section
variable {prog:Program} {w:World} {A:Around} {E:Value→Shared→Prop} {s:Shared}
theorem Xg5 (l:Addr) (items:Array Value):Meets (Builtin.«reversed.__new__» ⟨[.type "reversed",.ref l],[]⟩) (fun _ R s=>IsTup s.heap l items∧(items.size:Int) < 2 ^ 63 ∧
  R (.ok (.ret (.ref s.heap.objs.size))) { s with heap:=s.heap.push (rvObj l ((items.size:Int) - 1)),toks:=s.toks+1+1 }) :=
 .of_wp fun prog w A R s h=>by
  obtain⟨hl,hz,h⟩:=h;have hT:s.TypeIs (.ref l) "tuple":=hl.typeIs;unfold Builtin.«reversed.__new__»;refine wpAny_bind (wpAny_of_eq (newClass_reversed _) ?_)
  try dsimp only
  refine wpAny_bind (wpAny_of_eq (a:=()) (by first | rfl | kernel_rfl) ?_);refine wpAny_bind (wpAny_of_eq (a:=()) (by first | rfl | kernel_rfl) ?_)
  try dsimp only
  refine wpAny_bind (wpAny_specialOf hT Xb9 ?_)
  try dsimp only
  refine wpAny_bind ?_;show wpAny _ _ (isInstance (.ref l) (.type "dict") >>= _) _ _ _;refine wpAny_bind (wpAny_isInstance hT Yx2 ?_);rw[if_neg Bool.false_ne_true];refine wpAny_bind (wpAny_specialOf hT slot_tuple_getitem.lookup ?_);refine wpAny_pure ?_
  try dsimp only
  refine wpAny_bind (len_tuple hl hz ?_);refine wpAny_bind (wpAny_pure ?_);show wpAny _ _ (newObj (.type "reversed") (.fields #[.ref l,rawInt ((items.size:Int) - 1)]) >>= _) _ _ _;refine wpAny_bind (wpAny_newObj_type ?_ (hd:=by show 2≤sizeLine+2;decide));exact wpAny_pure ⟨_,rfl,h⟩
theorem call_rev {l:Addr} {items:Array Value} {Q:Value→Shared→Prop} (hl:IsTup s.heap l items) (hz:(items.size:Int) < 2 ^ 63)
  (h:Q (.ref s.heap.objs.size) { s with heap:=s.heap.push (rvObj l ((items.size:Int) - 1)),toks:=s.toks+1+1 }):wpAny (model prog w) A (call (.type "reversed") [.ref l]) Q E s :=
 callType_new Wk1 (by decide) (F.typeCall_reversed_1 _) (F.newCall_reversed_1 _) (fun obj=>Xm3 obj _) F.entry_reversed_new (Xg5 l items) ⟨hl,hz,⟨_,Heap.get?_push_size _ rfl,rfl⟩,h⟩
theorem iter_rev {it l:Addr} {i:Int} {Q:Value→Shared→Prop} (hit:s.heap.get? it=some (rvObj l i)) (h:Q (.ref it) s):wpAny (model prog w) A (pyIter (.ref it)) Q E s:=by
 have hT:s.TypeIs (.ref it) "reversed":=⟨_,hit,rfl⟩;refine wpAny_pyIter_slot hT Yi8 (wpAny_call_entry Yi8 hT Yz8 ?_ (Xm2 _));show wpAny _ _ (ret (.ref it)) _ _ s;exact wpAny_pure ⟨_,rfl,"reversed",_,hT,slot_next.lookup,h⟩
theorem next_item {it l:Addr} {i:Nat} {items:Array Value} {x:Value} {Q:Option Value→Shared→Prop} (hit:s.heap.get? it=some (rvObj l (i:Int))) (hl:IsTup s.heap l items) (hz:(items.size:Int) < 2 ^ 63) (hx:items[i]?=some x)
  (hQ:∀ h' tk,h'.get? it=some (rvObj l ((i:Int) - 1))→Heap.SameBut it s.heap h'→Q (some x) { s with heap:=h',toks:=tk }):wpAny (model prog w) A (pyNext (.ref it)) Q E s:=by
 have hT:s.TypeIs (.ref it) "reversed":=⟨_,hit,rfl⟩;have hTl:s.TypeIs (.ref l) "tuple":=hl.typeIs
 have hi:i < items.size:=by
  by_cases h:i < items.size
  ·exact h
  ·rw[Array.getElem?_eq_none (by walk_at "o")] at hx;cases hx
 unfold pyNext;refine wpAny_bind (wpAny_attempt (wpAny_callSpecial?_slot (name:=Str.ofString "__next__") hT slot_next (wpAny_call_entry slot_next hT Yc4 ?_ (Ym4 _))));unfold Builtin.«reversed.__next__»;refine wpAny_bind (wpAny_of_eq (a:=(Value.ref it,[])) rfl ?_)
 try dsimp only
 refine wpAny_bind (wpAny_field hit rfl (x:=.ref l) rfl ?_);refine wpAny_bind (wpAny_field hit rfl (x:=rawInt (i:Int)) rfl ?_);show wpAny _ _ (if (i:Int) < 0 then _ else _) _ _ s;rw[if_neg (by walk_at "o")];refine wpAny_bind (wpAny_specialOf hTl slot_tuple_getitem.lookup ?_);show wpAny _ _ (if (some (Value.builtin "tuple.__getitem__")).isNone=true then _ else _) _ _ _;rw[if_neg (by simp)];refine wpAny_bind (wpAny_mkInt ?_);refine wpAny_bind (wpAny_attempt (getItem_tuple (j:=i) (x:=x) hl (by walk_at "o") (by walk_at "o") (by unfold seqIndex?;simp;walk_at "o") hx ?_))
 try dsimp only
 refine wpAny_bind (wpAny_field (s:={ s with toks:=_ }) hit rfl (x:=rawInt (i:Int)) rfl ?_);show wpAny _ _ (setField (.ref it) 1 (rawInt ((i:Int) - 1)) >>= _) _ _ _;refine wpAny_bind (wpAny_setField_rec (s:={ s with toks:=_ }) hit (by simp) fun h' hI sb=>wpAny_pure ⟨x,rfl,wpAny_pure (hQ h' _ hI sb)⟩)
theorem next_end {it l:Addr} {Q:Option Value→Shared→Prop} (hh:A.handled=none) (hit:s.heap.get? it=some (rvObj l (-1)))
  (hQ:∀ h',Heap.ExtBut it s.heap h'→Q none { s with heap:=h' }):wpAny (model prog w) A (pyNext (.ref it)) Q E s:=by
 have hT:s.TypeIs (.ref it) "reversed":=⟨_,hit,rfl⟩;unfold pyNext;refine wpAny_bind (wpAny_attempt (wpAny_callSpecial?_slot (name:=Str.ofString "__next__") hT slot_next (wpAny_call_entry slot_next hT Yc4 ?_ (Ym4 _))));unfold Builtin.«reversed.__next__»;refine wpAny_bind (wpAny_of_eq (a:=(Value.ref it,[])) rfl ?_)
 try dsimp only
 refine wpAny_bind (wpAny_field hit rfl (x:=.ref l) rfl ?_);refine wpAny_bind (wpAny_field hit rfl (x:=rawInt (-1)) rfl ?_);show wpAny _ _ (if (-1:Int) < 0 then _ else _) _ _ s;rw[if_pos (by decide)];refine wpAny_bind (wpAny_rule ?_);refine wpAny_bind ?_;show wpAny _ _ (setField (.ref it) 1 (rawInt (-1)) >>= _) _ _ _;refine wpAny_bind (wpAny_setField_rec hit (by simp) fun h1 hI1 sb1=>?_);refine wpAny_setField_rec hI1 (by simp) fun h2 hI2 sb2=>?_;refine wpAny_bind (Zw7 (A:=A.in1) hh fun h' e k ⟨oe,he,hc⟩=>wpAny_bind (wpAny_isInstance ⟨oe,he,hc⟩ isSubtype_stop ?_));rw[if_pos rfl];exact wpAny_pure (hQ h' fun b ob hb eb=>k b ob ((sb2.2 b hb).trans ((sb1.2 b hb).trans eb)))
end
end RevT
noncomputable def ItvT (K:W.Frag) (a:Addr) (n:Nat):It :=
 ⟨fun i H=>i < n∧∃ xs x,SqT K H a xs∧xs[n - 1 - i]?=some x,fun i H x H'=>H'=H∧∀ xs,SqT K H a xs→xs[n - 1 - i]?=some x,fun i _=>i=n⟩
theorem Xb5 {P:Program} {w:World} {K:W.Frag} {tg:Expr} (a it:Addr) (n:Nat):Turn P w K tg (ItvT K a n) [it] it (fun i h=>h.get? it=some (RevT.rvObj a ((n:Int) - 1 - (i:Int)))) where
  mem:=by simp
  obj:=fun i h st b hb=>by
    have e:b=it:=by simpa using hb
    subst e
    exact⟨_,st,fun v z=>by
      have z':Data.fields _=Data.cell v:=z
      cases z'⟩
  keep:=fun i h h' st k=>k it (by simp) _ st
  item:=by
    intro X hP hw hK hc i pins s σ H E I hf st hg;subst hP hw hK;obtain⟨hi,xs,x,hq,hx⟩:=hg;obtain⟨its,rv,p,hz⟩:=I.tuple hq;obtain⟨u,hu,ru⟩:=rv.get hx;obtain⟨f0,f1,f2,f3,f4,f5⟩:=hf it (by simp)
    have en:(n:Int) - 1 - (i:Int)=((n - 1 - i:Nat):Int):=by walk_at "o"
    rw[en] at st;have hn:=Zu3;have hlen:=rv.length;refine RevT.next_item st p (by rw[List.size_toArray];walk_at "o") (x:=u) (by simpa using hu) fun h' tk st' sb=>?_;have I1:Inv X pins σ H { s with heap:=h',toks:=tk }:=I.turned (t':=tk) (fun b o hb e=>(sb.2 b hb).trans e) f0 f1 f3 f4 f5
    have en2:((n - 1 - i:Nat):Int) - 1=(n:Int) - 1 - ((i+1:Nat):Int):=by walk_at "o"
    rw[en2] at st';exact⟨u,rfl,Xj0 (s:={ s with heap:=h',toks:=tk }) (n:="reversed") st' rfl rfl (by decide) ⟨x,H,I1,ru,⟨rfl,fun ys hy=>by rw[I.tuple_inj hy hq];exact hx⟩,st',fun b hb=>(hf b hb).1⟩⟩
  done:=by
    intro X hP hw hK hc i pins s σ H E I hf st hg;subst hP hw hK;have hg':i=n:=hg;subst hg';obtain⟨f0,f1,f2,f3,f4,f5⟩:=hf it (by simp)
    have en:(i:Int) - 1 - (i:Int)=-1:=by walk_at "o"
    rw[en] at st;exact RevT.next_end (I.ok.hd hc) st fun h' eb=>⟨rfl,I.turned (t':=s.toks) (fun b o hb e=>eb b o hb e) f0 f1 f3 f4 f5⟩
  self:=fun _ _ _ _ _ st h=>RevT.iter_rev st h
def Yq3 (K:W.Frag) (ta:TA):TI:=fun σ H R=>ta σ H fun vs H1=>∃ a xs,vs=[.ref a]∧SqT K H1 a xs∧R (ItvT K a xs.length) H1
def Yq4 (ta:TA):TI:=fun σ H R=>ta σ H fun vs H1=>∃ n:Nat,vs=[.int (n:Nat)]∧n≤1000000∧R (Itd ((n:Int) - 1) n) H1
section
variable {X:Cx}
theorem Xw4 {tg e:Expr} {ta:TA} {p pos:Pos} (hg:Gl X "reversed") (hm:X.mg "reversed"=none) (ha:PA X [e] ta) (hs:starEach [e] X.env=[(false,eval e X.env)]:=by rfl) :
  PI X tg (.Call (.Name "reversed" p) [e] [] pos) (Yq3 X.K ta):=by with_unfolding_all
 intro pins s σ H R I h;refine Call_ (Zn7 I hg hm (by first | exact PySem.boot_reversed | rfl) (PyProof.Rows.callWith_type1 (thn (ha pos pins s σ H _ I h) fun us s1 ⟨vs,H1,I1,r1,q1⟩=>?_) (by rw[hs];rfl) rfl));obtain⟨l,xs,e,q1,q⟩:=q1;subst e;obtain⟨u1,rfl,ru1⟩:=r1.one;cases ru1;obtain⟨its1,rv1,p1,hz1⟩:=I1.tuple q1;have hlen:=rv1.length;have hn:=Zu3;refine RevT.call_rev p1 (by rw[List.size_toArray];walk_at "o") ?_;have hit:Heap.get? (s1.heap.push (RevT.rvObj l ((its1.toArray.size:Int) - 1))) s1.heap.objs.size=some (RevT.rvObj l ((its1.toArray.size:Int) - 1)):=Heap.get?_push_size _ rfl;refine RevT.iter_rev hit ?_;have I2:Inv X pins σ H1 { s1 with heap:=s1.heap.push (RevT.rvObj l ((its1.toArray.size:Int) - 1)),toks:=s1.toks+1+1 }:=I1.kept (t':=s1.toks+1+1) fun b o e=>Heap.get?_push_of_some _ e
 have en:((its1.toArray.size:Nat):Int) - 1=(xs.length:Int) - 1 - ((0:Nat):Int):=by rw[List.size_toArray];walk_at "o"
 rw[en] at hit;rw[en] at I2;rw[en];refine⟨_,_,_,_,H1,rfl,I2,Xb5 l _ xs.length,hit,fun b hb=>?_,q⟩
 have e:b=s1.heap.objs.size:=by simpa using hb
 subst e;exact I1.fpOk (Nat.le_refl _) (I1.hok.fresh (Nat.le_refl _))
end
theorem Xq4 {K:W.Frag} {a:Addr} {xs:List V} {g:TG} {tb:TS} {D:Ends} {σ:St} {H:Hp} (Pv:Nat→St→Hp→Prop) (h0:Pv 0 σ H) (hl:∀ i σ H,i≤xs.length→Pv i σ H→SqT K H a xs)
  (hs:∀ i x σ H,i < xs.length→xs[xs.length - 1 - i]?=some x→Pv i σ H→g x σ H fun σ2 H2=>tb { D with nx:=Pv (i+1),ct:=Pv (i+1),bk:=D.nx } σ2 H2) (hd:∀ σ H,Pv xs.length σ H→D.nx σ H) :
  ∃ W:Nat→Nat→St→Hp→Prop,(∃ m,W 0 m σ H)∧∀ i m σ H,W i m σ H →
   ((ItvT K a xs.length).stop i H∧D.nx σ H)∨((ItvT K a xs.length).go i H∧∃ N:St→Hp→Prop,(∀ σ' H',N σ' H'→∃ m',m' < m∧W (i+1) m' σ' H')∧∀ x H',(ItvT K a xs.length).yld i H x H'→g x σ H' fun σ2 H2=>tb { D with nx:=N,ct:=N,bk:=D.nx } σ2 H2):=by
 refine⟨fun i m σ H=>m=xs.length - i∧i≤xs.length∧Pv i σ H,⟨xs.length,by simp,Nat.zero_le _,h0⟩,?_⟩;rintro i m σ H ⟨rfl,hi,p⟩;have q:=hl i σ H hi p
 by_cases hlt:i < xs.length
 ·refine .inr ⟨⟨hlt,xs,xs[xs.length - 1 - i],q,List.getElem?_eq_getElem (by walk_at "o")⟩,Pv (i+1),fun σ' H' p'=>⟨xs.length - (i+1),by walk_at "o",rfl,hlt,p'⟩,fun x H' y=>?_⟩
  obtain⟨e,y⟩:=y;subst e;exact hs i x σ _ hlt (y xs q) p
 ·have e:i=xs.length:=by walk_at "o"
  subst e;exact .inl ⟨rfl,hd _ _ p⟩
open Ken
open AutoSeq1 (wpAny_loadPart')
namespace RevT
theorem Yx6:isSubtype (.type "range_iterator") (.type "reversed")=pure false:=by rw[isSubtype_type];kernel_rfl
section
variable {prog:Program} {w:World} {A:Around} {E:Value→Shared→Prop} {s:Shared}
theorem Yb1 {r:Addr} {n:Nat} {t u v:Tok} {Q:Value→Shared→Prop} (hr:IsRange s.heap r 0 (n:Nat) 1 t u v) (hn:n≤1000000)
  (h:Q (.ref s.heap.objs.size) { s with heap:=s.heap.push { cls:=.type "range_iterator",data:=.fields #[rawInt ((n:Int) - 1),rawInt (n:Int),rawInt (-1)] } }) :
  wpAny (model prog w) A (call (.builtin "range.__reversed__") [.ref r]) Q E s:=by
 have hT:s.TypeIs (.ref r) "range":=⟨_,hr,rfl⟩
 have sz:Builtin.Range.rangeSize 0 (n:Int) 1=(n:Int):=by rw[rangeSize_one];split<;>walk_at "o"
 have e1:(0:Int)+((n:Int) - 1)*1=(n:Int) - 1:=by walk_at "o"
 have sm:(Builtin.Range.rangeFitsLong 0&&Builtin.Range.rangeFitsLong (n:Int)&&Builtin.Range.rangeFitsLong 1&&Builtin.Range.rangeFitsLong (-1)&&Builtin.Range.rangeFitsLong (0 - 1)&&Builtin.Range.rangeFitsLong (n:Int))=true:=by
  simp only[Builtin.Range.rangeFitsLong,Bool.and_eq_true,decide_eq_true_eq];walk_at "o"
 refine wpAny_call_entry F.slot_range_reversed hT F.entry_range_reversed ?_ (F.args_range_reversed_1 _);unfold Builtin.«range.__reversed__»;refine wpAny_bind (wpAny_of_eq (a:=Value.ref r) rfl ?_)
 have rf:∀ {Q:Int×Int×Int→Shared→Prop} {A:Around} {E:Value→Shared→Prop},Q (0,(n:Int),1) s→wpAny (model prog w) A (Builtin.Range.rangeFields (.ref r)) Q E s:=fun {Q A E} q=>by
  obtain⟨hp,g,d,tk,os⟩:=s
  wp_walk using wpAny_loadPart' hr
  exact q
 refine wpAny_bind (rf ?_);dsimp only;rw[sz,sm,e1];show wpAny _ _ (newObj (.type "range_iterator") (.fields #[rawInt ((n:Int) - 1),rawInt (n:Int),rawInt (-1)]) >>= _) _ _ _;exact wpAny_bind (wpAny_newObj_type (wpAny_pure ⟨_,rfl,h⟩) (hd:=by show 3≤sizeLine+2;decide))
theorem Yb0 {r:Addr} {n:Nat} {t u v:Tok} {Q₁:Value→Shared→Prop} (hr:IsRange s.heap r 0 (n:Nat) 1 t u v) (hn:n≤1000000)
  (h:Q₁ (.ref s.heap.objs.size) { s with heap:=s.heap.push { cls:=.type "range_iterator",data:=.fields #[rawInt ((n:Int) - 1),rawInt (n:Int),rawInt (-1)] } }) :
  codeAny (model prog w) A (.call (.builtin "reversed.__new__") ⟨[.type "reversed",.ref r],[]⟩) (wants Q₁ E) s:=by
 have hT:s.TypeIs (.ref r) "range":=⟨_,hr,rfl⟩;refine codeAny_of_tree ?_;show wpAny _ A.in1 (do checkBuiltinCall "reversed.__new__" ⟨[.type "reversed",.ref r],[]⟩;again (.builtin "reversed.__new__" ⟨[.type "reversed",.ref r],[]⟩)) _ _ s;refine wpAny_bind (wpAny_of_eq (F.newCall_reversed_1 _) (wpAny_pure ⟨plainId_quiet F.plain_reversed_new _,codeAny_builtin F.entry_reversed_new ?_⟩));rw[Around.under_plainId F.plain_reversed_new _];unfold Builtin.«reversed.__new__»;refine wpAny_bind (wpAny_of_eq (newClass_reversed _) ?_)
 try dsimp only
 refine wpAny_bind (wpAny_of_eq (a:=()) (by first | rfl | kernel_rfl) ?_);refine wpAny_bind (wpAny_of_eq (a:=()) (by first | rfl | kernel_rfl) ?_)
 try dsimp only
 refine wpAny_bind (wpAny_specialOf hT F.slot_range_reversed.lookup ?_)
 try dsimp only
 refine wpAny_bind (wpAny_of_eq (F.slot_range_reversed.bind _) ?_)
 try dsimp only
 first
 | rw[if_neg (show ¬ ((Value.builtin "range.__reversed__" == Value.none)=true) from Bool.false_ne_true)]
 | (show wpAny _ _ (if (Value.builtin "range.__reversed__" == Value.none)=true then _ else _) _ _ _;rw[if_neg (show ¬ ((Value.builtin "range.__reversed__" == Value.none)=true) from Bool.false_ne_true)])
 refine wpAny_bind (wpAny_rule ?_);refine wpAny_bind (m:=runValue (.call (.builtin "range.__reversed__") ⟨[.ref r],[]⟩)) (show wpAny _ _ (call (.builtin "range.__reversed__") [.ref r]) _ _ _ from Yb1 hr hn ?_)
 first
 | exact wpAny_pure h
 | exact wpAny_bind (wpAny_pure (wpAny_pure h))
theorem call_rev_range {r:Addr} {n:Nat} {t u v:Tok} {Q:Value→Shared→Prop} (hr:IsRange s.heap r 0 (n:Nat) 1 t u v) (hn:n≤1000000)
  (h:Q (.ref s.heap.objs.size) { s with heap:=s.heap.push { cls:=.type "range_iterator",data:=.fields #[rawInt ((n:Int) - 1),rawInt (n:Int),rawInt (-1)] } }) :
  wpAny (model prog w) A (call (.type "reversed") [.ref r]) Q E s:=by
 refine callType_other (U:="range_iterator") (Q₁:=fun obj s₁=>obj=.ref s.heap.objs.size∧s₁={ s with heap:=s.heap.push { cls:=.type "range_iterator",data:=.fields #[rawInt ((n:Int) - 1),rawInt (n:Int),rawInt (-1)] } }) (by decide +kernel) F.create_reversed ⟨_,_,F.mro_reversed⟩ F.made_reversed Yx6 (F.typeCall_reversed_1 _) (Yb0 hr hn ⟨rfl,rfl⟩) ?_;rintro obj s₁ ⟨rfl,rfl⟩;exact⟨⟨_,Heap.get?_push_size _ rfl,rfl⟩,h⟩
end
end RevT
section
variable {X:Cx}
theorem Xw5 {tg e:Expr} {ta:TA} {p p2 pos pos2:Pos} (hg:Gl X "reversed") (hm:X.mg "reversed"=none) (hg2:Gl X "range") (hm2:X.mg "range"=none) (ha:PA X [e] ta)
  (he:starEach [e] X.env=[(false,eval e X.env)]:=by rfl) (he2:starEach [.Call (.Name "range" p2) [e] [] pos2] X.env=[(false,eval (.Call (.Name "range" p2) [e] [] pos2) X.env)]:=by rfl) :
  PI X tg (.Call (.Name "reversed" p) [.Call (.Name "range" p2) [e] [] pos2] [] pos) (Yq4 ta):=by with_unfolding_all
 intro pins s σ H R I h;refine Call_ (Zn7 I hg hm (by first | exact PySem.boot_reversed | rfl) ?_);refine PyProof.Rows.callWith_type1 ?_ he2 rfl;rw[he2];show wpAny _ _ (spliced ((false,eval (.Call (.Name "range" p2) [e] [] pos2) X.env) :: backTo pos (starEach [] X.env))) _ _ s;refine Calls.spliced_cons (wpAny_Call_Name_kw (Zn7 I hg2 hm2 PyProof.Rows.boot_range ?_));refine PyProof.Rows.callWith_type1 (thn (ha pos2 pins s σ H _ I h) fun us s1 ⟨vs,H1,I1,r1,q1⟩=>?_) he rfl;obtain⟨n,rfl,hn,q⟩:=q1
 cases r1 with
 | cons r rr =>
  cases rr;obtain⟨tk,rfl⟩:=r;refine call_range_1 (Calls.spliced_nil ?_);have I2:Inv X pins σ H1 { s1 with heap:=s1.heap.push { cls:=.type "range",data:=.fields #[.int 0 s1.toks,.int (n:Nat) tk,.int 1 (s1.toks+1)] },toks:=s1.toks+1+1 }:=I1.kept fun b o e=>Heap.get?_push_of_some _ e;refine RevT.call_rev_range (n:=n) (t:=s1.toks) (u:=tk) (v:=s1.toks+1) (IsRange.new ..) hn ?_;generalize (s1.heap.push { cls:=.type "range",data:=.fields #[.int 0 s1.toks,.int (n:Nat) tk,.int 1 (s1.toks+1)] }:Heap)=g at I2;have hit:IsRangeIter (g.push { cls:=.type "range_iterator",data:=.fields #[rawInt ((n:Int) - 1),rawInt (n:Int),rawInt (-1)] }) g.objs.size ((n:Int) - 1) (n:Int) (-1):=Heap.get?_push_size _ rfl;refine wpAny_pyIter_rangeiter hit ?_;have I3:Inv X pins σ H1 { s1 with heap:=g.push { cls:=.type "range_iterator",data:=.fields #[rawInt ((n:Int) - 1),rawInt (n:Int),rawInt (-1)] },toks:=s1.toks+1+1 }:=I2.kept (t':=s1.toks+1+1) fun b o e=>Heap.get?_push_of_some _ e;refine⟨_,_,_,_,H1,rfl,I3,Xb8 _ ((n:Int) - 1) n,?_,fun b hb=>?_,q⟩
  ·have e1:(n:Int) - 1+((0:Nat):Int)*(-1)=(n:Int) - 1:=by walk_at "o"
   have e2:(n:Int) - ((0:Nat):Int)=(n:Int):=by walk_at "o"
   show IsRangeIter _ _ ((n:Int) - 1+((0:Nat):Int)*(-1)) ((n:Int) - ((0:Nat):Int)) (-1);rw[e1,e2];exact hit
  ·have e:b=g.objs.size:=by simpa using hb
   subst e;exact I2.fpOk (Nat.le_refl _) (I2.hok.fresh (Nat.le_refl _))
end
noncomputable abbrev Zp2 (l:Addr):Obj:={ cls:=Value.type "tuple_iterator",data:=Data.fields #[Value.ref l,Value.int 0 0] }
section
variable {prog:Program} {w:World} {A:Around} {E:Value→Shared→Prop} {s:Shared}
theorem Zv0 {it l:Addr} {i:Nat} {items:Array Value} {x:Value} {Q:Value→Shared→Prop} (hit:s.heap.IsListIter it l i) (hl:s.heap.IsList l items) (hx:items[i]?=some x)
  (hQ:∀ h',h'.IsListIter it l (i+1)→Heap.SameBut it s.heap h'→Q x { s with heap:=h' }):wpAny (model prog w) A (Builtin.SmallTypes.nextOf (Value.ref it)) Q E s:=by
 obtain⟨o,ho,hc,hd⟩:=id hit;obtain⟨ol,hol,_,nl,hdl⟩:=hl;show wpAny _ _ (callSpecial? (Value.ref it) (Str.ofString "__next__") >>= _) _ _ _;refine wpAny_bind (wpAny_callSpecial?_slot (Heap.IsListIter.typeIs hit) slot_listiter_next (wpAny_call_entry slot_listiter_next (Heap.IsListIter.typeIs hit) entry_listiter_next ?_ (args_listiter_next (Value.ref it))));show wpAny _ _ (field (Value.ref it) 0 >>= _) _ _ _;refine wpAny_bind (wpAny_field ho hd rfl ?_);dsimp only;rw[if_neg (show ¬ (#[Value.ref l,Value.int (↑i) 0][0] == Value.none)=true from Bool.false_ne_true)];refine wpAny_bind (wpAny_field ho hd rfl ?_);show wpAny _ _ (seqItems? (Value.ref l) >>= _) _ _ _;refine wpAny_bind (wpAny_seqItems hol hdl ?_);dsimp only;rw[show items[((i:Int)).toNat]?=some x from hx];refine wpAny_bind (wpAny_setField ho hd (by simp) (wpAny_pure ⟨x,rfl,wpAny_pure (hQ _ ⟨_,Heap.get?_update_self _ ho (Obj.isFreed_of_fields (Obj.data_mapFields hd _)),(Obj.cls_mapFields o _).trans hc,?_⟩ (Heap.SameBut.update s.heap it _))⟩));rw[Obj.data_mapFields hd];rfl
theorem Ya4 {z TI TO i1 i2 l1 l2:Addr} {k1 k2:Nat} {xs ys:Array Value} {x y a b:Value} {Q:Value→Shared→Prop} (D:ZipApart z TI TO i1 i2 l1 l2) (hz:IsZip s.heap z TI TO .none) (hTI:IsPair s.heap TI (.ref i1) (.ref i2)) (hTO:IsPair s.heap TO a b)
  (h1:s.heap.IsTupleIter i1 l1 k1) (h2:s.heap.IsListIter i2 l2 k2) (hl1:s.heap.IsTuple l1 xs) (hl2:s.heap.IsList l2 ys) (hx:xs[k1]?=some x) (hy:ys[k2]?=some y)
  (hQ:∀ h',IsZip h' z TI TO (rawInt ↑s.heap.objs.size)→IsPair h' TO x y→h'.IsTupleIter i1 l1 (k1+1)→h'.IsListIter i2 l2 (k2+1)→IsPair h' s.heap.objs.size x y→h'.objs.size=s.heap.objs.size+1 →
   (∀ c o,c≠z→c≠TO→c≠i1→c≠i2→s.heap.get? c=some o→h'.get? c=some o)→Q (.ref s.heap.objs.size) { s with heap:=h' }) :
  wpAny (model prog w) A (Builtin.«zip.__next__» { pos:=[.ref z] }) (fun fin s'=>∃ v,fin=Fin.done (Flow.ret v)∧Q v s') E s:=by
 show wpAny _ _ (field (Value.ref z) 2 >>= _) _ _ _;refine wpAny_bind (wpAny_field hz rfl rfl ?_);show wpAny _ _ (field (Value.ref z) 3 >>= _) _ _ _;refine wpAny_bind (wpAny_field hz rfl rfl ?_);refine wpAny_bind (wpAny_seqItems hTI rfl ?_);show wpAny _ _ (Builtin.SmallTypes.ownedTupleIsFree (Value.ref z) >>= _) _ _ _;refine wpAny_bind ?_;show wpAny _ _ (field (Value.ref z) 0 >>= _) _ _ _;refine wpAny_bind (wpAny_field hz rfl rfl (wpAny_pure ?_));dsimp only;rw[if_pos rfl];refine wpAny_bind (wpAny_rule (wpAny_bind (wpAny_field hz rfl rfl ?_)));show wpAny _ _ (setField (Value.ref z) 0 Value.ellipsis >>= _) _ _ _;refine wpAny_bind (wpAny_setField_rec hz (by simp) fun g1 z1 sb1=>?_);simp only[List.zipIdx_cons,List.zipIdx_nil,List.forIn_cons,List.forIn_nil];have nxt:∀ {g g':Heap} {c:Addr},Heap.SameBut c g g'→Heap.ExtBut c g g':=fun sb b o hb e=>(sb.2 b hb).trans e;have tupK:∀ {g g':Heap} {c t:Addr} {vs:Array Value},Heap.SameBut c g g'→t≠c→g.IsTuple t vs→g'.IsTuple t vs:=fun sb hne ⟨o,e,r⟩=>⟨o,(sb.2 _ hne).trans e,r⟩;have lstK:∀ {g g':Heap} {c t:Addr} {vs:Array Value},Heap.SameBut c g g'→t≠c→g.IsList t vs→g'.IsList t vs:=fun sb hne ⟨o,e,r⟩=>⟨o,(sb.2 _ hne).trans e,r⟩;have h11:=h1.extBut (nxt sb1) D.i1z;have h21:=h2.extBut (nxt sb1) D.i2z;have hl11:=tupK sb1 D.l1z hl1;have hl21:=lstK sb1 D.l2z hl2;have hTO1:IsPair g1 TO a b:=(sb1.2 TO D.TOz).trans hTO;refine wpAny_bind (wpAny_bind (wpAny_bind (wpAny_onRaise ?_)));show wpAny _ _ (Builtin.SmallTypes.nextOf (Value.ref i1) >>= _) _ _ _;refine wpAny_bind (Zt2 (s:={ s with heap:=g1 }) h11 hl11 hx fun g2 h12 sb2=>wpAny_pure ?_);have h22:=h21.extBut (nxt sb2) D.i12.symm;have hl22:=lstK sb2 D.l2i1 hl21;have hTO2:IsPair g2 TO a b:=(sb2.2 TO D.TOi1).trans hTO1;have z2:=(sb2.2 z D.i1z.symm).trans z1;refine wpAny_bind (wpAny_seqItems hTO2 rfl ?_);refine wpAny_bind (wpAny_updateSeq_pair (s:={ s with heap:=g2 }) hTO2 fun g3 hTO3 sb3=>wpAny_bind (wpAny_letGo (wpAny_pure ?_)));have hTO3':IsPair g3 TO x b:=hTO3;have h13:=h12.extBut (nxt sb3) D.TOi1.symm;have h23:=h22.extBut (nxt sb3) D.TOi2.symm;have hl23:=lstK sb3 D.l2TO hl22;have z3:=(sb3.2 z D.TOz.symm).trans z2;refine wpAny_bind (wpAny_bind (wpAny_onRaise ?_));show wpAny _ _ (Builtin.SmallTypes.nextOf (Value.ref i2) >>= _) _ _ _;refine wpAny_bind (Zv0 (s:={ s with heap:=g3 }) h23 hl23 hy fun g4 h24 sb4=>wpAny_pure ?_);have h14:=h13.extBut (nxt sb4) D.i12;have hTO4:IsPair g4 TO x b:=(sb4.2 TO D.TOi2).trans hTO3';have z4:=(sb4.2 z D.i2z.symm).trans z3;refine wpAny_bind (wpAny_seqItems hTO4 rfl ?_);refine wpAny_bind (wpAny_updateSeq_pair (s:={ s with heap:=g4 }) hTO4 fun g5 hTO5 sb5=>wpAny_bind (wpAny_letGo (wpAny_pure (wpAny_pure ?_))));have hTO5':IsPair g5 TO x y:=hTO5;have h15:=h14.extBut (nxt sb5) D.TOi1.symm;have h25:=h24.extBut (nxt sb5) D.TOi2.symm;have z5:=(sb5.2 z D.TOz.symm).trans z4
 have hs1:g5.objs.size=s.heap.objs.size:=by rw[sb5.1,sb4.1,sb3.1,sb2.1,sb1.1]
 refine wpAny_bind (wpAny_seqItems hTO5' rfl ?_);refine wpAny_bind (wpAny_newTuple (s:={ s with heap:=g5 }) ?_ (by show 2≤sizeLine;decide));have z6:(g5.push { cls:=Value.type "tuple",data:=Data.seq #[x,y] }).get? z=_:=Heap.get?_push_of_some _ z5;show wpAny _ _ (Builtin.SmallTypes.ownedTupleHandOut (Value.ref z) (Value.ref g5.objs.size) >>= _) _ _ _;refine wpAny_bind ?_;show wpAny _ _ (setField (Value.ref z) 0 (rawInt (g5.objs.size:Int)) >>= _) _ _ _;refine wpAny_bind (wpAny_setField_rec z6 (by simp) fun g7 z7 sb7=>wpAny_setField_rec z7 (by simp) fun g8 z8 sb8=>wpAny_pure ⟨_,rfl,?_⟩);have ltz:z < s.heap.objs.size:=Heap.lt_size hz;have k8:∀ c o,c≠z→(g5.push { cls:=Value.type "tuple",data:=Data.seq #[x,y] }).get? c=some o→g8.get? c=some o:=fun c o hc e=>(sb8.2 c hc).trans ((sb7.2 c hc).trans e);have kp:∀ c o,c≠z→g5.get? c=some o→g8.get? c=some o:=fun c o hc e=>k8 c o hc (Heap.get?_push_of_some _ e)
 have nz:g5.objs.size≠z:=by rw[hs1];exact (Nat.ne_of_lt ltz).symm
 have e56:(g5.push { cls:=Value.type "tuple",data:=Data.seq #[x,y] }).get? g5.objs.size=some { cls:=Value.type "tuple",data:=Data.seq #[x,y] }:=Heap.get?_push_size _ rfl;have q:=hQ g8 (by rw[← hs1];exact z8) (kp TO _ D.TOz hTO5') (h15.at fun o e=>kp i1 o D.i1z e) (h25.at fun o e=>kp i2 o D.i2z e) (by rw[← hs1];exact k8 _ _ nz e56)
  (by rw[sb8.1,sb7.1,Heap.size_push,hs1]) (fun c o n1 n2 n3 n4 e=>kp c o n1 ((sb5.2 c n2).trans ((sb4.2 c n4).trans ((sb3.2 c n2).trans ((sb2.2 c n3).trans ((sb1.2 c n1).trans e))))))
 rw[← hs1] at q;exact q
theorem Yd2 {z TI TO i1 i2 l1 l2:Addr} {k1 k2:Nat} {xs ys:Array Value} {a b:Value} {Q:PySem.Fin→Shared→Prop} (hh:A.handled=none) (D:ZipApart z TI TO i1 i2 l1 l2) (hz:IsZip s.heap z TI TO .none) (hTI:IsPair s.heap TI (.ref i1) (.ref i2)) (hTO:IsPair s.heap TO a b)
  (h1:s.heap.IsTupleIter i1 l1 k1) (h2:s.heap.IsListIter i2 l2 k2) (hl1:s.heap.IsTuple l1 xs) (hl2:s.heap.IsList l2 ys) (hx:xs[k1]?=none)
  (hE:∀ h' e,(∀ c o,c≠z→c≠TO→c≠i1→c≠i2→s.heap.get? c=some o→h'.get? c=some o)→(∃ o,h'.get? e=some o∧o.cls=.type "StopIteration")→E (.ref e) { s with heap:=h' }) :
  wpAny (model prog w) A (Builtin.«zip.__next__» { pos:=[.ref z] }) Q E s:=by
 show wpAny _ _ (field (Value.ref z) 2 >>= _) _ _ _;refine wpAny_bind (wpAny_field hz rfl rfl ?_);show wpAny _ _ (field (Value.ref z) 3 >>= _) _ _ _;refine wpAny_bind (wpAny_field hz rfl rfl ?_);refine wpAny_bind (wpAny_seqItems hTI rfl ?_);show wpAny _ _ (Builtin.SmallTypes.ownedTupleIsFree (Value.ref z) >>= _) _ _ _;refine wpAny_bind ?_;show wpAny _ _ (field (Value.ref z) 0 >>= _) _ _ _;refine wpAny_bind (wpAny_field hz rfl rfl (wpAny_pure ?_));dsimp only;rw[if_pos rfl];refine wpAny_bind (wpAny_rule (wpAny_bind (wpAny_field hz rfl rfl ?_)));show wpAny _ _ (setField (Value.ref z) 0 Value.ellipsis >>= _) _ _ _;refine wpAny_bind (wpAny_setField_rec hz (by simp) fun g1 z1 sb1=>?_);simp only[List.zipIdx_cons,List.zipIdx_nil,List.forIn_cons,List.forIn_nil];have nxt:∀ {g g':Heap} {c:Addr},Heap.SameBut c g g'→Heap.ExtBut c g g':=fun sb b o hb e=>(sb.2 b hb).trans e;have tupK:∀ {g g':Heap} {c t:Addr} {vs:Array Value},Heap.SameBut c g g'→t≠c→g.IsTuple t vs→g'.IsTuple t vs:=fun sb hne ⟨o,e,r⟩=>⟨o,(sb.2 _ hne).trans e,r⟩;have h11:=h1.extBut (nxt sb1) D.i1z;have hl11:=tupK sb1 D.l1z hl1;refine wpAny_bind (wpAny_bind (wpAny_bind (wpAny_onRaise ?_)));show wpAny _ _ (Builtin.SmallTypes.nextOf (Value.ref i1) >>= _) _ _ _;refine wpAny_bind (Zu9 (s:={ s with heap:=g1 }) hh h11 hl11 hx fun g2 e eb zq=>?_);obtain⟨oe,he,hce⟩:=zq;have z2:=eb z _ D.i1z.symm z1;refine wpAny_setField_rec (s:={ s with heap:=g2 }) z2 (by simp) fun g3 z3 sb3=>?_
 have nez:e≠z:=fun w=>by
  rw[w,z2] at he;cases he;injection hce with q;exact absurd q (by decide)
 exact hE g3 e (fun c o n1 n2 n3 n4 ee=>(sb3.2 c n1).trans (eb c o n3 ((sb1.2 c n1).trans ee))) ⟨oe,(sb3.2 e nez).trans he,hce⟩
end
noncomputable abbrev Yk3 (l:Addr):Obj:={ cls:=Value.type "list_iterator",data:=Data.fields #[Value.ref l,Value.int 0 0] }
theorem Ya8 (l1 l2:Addr) (xs ys:Array Value):Meets (Builtin.«zip.__new__» { pos:=[Value.type "zip",Value.ref l1,Value.ref l2] }) fun x R s =>
  s.heap.IsTuple l1 xs∧s.heap.IsList l2 ys∧(∀ g:Heap,g=((((s.heap.push (Zp2 l1)).push (Yk3 l2)).push { cls:=Value.type "tuple",data:=Data.seq #[Value.ref s.heap.objs.size,Value.ref (s.heap.objs.size+1)] }).push { cls:=Value.type "tuple",data:=Data.seq #[Value.none,Value.none] }).push
    { cls:=Value.type "zip",data:=Data.fields #[Value.none,Value.bool false,Value.bool false,Value.ref (s.heap.objs.size+2),Value.ref (s.heap.objs.size+3)] } →
   R (Except.ok (Flow.ret (Value.ref (s.heap.objs.size+4)))) { s with heap:=g }) :=
 Meets.of_wp fun prog w A R s h=>by
  obtain⟨hl1,hl2,h⟩:=h;have hsub:=sub_zip;show wpAny _ _ (Builtin.SmallTypes.newClass "zip" { pos:=[Value.type "zip",Value.ref l1,Value.ref l2] } >>= _) _ _ _;refine wpAny_bind ?_;unfold Builtin.SmallTypes.newClass;show wpAny _ _ (isType (Value.type "zip") >>= _) _ _ _;refine wpAny_bind (wpAny_of_eq (show isType (Value.type "zip")=pure true from rfl) ?_);dsimp only;refine wpAny_ite_false rfl ?_;refine wpAny_bind (wpAny_of_eq hsub ?_);refine wpAny_ite_false rfl (wpAny_pure ?_);dsimp only;refine wpAny_ite_false rfl ?_;show wpAny _ _ (Builtin.SmallTypes.iterAll [Value.ref l1,Value.ref l2] >>= _) _ _ _;refine wpAny_bind ?_;unfold Builtin.SmallTypes.iterAll;simp only[List.forIn_cons,List.forIn_nil]
  have hl2':(s.heap.push (Zp2 l1)).IsList l2 ys:=by
   obtain⟨o,e,r⟩:=hl2;exact⟨o,Heap.get?_push_of_some _ e,r⟩
  refine wpAny_bind (wpAny_bind (wpAny_bind (wpAny_holding (wpAny_pyIter_tuple hl1 (wpAny_pure ?_)))));refine wpAny_bind (wpAny_bind (wpAny_holding (wpAny_pyIter_list (s:={ s with heap:=s.heap.push (Zp2 l1) }) hl2' (wpAny_pure (wpAny_pure (wpAny_pure ?_))))));refine wpAny_bind (wpAny_newTuple ?_ (by show 2≤sizeLine;decide));refine wpAny_bind (wpAny_newTuple ?_ (by show 2≤sizeLine;decide));dsimp only;refine wpAny_bind ?_;unfold Builtin.SmallTypes.newRecord;refine wpAny_newObj_type (wpAny_pure ⟨_,rfl,?_⟩) (hd:=by first | exact True.intro | (unfold sizeOk;first | exact True.intro | (show ¬ (5 > sizeLine);decide) | (simp[Builtin.SmallTypes.ownedTupleFields];done) | (simp[Builtin.SmallTypes.ownedTupleFields,sizeLine];done)));dsimp only;have e1:(s.heap.push (Zp2 l1)).objs.size=s.heap.objs.size+1:=Heap.size_push _ _
  have e2:((s.heap.push (Zp2 l1)).push (Yk3 l2)).objs.size=s.heap.objs.size+2:=by rw[Heap.size_push,e1]
  have e3:∀ o,(((s.heap.push (Zp2 l1)).push (Yk3 l2)).push o).objs.size=s.heap.objs.size+3:=fun o=>by rw[Heap.size_push,e2]
  have e4:∀ o o',((((s.heap.push (Zp2 l1)).push (Yk3 l2)).push o).push o').objs.size=s.heap.objs.size+4:=fun o o'=>by rw[Heap.size_push,e3]
  have q:=h _ rfl;simp only[Heap.size_push] at q ⊢;exact q
theorem Xa0 {prog:Program} {w:World} {A:Around} {E:Value→Shared→Prop} {s:Shared} {l1 l2:Addr} {xs ys:Array Value} {Q:Value→Shared→Prop} (hl1:s.heap.IsTuple l1 xs) (hl2:s.heap.IsList l2 ys)
  (h:∀ h':Heap,IsZip h' (s.heap.objs.size+4) (s.heap.objs.size+2) (s.heap.objs.size+3) Value.none→IsPair h' (s.heap.objs.size+2) (Value.ref s.heap.objs.size) (Value.ref (s.heap.objs.size+1))→IsPair h' (s.heap.objs.size+3) Value.none Value.none →
   h'.IsTupleIter s.heap.objs.size l1 0→h'.IsListIter (s.heap.objs.size+1) l2 0→h'.objs.size=s.heap.objs.size+5→(∀ c o,s.heap.get? c=some o→h'.get? c=some o)→Q (Value.ref (s.heap.objs.size+4)) { s with heap:=h' }) :
  wpAny (model prog w) A (call (Value.type "zip") [Value.ref l1,Value.ref l2]) Q E s:=by
 refine callType_new F.called_zip (by decide) (F.typeCall_zip_2 _ _) (F.newCall_zip_2 _ _) (fun obj=>F.args_object_init_3 obj _ _) F.entry_zip_new (Ya8 l1 l2 xs ys) ⟨hl1,hl2,fun g hg=>?_⟩;have z1:(s.heap.push (Zp2 l1)).objs.size=s.heap.objs.size+1:=Heap.size_push _ _
 have z2:((s.heap.push (Zp2 l1)).push (Yk3 l2)).objs.size=s.heap.objs.size+2:=by rw[Heap.size_push,z1]
 have a0:(s.heap.push (Zp2 l1)).get? s.heap.objs.size=some (Zp2 l1):=Heap.get?_push_size _ rfl
 have a1:((s.heap.push (Zp2 l1)).push (Yk3 l2)).get? (s.heap.objs.size+1)=some (Yk3 l2):=by rw[← z1];exact Heap.get?_push_size _ rfl
 generalize hp1:(s.heap.push (Zp2 l1)).push (Yk3 l2)=p1 at hg z2 a1
 have a0':p1.get? s.heap.objs.size=some (Zp2 l1):=by rw[← hp1];exact Heap.get?_push_of_some _ a0
 have k1:∀ c o,s.heap.get? c=some o→p1.get? c=some o:=fun c o e=>by rw[← hp1];exact Heap.get?_push_of_some _ (Heap.get?_push_of_some _ e)
 generalize ho2:({ cls:=Value.type "tuple",data:=Data.seq #[Value.ref s.heap.objs.size,Value.ref (s.heap.objs.size+1)] }:Obj)=o2 at hg;generalize ho3:({ cls:=Value.type "tuple",data:=Data.seq #[Value.none,Value.none] }:Obj)=o3 at hg;generalize ho4:({ cls:=Value.type "zip",data:=Data.fields #[Value.none,Value.bool false,Value.bool false,Value.ref (s.heap.objs.size+2),Value.ref (s.heap.objs.size+3)] }:Obj)=o4 at hg
 have z3:(p1.push o2).objs.size=s.heap.objs.size+3:=by rw[Heap.size_push,z2]
 have z4:((p1.push o2).push o3).objs.size=s.heap.objs.size+4:=by rw[Heap.size_push,z3]
 have z5:g.objs.size=s.heap.objs.size+5:=by rw[hg,Heap.size_push,z4]
 have g4:g.get? (s.heap.objs.size+4)=some o4:=by rw[hg,← z4];exact Heap.get?_push_size _ (by rw[← ho4];rfl)
 have g3:g.get? (s.heap.objs.size+3)=some o3:=by rw[hg,← z3];exact Heap.get?_push_of_some _ (Heap.get?_push_size _ (by rw[← ho3];rfl))
 have g2:g.get? (s.heap.objs.size+2)=some o2:=by rw[hg,← z2];exact Heap.get?_push_of_some _ (Heap.get?_push_of_some _ (Heap.get?_push_size _ (by rw[← ho2];rfl)))
 have kk:∀ c o,p1.get? c=some o→g.get? c=some o:=fun c o e=>by rw[hg];exact Heap.get?_push_of_some _ (Heap.get?_push_of_some _ (Heap.get?_push_of_some _ e))
 refine⟨⟨_,g4,by rw[← ho4]⟩,?_⟩;exact h g (g4.trans (by rw[← ho4])) (g2.trans (by rw[← ho2])) (g3.trans (by rw[← ho3])) ⟨_,kk _ _ a0',rfl,rfl⟩ ⟨_,kk _ _ a1,rfl,rfl⟩ z5 fun c o e=>kk c o (k1 c o e)
section
variable {prog:Program} {w:World} {A:Around} {E:Value→Shared→Prop} {s:Shared}
theorem Zu8 {z TI TO i1 i2 l1 l2:Addr} {k1 k2:Nat} {xs ys:Array Value} {x y a b:Value} {Q:Option Value→Shared→Prop} (D:ZipApart z TI TO i1 i2 l1 l2) (hz:IsZip s.heap z TI TO .none) (hTI:IsPair s.heap TI (.ref i1) (.ref i2)) (hTO:IsPair s.heap TO a b)
  (h1:s.heap.IsTupleIter i1 l1 k1) (h2:s.heap.IsListIter i2 l2 k2) (hl1:s.heap.IsTuple l1 xs) (hl2:s.heap.IsList l2 ys) (hx:xs[k1]?=some x) (hy:ys[k2]?=some y)
  (hQ:∀ h',IsZip h' z TI TO (rawInt ↑s.heap.objs.size)→IsPair h' TO x y→h'.IsTupleIter i1 l1 (k1+1)→h'.IsListIter i2 l2 (k2+1)→IsPair h' s.heap.objs.size x y→h'.objs.size=s.heap.objs.size+1 →
   (∀ c o,c≠z→c≠TO→c≠i1→c≠i2→s.heap.get? c=some o→h'.get? c=some o)→Q (some (.ref s.heap.objs.size)) { s with heap:=h' }) :
  wpAny (model prog w) A (pyNext (.ref z)) Q E s:=by
 have hT:s.TypeIs (.ref z) "zip":=⟨_,hz,rfl⟩;exact id (wpAny_bind (wpAny_attempt (wpAny_callSpecial?_slot hT F.slot_zip_next (wpAny_call_entry F.slot_zip_next hT F.entry_zip_next (Ya4 D hz hTI hTO h1 h2 hl1 hl2 hx hy fun h' a1 a2 a3 a4 a5 a6 a7=>wpAny_pure (hQ h' a1 a2 a3 a4 a5 a6 a7)) (F.args_zip_next_1 (.ref z))))))
theorem Zx8 {z TI TO i1 i2 l1 l2:Addr} {k1 k2:Nat} {xs ys:Array Value} {a b:Value} {Q:Option Value→Shared→Prop} (hh:A.handled=none) (D:ZipApart z TI TO i1 i2 l1 l2) (hz:IsZip s.heap z TI TO .none) (hTI:IsPair s.heap TI (.ref i1) (.ref i2)) (hTO:IsPair s.heap TO a b)
  (h1:s.heap.IsTupleIter i1 l1 k1) (h2:s.heap.IsListIter i2 l2 k2) (hl1:s.heap.IsTuple l1 xs) (hl2:s.heap.IsList l2 ys) (hx:xs[k1]?=none)
  (hQ:∀ h',(∀ c o,c≠z→c≠TO→c≠i1→c≠i2→s.heap.get? c=some o→h'.get? c=some o)→Q none { s with heap:=h' }) :
  wpAny (model prog w) A (pyNext (.ref z)) Q E s:=by
 have hT:s.TypeIs (.ref z) "zip":=⟨_,hz,rfl⟩
 exact id (wpAny_bind (wpAny_attempt (wpAny_callSpecial?_slot hT F.slot_zip_next (wpAny_call_entry F.slot_zip_next hT F.entry_zip_next (Yd2 hh D hz hTI hTO h1 h2 hl1 hl2 hx fun h' e hk ⟨o,ho,hc⟩ =>
  wpAny_bind (wpAny_isInstance ⟨o,ho,hc⟩ isSubtype_stop (wpAny_pure (hQ h' hk)))) (F.args_zip_next_1 (.ref z))))))
end
noncomputable def ItzX (K:W.Frag) (a b:Addr):It :=
  ⟨fun i H=>∃ xs ys x y,SqT K H a xs∧SqL K H b ys∧xs[i]?=some x∧ys[i]?=some y,
   fun i H v H'=>∃ T x y,v=.ref T∧H T=none∧H'=upd H T (.tup [x,y])∧(∀ xs,SqT K H a xs→xs[i]?=some x)∧∀ ys,SqL K H b ys→ys[i]?=some y,
   fun i H=>∃ xs ys,SqT K H a xs∧SqL K H b ys∧xs.length≤i⟩
def Wa8 (z TI TO i1 i2 l1 l2:Addr) (i:Nat) (h:Heap):Prop :=
 IsZip h z TI TO .none∧IsPair h TI (.ref i1) (.ref i2)∧(∃ a b,IsPair h TO a b)∧h.IsTupleIter i1 l1 i∧h.IsListIter i2 l2 i
theorem Xb4 {P:Program} {w:World} {K:W.Frag} {elts:List Expr} {k0:Nat} {tpos:Pos} (z TI TO i1 i2 l1 l2:Addr) (D:ZipApart z TI TO i1 i2 l1 l2) :
    Turn P w K (.Tuple elts k0 tpos) (ItzX K l1 l2) [z,TI,TO,i1,i2] z (Wa8 z TI TO i1 i2 l1 l2) where
  mem:=by simp
  obj:=fun i h st b hb=>by
    obtain⟨hz,hTI,⟨a,c,hTO⟩,⟨o1,e1,c1,d1⟩,⟨o2,e2,c2,d2⟩⟩:=st;simp only[List.mem_cons,List.not_mem_nil,or_false] at hb;rcases hb with rfl | rfl | rfl | rfl | rfl
    · exact⟨_,hz,fun v q=>by cases q⟩
    · exact⟨_,hTI,fun v q=>by cases q⟩
    · exact⟨_,hTO,fun v q=>by cases q⟩
    · exact⟨o1,e1,fun v q=>by rw[d1] at q;cases q⟩
    · exact⟨o2,e2,fun v q=>by rw[d2] at q;cases q⟩
  keep:=fun i h h' st k=>by
    obtain⟨hz,hTI,⟨a,c,hTO⟩,h1,h2⟩:=st;exact⟨k z (by simp) _ hz,k TI (by simp) _ hTI,⟨a,c,k TO (by simp) _ hTO⟩,h1.at fun o e=>k i1 (by simp) o e,h2.at fun o e=>k i2 (by simp) o e⟩
  item:=by
    intro X hP hw hK hc i pins s σ H E I hf st hg;subst hP hw hK;obtain⟨hz,hTI,⟨a,c,hTO⟩,h1,h2⟩:=st;obtain⟨xs,ys,x,y,q1,q2,hx,hy⟩:=hg;obtain⟨its1,rv1,p1,_⟩:=I.tuple q1;obtain⟨its2,rv2,p2,_⟩:=I.list q2;obtain⟨u1,hu1,ru1⟩:=rv1.get hx;obtain⟨u2,hu2,ru2⟩:=rv2.get hy;refine Zu8 D hz hTI hTO h1 h2 (show s.heap.IsTuple l1 its1.toArray from p1) p2.isList (x:=u1) (y:=u2) (by simpa using hu1) (by simpa using hu2) fun h' a1 a2 a3 a4 a5 a6 kk=>?_;have hT:H s.heap.objs.size=none:=I.hok.fresh (Nat.le_refl _)
    have nch:∀ b u,H b=some u→b ∉ [z,TO,i1,i2]:=fun b u e hb=>by
      have hb':b∈[z,TI,TO,i1,i2]:=by
        simp only[List.mem_cons,List.not_mem_nil,or_false] at hb ⊢;rcases hb with q | q | q | q
        · exact .inl q
        · exact .inr (.inr (.inl q))
        · exact .inr (.inr (.inr (.inl q)))
        · exact .inr (.inr (.inr (.inr q)))
      rw[(hf b hb').1] at e;cases e
    have kk':∀ b o,b ∉ [z,TO,i1,i2]→s.heap.get? b=some o→h'.get? b=some o:=fun b o hb e=>by
      simp only[List.mem_cons,List.not_mem_nil,or_false,not_or] at hb;exact kk b o hb.1 hb.2.1 hb.2.2.1 hb.2.2.2 e
    have ltT:∀ b o,s.heap.get? b=some o→b≠s.heap.objs.size:=fun b o e=>Nat.ne_of_lt (Heap.lt_size e)
    have hokT:HOk X.prog X.w (upd H s.heap.objs.size (.tup [x,y])) h':=fun b ob e=>by
      by_cases hb:b=s.heap.objs.size
      · subst hb
        rw[Za5] at e;cases e;exact⟨by show 2≤sizeLine;decide,[u1,u2],.cons ru1 (.cons ru2 .nil),_,a5,rfl,_,rfl⟩
      · rw[Zb0 hb] at e
        refine (I.hok b ob e).stay (fun c v hcv q=>kk' c v ?_ q) (fun c q=>by rw[Zb0 (Za9 q hT)];exact q) fun c xs q=>by rw[Zb0 (Za9 q hT)];exact q
        rcases hcv with rfl | hcv
        · exact nch _ _ e
        · exact nch _ _ hcv
    have I1:Inv X pins σ (upd H s.heap.objs.size (.tup [x,y])) { s with heap:=h' }:=by
      refine I.step (g':=s.gens) (d':=s.drawn) (t':=s.toks) (ch:=[z,TO,i1,i2]) (fun b hb=>?_) (fun b o _ _ hb e _=>kk' b o hb e) (fun b o _ _ hb e _=>⟨o.slots,kk' b o hb e⟩) (fun b o _ e n=>by rw[Zb0 (ltT b o e)];exact n) (fun b o hb e=>⟨o,kk' b o hb e⟩)
        (fun b xs q=>by rw[Zb0 (Za9 q hT)];exact q) (fun b o u q=>by rw[Zb0 (Za9 q hT)];exact q) (fun b ps q=>⟨#[],by rw[Zb0 (Za9 q hT),q];simp⟩) (fun m hm=>?_) hokT I.bare
      · have hb':b∈[z,TI,TO,i1,i2]:=by
          simp only[List.mem_cons,List.not_mem_nil,or_false] at hb ⊢;rcases hb with q | q | q | q
          · exact .inl q
          · exact .inr (.inr (.inl q))
          · exact .inr (.inr (.inr (.inl q)))
          · exact .inr (.inr (.inr (.inr q)))
        obtain⟨f0,f1,f2,f3,f4,f5⟩:=hf b hb';exact⟨f3,f1,f4,f5⟩
      · obtain⟨o,es,ep,ho,r⟩:=hm
        refine⟨o,es,ep,kk' _ o ?_ ho,r⟩;simp only[List.mem_cons,List.not_mem_nil,or_false,not_or];exact⟨((hf z (by simp)).2.1).symm,((hf TO (by simp)).2.1).symm,((hf i1 (by simp)).2.1).symm,((hf i2 (by simp)).2.1).symm⟩
    refine⟨_,rfl,wpAny_letOwnedTupleGo_zip a1 fun h'' hz'' sb=>?_⟩;obtain⟨f0,f1,f2,f3,f4,f5⟩:=hf z (by simp)
    have ltz:∀ b∈[z,TI,TO,i1,i2],b≠s.heap.objs.size:=fun b hb=>by
      simp only[List.mem_cons,List.not_mem_nil,or_false] at hb;obtain⟨o1,e1,_⟩:=h1;obtain⟨o2,e2,_⟩:=h2;rcases hb with rfl | rfl | rfl | rfl | rfl
      · exact ltT _ _ hz
      · exact ltT _ _ hTI
      · exact ltT _ _ hTO
      · exact ltT _ _ e1
      · exact ltT _ _ e2
    have fn:∀ b∈[z,TI,TO,i1,i2],upd H s.heap.objs.size (.tup [x,y]) b=none:=fun b hb=>by rw[Zb0 (ltz b hb)];exact (hf b hb).1
    have I2:Inv X pins σ (upd H s.heap.objs.size (.tup [x,y])) { s with heap:=h'' }:=I1.turned (t':=s.toks) (fun b o hb e=>(sb.2 b hb).trans e) (fn z (by simp)) f1 f3 f4 f5;refine⟨.ref s.heap.objs.size,_,I2,rfl,⟨_,x,y,rfl,hT,rfl,fun ys hy'=>by rw[I.tuple_inj hy' q1];exact hx,fun ys hy'=>by rw[I.list_inj hy' q2];exact hy⟩,⟨hz'',?_,⟨u1,u2,?_⟩,?_,?_⟩,fn⟩
    · exact (sb.2 TI D.TIz).trans (kk' TI _ (by simp only[List.mem_cons,List.not_mem_nil,or_false,not_or];exact⟨D.TIz,D.TITO,D.TIi1,D.TIi2⟩) hTI)
    · exact (sb.2 TO D.TOz).trans a2
    · exact a3.extBut sb.extBut D.i1z
    · exact a4.extBut sb.extBut D.i2z
  done:=by
    intro X hP hw hK hc i pins s σ H E I hf st hg;subst hP hw hK;obtain⟨hz,hTI,⟨a,c,hTO⟩,h1,h2⟩:=st;obtain⟨xs,ys,q1,q2,hend⟩:=hg;obtain⟨its1,rv1,p1,_⟩:=I.tuple q1;obtain⟨its2,rv2,p2,_⟩:=I.list q2;have e1:=rv1.length;have e2:=rv2.length;refine Zx8 (I.ok.hd hc) D hz hTI hTO h1 h2 (show s.heap.IsTuple l1 its1.toArray from p1) p2.isList ?_ fun h' kk=>⟨rfl,?_⟩
    · simp;walk_at "o"
    · have nch:∀ b u,H b=some u→b ∉ [z,TO,i1,i2]:=fun b u e hb=>by
        have hb':b∈[z,TI,TO,i1,i2]:=by
          simp only[List.mem_cons,List.not_mem_nil,or_false] at hb ⊢;rcases hb with q | q | q | q
          · exact .inl q
          · exact .inr (.inr (.inl q))
          · exact .inr (.inr (.inr (.inl q)))
          · exact .inr (.inr (.inr (.inr q)))
        rw[(hf b hb').1] at e;cases e
      have kk':∀ b o,b ∉ [z,TO,i1,i2]→s.heap.get? b=some o→h'.get? b=some o:=fun b o hb e=>by
        simp only[List.mem_cons,List.not_mem_nil,or_false,not_or] at hb;exact kk b o hb.1 hb.2.1 hb.2.2.1 hb.2.2.2 e
      have hok':HOk X.prog X.w H h':=fun b ob e=>by
        refine (I.hok b ob e).stay (fun c v hcv q=>kk' c v ?_ q) (fun c q=>q) fun c xs q=>q;rcases hcv with rfl | hcv
        · exact nch _ _ e
        · exact nch _ _ hcv
      refine I.step (g':=s.gens) (d':=s.drawn) (t':=s.toks) (ch:=[z,TO,i1,i2]) (fun b hb=>?_) (fun b o _ _ hb e _=>kk' b o hb e) (fun b o _ _ hb e _=>⟨o.slots,kk' b o hb e⟩) (fun b o _ e n=>n) (fun b o _ e=>?_)
        (fun b xs q=>q) (fun b o u q=>q) (fun b ps q=>⟨#[],by rw[q];simp⟩) (fun m hm=>?_) hok' I.bare
      · have hb':b∈[z,TI,TO,i1,i2]:=by
          simp only[List.mem_cons,List.not_mem_nil,or_false] at hb ⊢;rcases hb with q | q | q | q
          · exact .inl q
          · exact .inr (.inr (.inl q))
          · exact .inr (.inr (.inr (.inl q)))
          · exact .inr (.inr (.inr (.inr q)))
        obtain⟨f0,f1,f2,f3,f4,f5⟩:=hf b hb';exact⟨f3,f1,f4,f5⟩
      · rename_i hb
        exact⟨o,kk' b o hb e⟩
      · obtain⟨o,es,ep,ho,r⟩:=hm
        refine⟨o,es,ep,kk' _ o ?_ ho,r⟩;simp only[List.mem_cons,List.not_mem_nil,or_false,not_or];exact⟨((hf z (by simp)).2.1).symm,((hf TO (by simp)).2.1).symm,((hf i1 (by simp)).2.1).symm,((hf i2 (by simp)).2.1).symm⟩
  self:=fun _ _ _ _ _ st h=>wpAny_pyIter_zip st.1 h
section
variable {X:Cx}
def Yq1 (K:W.Frag) (ta:TA):TI:=fun σ H R=>ta σ H fun vs H1=>∃ a b,vs=[.ref a,.ref b]∧(∃ xs,SqT K H1 a xs)∧(∃ ys,SqL K H1 b ys)∧R (ItzX K a b) H1
theorem Xw3 {a b:Expr} {ta:TA} {p pos:Pos} {elts:List Expr} {k0:Nat} {tpos:Pos} (hg:Gl X "zip") (hm:X.mg "zip"=none) (ha:PA X [a,b] ta) (hs:starEach [a,b] X.env=[(false,eval a X.env),(false,eval b X.env)]:=by rfl) (hs2:starEach [b] X.env=[(false,eval b X.env)]:=by rfl) :
  PI X (.Tuple elts k0 tpos) (.Call (.Name "zip" p) [a,b] [] pos) (Yq1 X.K ta):=by with_unfolding_all
 intro pins s σ H R I h;refine Call_ (Zn7 I hg hm (by first | exact PySem.boot_zip | rfl) (PyProof.Rows.callWith_type1 (thn (ha pos pins s σ H _ I h) fun us s1 ⟨vs,H1,I1,r1,q1⟩=>?_) (by rw[hs,hs2]) (by rw[hs2];rfl)));obtain⟨l1,l2,e,⟨xs,q1⟩,⟨ys,q2⟩,q⟩:=q1;subst e;obtain⟨u1,u2,rfl,ru1,ru2⟩:=Xu9 r1;cases ru1;cases ru2;obtain⟨its1,rv1,p1,_⟩:=I1.tuple q1;obtain⟨its2,rv2,p2,_⟩:=I1.list q2;have a1:l1 < s1.heap.objs.size:=p1.lt;have a2:l2 < s1.heap.objs.size:=(show l2 < s1.heap.objs.size by obtain⟨o,e,_⟩:=p2.isList;exact Heap.lt_size e);refine Xa0 (show s1.heap.IsTuple l1 its1.toArray from p1) p2.isList fun h' hz hTI hTO hi1 hi2 _ hk=>wpAny_pyIter_zip hz ?_;have I2:Inv X pins σ H1 { s1 with heap:=h' }:=I1.kept (t':=s1.toks) hk;refine⟨_,_,_,_,H1,rfl,I2,Xb4 _ _ _ _ _ l1 l2 (zipApart_new a1 a2),⟨hz,hTI,⟨_,_,hTO⟩,hi1,hi2⟩,fun b hb=>?_,q⟩
 have hb':s1.heap.objs.size≤b:=by
  simp only[List.mem_cons,List.not_mem_nil,or_false] at hb
  rcases hb with rfl | rfl | rfl | rfl | rfl<;>walk_at "o"
 exact I1.fpOk hb' (I1.hok.fresh hb')
end
theorem Xq3 {K:W.Frag} {a b:Addr} {xs ys:List V} {g:TG} {tb:TS} {D:Ends} {σ:St} {H:Hp} (Pv:Nat→St→Hp→Prop) (hxy:xs.length=ys.length) (h0:Pv 0 σ H) (hl:∀ i σ H,i≤xs.length→Pv i σ H→SqT K H a xs∧SqL K H b ys)
  (hs:∀ i x y σ H T,i < xs.length→xs[i]?=some x→ys[i]?=some y→H T=none→Pv i σ H→g (.ref T) σ (upd H T (.tup [x,y])) fun σ2 H2=>tb { D with nx:=Pv (i+1),ct:=Pv (i+1),bk:=D.nx } σ2 H2) (hd:∀ σ H,Pv xs.length σ H→D.nx σ H) :
  ∃ W:Nat→Nat→St→Hp→Prop,(∃ m,W 0 m σ H)∧∀ i m σ H,W i m σ H →
   ((ItzX K a b).stop i H∧D.nx σ H)∨((ItzX K a b).go i H∧∃ N:St→Hp→Prop,(∀ σ' H',N σ' H'→∃ m',m' < m∧W (i+1) m' σ' H')∧∀ x H',(ItzX K a b).yld i H x H'→g x σ H' fun σ2 H2=>tb { D with nx:=N,ct:=N,bk:=D.nx } σ2 H2):=by
 refine⟨fun i m σ H=>m=xs.length - i∧i≤xs.length∧Pv i σ H,⟨xs.length,by simp,Nat.zero_le _,h0⟩,?_⟩;rintro i m σ H ⟨rfl,hi,p⟩;obtain⟨q1,q2⟩:=hl i σ H hi p
 by_cases hlt:i < xs.length
 ·refine .inr ⟨⟨xs,ys,xs[i],ys[i],q1,q2,by simp[hlt],by simp[hxy▸hlt]⟩,Pv (i+1),fun σ' H' p'=>⟨xs.length - (i+1),by walk_at "o",rfl,hlt,p'⟩,fun x H' y=>?_⟩
  obtain⟨T,x,y,rfl,hT,rfl,z1,z2⟩:=y;exact hs i x y σ H T hlt (z1 xs q1) (z2 ys q2) hT p
 ·have e:i=xs.length:=by walk_at "o"
  subst e;exact .inl ⟨⟨xs,ys,q1,q2,Nat.le_refl _⟩,hd _ _ p⟩
def Rise (xs:Array Nat):Prop:=xs.toList.Pairwise (· < ·)
theorem Rise.lt {xs:Array Nat} (h:Rise xs) {i j a b:Nat} (hij:i < j) (ha:xs[i]?=some a) (hb:xs[j]?=some b):a < b:=by
 rw[← Array.getElem?_toList] at ha hb;obtain⟨h1,rfl⟩:=List.getElem?_eq_some_iff.mp ha;obtain⟨h2,rfl⟩:=List.getElem?_eq_some_iff.mp hb;exact List.pairwise_iff_getElem.mp h i j h1 h2 hij
structure Cut (xs:Array Nat) (j c:Nat):Prop where
 le:c≤xs.size
 lo:∀ i a,i < c→xs[i]?=some a→a < j
 hi:∀ i a,c≤i→xs[i]?=some a→j≤a
theorem Xj1 {xs:Array Nat} (h:Rise xs) (j:Nat):∀ (n lo hi:Nat),hi - lo≤n→lo≤hi→hi≤xs.size→(∀ i a,i < lo→xs[i]?=some a→a < j)→(∀ i a,hi≤i→xs[i]?=some a→j≤a)→Cut xs j (SetTable.below.go xs j n lo hi)
 | 0,lo,hi,hn,hl,hz,h1,h2=>by
  rw[SetTable.below.go.eq_def]
  have e:lo=hi:=by walk_at "o"
  subst e;exact⟨hz,h1,h2⟩
 | n+1,lo,hi,hn,hl,hz,h1,h2=>by
  rw[SetTable.below.go.eq_def];dsimp only
  by_cases c:lo < hi
  ·rw[if_pos c]
   have hm:(lo+hi) / 2 < xs.size:=by walk_at "o"
   have em:xs[(lo+hi) / 2]?=some xs[(lo+hi) / 2]:=Array.getElem?_eq_getElem hm
   have eg:xs.getD ((lo+hi) / 2) j=xs[(lo+hi) / 2]:=by simp[Array.getD,hm]
   rw[eg]
   by_cases q:xs[(lo+hi) / 2] < j
   ·rw[if_pos q]
    refine Xj1 h j n _ _ (by walk_at "o") (by walk_at "o") hz (fun i a hi' e=>?_) h2
    by_cases z:i=(lo+hi) / 2
    ·subst z;rw[em] at e;cases e;exact q
    ·exact Nat.lt_trans (h.lt (show i < (lo+hi) / 2 by walk_at "o") e em) q
   ·rw[if_neg q]
    refine Xj1 h j n _ _ (by walk_at "o") (by walk_at "o") (by walk_at "o") h1 (fun i a hi' e=>?_)
    by_cases z:i=(lo+hi) / 2
    ·subst z;rw[em] at e;cases e;walk_at "o"
    ·have:=h.lt (show (lo+hi) / 2 < i by walk_at "o") em e
     walk_at "o"
  ·rw[if_neg c]
   have e:lo=hi:=by walk_at "o"
   subst e;exact⟨hz,h1,h2⟩
theorem Ya2 {xs:Array Nat} (h:Rise xs) (j:Nat):Cut xs j (SetTable.below xs j) :=
 Xj1 h j xs.size 0 xs.size (by walk_at "o") (by walk_at "o") (by walk_at "o") (fun i a hi _=>absurd hi (Nat.not_lt_zero _)) fun i a hi e=>by
  rw[Array.getElem?_eq_none hi] at e;cases e
theorem Cut.uniq {xs:Array Nat} {j c d:Nat} (a:Cut xs j c) (b:Cut xs j d):c=d:=by
 rcases Nat.lt_trichotomy c d with z | z | z
 ·have h:c < xs.size:=Nat.lt_of_lt_of_le z b.le
  have e:xs[c]?=some xs[c]:=Array.getElem?_eq_getElem h;have:=b.lo c _ z e;have:=a.hi c _ (Nat.le_refl _) e;walk_at "o"
 ·exact z
 ·have h:d < xs.size:=Nat.lt_of_lt_of_le z a.le
  have e:xs[d]?=some xs[d]:=Array.getElem?_eq_getElem h;have:=a.lo d _ z e;have:=b.hi d _ (Nat.le_refl _) e;walk_at "o"
theorem Xa5 {xs:Array Nat} (h:Rise xs) {i a:Nat} (e:xs[i]?=some a):SetTable.below xs (a+1)=i+1:=by
 refine (Ya2 h (a+1)).uniq ⟨?_,fun k b hk eb=>?_,fun k b hk eb=>?_⟩
 ·by_cases z:i < xs.size
  ·exact z
  ·rw[Array.getElem?_eq_none (by walk_at "o")] at e;cases e
 ·by_cases z:k=i
  ·subst z;rw[e] at eb;cases eb;walk_at "o"
  ·have:=h.lt (show k < i by walk_at "o") eb e
   walk_at "o"
 ·have:=h.lt (show i < k by walk_at "o") e eb
  walk_at "o"
theorem Xa4 {xs:Array Nat} (h:Rise xs):SetTable.below xs 0=0 :=
 (Ya2 h 0).uniq ⟨Nat.zero_le _,fun k b hk _=>absurd hk (Nat.not_lt_zero _),fun k b _ _=>Nat.zero_le _⟩
theorem Yo3 {xs:Array Nat} (h:Rise xs) {j:Nat} (hj:xs[SetTable.below xs j]?≠some j):Rise (SetTable.insertAt xs (SetTable.below xs j) j):=by
 have c:=Ya2 h j;generalize SetTable.below xs j=p at c hj;unfold Rise SetTable.insertAt
 have e:((xs.extract 0 p).push j++xs.extract p xs.size).toList=xs.toList.take p++(j :: xs.toList.drop p):=by
  simp[List.take_of_length_le]
 rw[e,List.pairwise_append];refine⟨h.sublist (List.take_sublist _ _),List.pairwise_cons.mpr ⟨fun b hb=>?_,h.sublist (List.drop_sublist _ _)⟩,fun a ha b hb=>?_⟩
 ·obtain⟨i,hi,e⟩:=List.getElem_of_mem hb
  rw[List.getElem_drop] at e;rw[List.length_drop,Array.length_toList] at hi
  have eb:xs[p+i]?=some b:=by rw[← e,Array.getElem?_eq_getElem (by walk_at "o")];simp
  have h1:=c.hi _ _ (Nat.le_add_right _ _) eb
  by_cases z:b=j
  ·subst z
   cases i with
   | zero=>exact absurd eb hj
   | succ i =>
    have e0:xs[p]?=some (xs[p]'(by walk_at "o")):=Array.getElem?_eq_getElem _;have:=c.hi _ _ (Nat.le_refl _) e0;have:=h.lt (show p < p+(i+1) by walk_at "o") e0 eb;walk_at "o"
  ·walk_at "o"
 ·have h1:a < j:=by
   obtain⟨i,hi,e⟩:=List.getElem_of_mem ha;rw[List.getElem_take] at e;rw[List.length_take,Array.length_toList] at hi;exact c.lo i a (by walk_at "o") (by rw[← e,Array.getElem?_eq_getElem (by walk_at "o")];simp)
  rcases List.mem_cons.mp hb with rfl | hb
  ·exact h1
  ·obtain⟨i,hi,e⟩:=List.getElem_of_mem hb
   rw[List.getElem_drop] at e;rw[List.length_drop,Array.length_toList] at hi;have:=c.hi (p+i) b (Nat.le_add_right _ _) (by rw[← e,Array.getElem?_eq_getElem (by walk_at "o")];simp);walk_at "o"
theorem Yt5 {t:SetTable} {j:Nat} (h:∀ i,t.slot j≠.live i):t.place[SetTable.below t.place j]?≠some j:=fun z=>by
 refine h (SetTable.below t.place j) ?_;unfold SetTable.slot;rw[if_pos (by simpa using z)]
theorem Zy1 {t:SetTable} {h:Int}:∀ (n:Nat) (p:SetTable.Probe) (j:Nat) (d:Option Nat),(∀ k,p.dummy=some k→t.place[SetTable.below t.place k]?≠some k)→SetTable.probe.go t (fun _=>h+1) h n p=some (.empty j d)→t.place[SetTable.below t.place (d.getD j)]?≠some (d.getD j)
 | 0,p,j,d,hp,e=>by rw[SetTable.probe.go.eq_def] at e;cases e
 | n+1,p,j,d,hp,e=>by
  rw[SetTable.probe.go.eq_def] at e;dsimp only at e
  have adv:∀ q:SetTable.Probe,(t.advance q).dummy=q.dummy:=fun q=>by
   unfold SetTable.advance
   split<;>rfl
  cases s:t.slot p.j with
  | empty =>
   rw[s] at e;cases e
   cases z:p.dummy with
   | none=>exact Yt5 fun i w=>by rw[show t.slot ((none:Option Nat).getD p.j)=.empty from s] at w;cases w
   | some k=>exact hp k z
  | dummy =>
   rw[s] at e;refine Zy1 n _ j d (fun k hk=>?_) e;rw[adv] at hk;cases hk
   exact Yt5 fun i w=>by rw[s] at w;cases w
  | live i =>
   rw[s] at e;dsimp only at e;rw[if_neg (by simp;walk_at "o")] at e;exact Zy1 n _ j d (fun k hk=>hp k (by rw[adv] at hk;exact hk)) e
theorem Yk8 {t:SetTable} {h:Int} {j:Nat} {b:Bool} (e:t.freeSlot h=some (j,b)):t.place[SetTable.below t.place j]?≠some j:=by
 unfold SetTable.freeSlot at e
 split at e
 ·rename_i k d q
  cases e
  exact Zy1 _ _ _ _ (fun k hk=>by
   have hk:(none:Option Nat)=some k:=hk
   cases hk) q
 ·cases e
theorem Zj6 (t:SetTable) (n:Nat):Rise (t.standIn n).place:=by
 show (Array.range n).toList.Pairwise (· < ·);rw[Array.toList_range];exact List.pairwise_lt_range
theorem Xw1 {t:SetTable} (n:Nat) (h:Rise t.place):Rise (t.orStandIn n).place:=by
 unfold SetTable.orStandIn
 split
 ·exact h
 ·exact Zj6 _ _
theorem Xo2 {t:SetTable} (h:Rise t.place) (es:Array (Int×Value)) (hh:Int) (x:Value):Rise (layNew t es hh x).2.1.place:=by
 unfold layNew
 split
 ·rename_i j b e
  exact Xw1 _ (Yo3 h (Yk8 e))
 ·exact Zj6 _ _
theorem Xe0 {mask finger moves:Nat} {led plain:Bool} {hashes:Array Int} {t:SetTable} {o:Array Nat} (h:SetTable.laid mask finger moves led plain hashes=some (t,o)):Rise t.place:=by
 unfold SetTable.laid at h
 cases z:SetTable.layClean mask hashes with
 | none=>rw[z] at h;cases h
 | some ow =>
  rw[z] at h;cases h;show (List.map _ _).toArray.toList.Pairwise (· < ·);rw[List.toList_toArray,List.pairwise_map,List.pairwise_filterMap];refine List.pairwise_lt_range.imp fun {a b} hab x hx y hy=>?_;have hx:(ow.getD a none).map (a,·)=some x:=hx;have hy:(ow.getD b none).map (b,·)=some y:=hy;obtain⟨u,_,rfl⟩:=Option.map_eq_some_iff.mp hx;obtain⟨v,_,rfl⟩:=Option.map_eq_some_iff.mp hy;exact hab
theorem Xo3 {t:SetTable} (h:Rise t.place) (es:Array (Int×Value)) (n:Nat):Rise (relayAll t es n).2.1.place:=by
 unfold relayAll
 split
 ·rename_i t' o e
  dsimp only
  split
  ·exact Xe0 (show SetTable.laid _ _ _ t.led t.plain _=some (t',o) from e)
  ·exact Zj6 _ _
 ·exact Zj6 _ _
theorem Xo1:Rise #[]:=List.Pairwise.nil
section
variable {P:Program} {w:World} {A:Around} {E:Value→Shared→Prop} {s:Shared}
theorem Yt6 {I a:Addr} {i ep slot:Nat} {o:Obj} {es:Array (Int×Value)} {t:SetTable} {Q:Option Value→Shared→Prop} (hb:w.params.followText "set-order"=false) (hI:s.heap.get? I=some (Zl8 (.int slot 0) i a es.size ep)) (ha:s.heap.get? a=some o) (hd:o.data=.set es ep t) (hf:t.fits es.size=true) (hl:t.led=true) (h1:t.plain=true∨es.size≤1)
    (h:wpAny (model P w) A.in1 (match (match es[SetTable.below t.place slot]?,t.place[SetTable.below t.place slot]? with
              | some (_,x),some j=>some (x,j+1)
              | _,_=>none) with
              | some (x,next)=>do
                setField (.ref I) 0 (rawInt ↑(next:Nat))
                setField (.ref I) 1 (rawInt (i+1))
                ret x
              | none=>do
                setField (.ref I) 2 Value.none
                Builtin.SmallTypes.stopIteration)
      (fun fin s'=>∃ v,fin=Fin.done (Flow.ret v)∧Q (some v) s') (fun e s'=>wpAny (model P w) A (isInstance e (Value.type "StopIteration") >>= fun b=>if b=true then pure none else throw e) Q E s') s):wpAny (model P w) A (pyNext (.ref I)) Q E s:=by
  refine Zp7 (n:=es.size) hI ha hd hf ?_;dsimp only;refine wpAny_bind ?_;unfold setNext;refine wpAny_bind (wpAny_setState_of ha hd hf ?_);dsimp only;refine wpAny_bind (wpAny_bind (wpAny_askSetting (wpAny_pure ?_)));rw[if_neg (show ¬ ((model P w).w.params.followText "set-order"=true) from fun z=>by rw[show (model P w).w.params.followText "set-order"=false from hb] at z;cases z)]
  split
  · rename_i hz
    have hz:(!t.plain&&decide (es.size > 1))=true:=hz;rw[Bool.and_eq_true] at hz;have:=of_decide_eq_true hz.2;rcases h1 with h1 | h1
    · rw[h1] at hz;cases hz.1
    · walk_at "o"
  refine wpAny_bind ?_;show wpAny _ _ (if (!t.led&&!es.isEmpty)=true then unsupported "set:maker-not-led" else pure ()) _ _ _;rw[if_neg (by rw[hl];simp)];refine wpAny_pure (wpAny_pure ?_);exact h
def SiAtR (w:World) (I a:Addr) (es:Array (Int×Value)) (ep:Nat) (t:SetTable) (ord:List Value) (fs:List Addr) (i:Nat) (h:Heap):Prop :=
  (∃ o,h.get? a=some o∧o.data=.set es ep t) ∧
  ((∃ (T : Addr) (places : List Nat), fs = [T] ∧ h.get? I = some (Zl8 (.ref T) i a es.size ep) ∧ h.get? T = some { cls := .type "tuple", data := .seq (places.map fun (k : Nat) => rawInt (k : Int)).toArray } ∧ ord = places.map (fun k => ((es[k]?).getD (0, .none)).2) ∧ places.length = es.size ∧ ∀ k ∈ places, k < es.size) ∨
   (fs=[]∧w.params.followText "set-order"=true∧h.get? I=some (Zl8 (.int 0 0) i a es.size ep)∧ord=(pickOrder (w.params.setOrder a ep) es).toList.map (·.2)) ∨
   (fs=[]∧w.params.followText "set-order"=false∧(t.plain=true∨es.size≤1)∧t.led=true∧ord=es.toList.map (·.2)∧∃ slot:Nat,h.get? I=some (Zl8 (.int slot 0) i a es.size ep)∧Rise t.place∧SetTable.below t.place slot=i))
theorem SiAtR.keep {w:World} {I a:Addr} {es:Array (Int×Value)} {ep:Nat} {t:SetTable} {ord:List Value} {fs:List Addr} {i:Nat} {h h':Heap} (x:SiAtR w I a es ep t ord fs i h) (k:∀ b∈I :: a :: fs,∀ o,h.get? b=some o→h'.get? b=some o):SiAtR w I a es ep t ord fs i h':=by
 obtain⟨⟨o,h1,h2⟩,x⟩:=x;refine⟨⟨o,k a (by simp) o h1,h2⟩,?_⟩;rcases x with ⟨T,places,e,x1,x2,r⟩ | ⟨e,b,x1,r⟩ | ⟨e,b,z,l,r,slot,x1,r2⟩
 ·exact .inl ⟨T,places,e,k I (by simp) _ x1,k T (by rw[e];simp) _ x2,r⟩
 ·exact .inr (.inl ⟨e,b,k I (by simp) _ x1,r⟩)
 ·exact .inr (.inr ⟨e,b,z,l,r,slot,k I (by simp) _ x1,r2⟩)
theorem Yw9 {I a:Addr} {es:Array (Int×Value)} {ep:Nat} {t:SetTable} {ord:List Value} {fs:List Addr} (hh:A.handled=none) (hf:t.fits es.size=true) (haI:a≠I) (hfI:∀ T∈fs,T≠I) :
  Walks P w A I (I :: a :: fs) [I] es.size (fun i v=>ord[i]?=some v) (SiAtR w I a es ep t ord fs):=by
 have upd1:∀ {h h':Heap} {b:Addr},Heap.SameBut I h h'→b≠I→∀ o,h.get? b=some o→h'.get? b=some o:=fun sb hb o e=>(sb.2 _ hb).trans e;refine⟨fun b hb=>by rw[List.mem_singleton.mp hb];simp,fun i h h' x k=>x.keep k,fun i s Q E hi x q=>?_,fun s Q E x q=>?_,fun i s Q E x q=>?_⟩
 ·obtain⟨⟨o,h1,h2⟩,x⟩:=x
  rcases x with ⟨T,places,e,x1,x2,r1,r2,r3⟩ | ⟨e,b,x1,r⟩ | ⟨e,b,z,l,r,slot,x1,r2,r3⟩
  ·have hp:places[i]?=some (places[i]'(by walk_at "o")):=List.getElem?_eq_getElem _
   have hk:=r3 _ (List.getElem_mem (by walk_at "o":i < places.length));refine Ye0 x1 h1 h2 hf x2 hp (hx:=(es[places[i]'(by walk_at "o")]'hk).1) (x:=(es[places[i]'(by walk_at "o")]'hk).2) (by rw[Array.getElem?_eq_getElem hk]) fun h' hI' sb=>?_;refine q _ h' s.toks ?_ ⟨⟨o,upd1 sb haI _ h1,h2⟩,.inl ⟨T,places,e,hI',upd1 sb (hfI T (by rw[e];simp)) _ x2,r1,r2,r3⟩⟩ fun b o hb e=>upd1 sb (by simpa using hb) _ e;rw[r1,List.getElem?_map,hp];simp[Array.getElem?_eq_getElem hk]
  ·have hsz:(pickOrder (w.params.setOrder a ep) es).size=es.size:=by have:=(Zj8 (w.params.setOrder a ep) es).length_eq;simpa using this
   have he:(pickOrder (w.params.setOrder a ep) es)[i]?=some ((pickOrder (w.params.setOrder a ep) es)[i]'(by walk_at "o")):=Array.getElem?_eq_getElem _;refine Yj0 b x1 h1 h2 hf he fun h' hI' sb=>?_;refine q _ h' s.toks ?_ ⟨⟨o,upd1 sb haI _ h1,h2⟩,.inr (.inl ⟨e,b,hI',r⟩)⟩ fun b o hb e=>upd1 sb (by simpa using hb) _ e;rw[r,List.getElem?_map,Array.getElem?_toList,he];rfl
  ·have hps:t.place.size=es.size:=by
    unfold SetTable.fits at hf;rw[Bool.and_eq_true,beq_iff_eq] at hf;exact hf.1
   have hpi:t.place[i]?=some (t.place[i]'(by walk_at "o")):=Array.getElem?_eq_getElem _;have hei:es[i]?=some (es[i]'hi):=Array.getElem?_eq_getElem _;refine Yt6 b x1 h1 h2 hf l z ?_;rw[r3,hpi,hei];refine wpAny_bind (wpAny_setField_rec x1 (by simp) fun g1 hI1 sb1=>wpAny_bind (wpAny_setField_rec hI1 (by simp) fun g2 hI2 sb2=>wpAny_pure ⟨_,rfl,?_⟩));have sb:=sb1.trans sb2;refine q _ g2 s.toks ?_ ⟨⟨o,upd1 sb haI _ h1,h2⟩,.inr (.inr ⟨e,b,z,l,r,_,?_,r2,Xa5 r2 hpi⟩)⟩ fun b o hb e=>upd1 sb (by simpa using hb) _ e
   ·rw[r,List.getElem?_map,Array.getElem?_toList,hei];rfl
   ·exact hI2
 ·obtain⟨⟨o,h1,h2⟩,x⟩:=x
  rcases x with ⟨T,places,e,x1,x2,r1,r2,r3⟩ | ⟨e,b,x1,r⟩ | ⟨e,b,z,l,r,slot,x1,r2,r3⟩
  ·exact Yj1 hh x1 h1 h2 hf x2 (List.getElem?_eq_none (by walk_at "o")) fun h' eb=>q h' s.toks fun b o hb e=>eb b o (by simpa using hb) e
  ·have hsz:(pickOrder (w.params.setOrder a ep) es).size=es.size:=by have:=(Zj8 (w.params.setOrder a ep) es).length_eq;simpa using this
   exact Yn8 hh b x1 h1 h2 hf (Array.getElem?_eq_none (by walk_at "o")) fun h' eb=>q h' s.toks fun b o hb e=>eb b o (by simpa using hb) e
  ·refine Yt6 b x1 h1 h2 hf l z ?_
   have hnone:es[SetTable.below t.place slot]?=none:=by
    rw[r3];exact Array.getElem?_eq_none (Nat.le_refl _)
   rw[hnone];dsimp only;refine wpAny_bind (wpAny_setField_rec x1 (by simp) fun g1 hI1 sb1=>?_);refine Zw7 (A:=A.in1) hh fun h' e k ⟨oe,he,hc⟩=>wpAny_bind (wpAny_isInstance ⟨oe,he,hc⟩ isSubtype_stop ?_);rw[if_pos rfl];exact wpAny_pure (q h' s.toks fun b ob hb eb=>k b ob ((sb1.2 b (by simpa using hb)).trans eb))
 ·have hT:s.TypeIs (.ref I) "set_iterator":=by
   obtain⟨_,x⟩:=x;rcases x with ⟨T,places,e,x1,_⟩ | ⟨e,b,x1,r⟩ | ⟨e,b,z,l,r,slot,x1,r2,r3⟩
   ·exact⟨_,x1,rfl⟩
   ·exact⟨_,x1,rfl⟩
   ·exact⟨_,x1,rfl⟩
  exact wpAny_pyIter_slot hT Zt8 (wpAny_call_entry Zt8 hT Yg4 (id (wpAny_pure ⟨.ref I,rfl,"set_iterator",.builtin "set_iterator.__next__",hT,slot_si_next.lookup,q⟩)) (Ym3 (.ref I)))
theorem Xh7 {a:Addr} {o:Obj} {es:Array (Int×Value)} {ep:Nat} {t:SetTable} {Q:Value→Shared→Prop} (ha:s.heap.get? a=some o) (hx:o.ExactSet) (hd:o.data=.set es ep t) (hf:t.fits es.size=true) (hl:t.led=!(w.params.followText "set-order")) (hp:Rise t.place) (hz:es.size≤sizeLine)
  (hQ:∀ (I:Addr) (fs:List Addr) (ord:List Value) (h':Heap) (d:Drawn),s.heap.objs.size≤I→(∀ T∈fs,s.heap.objs.size≤T∧T≠I)→(∀ b∈I :: fs,b < h'.objs.size)→(∀ b o,s.heap.get? b=some o→h'.get? b=some o)→List.Perm ord (es.toList.map (·.2))→SiAtR w I a es ep t ord fs 0 h'→Q (.ref I) { s with heap:=h',drawn:=d }) :
  wpAny (model P w) A (pyIter (.ref a)) Q E s:=by
 have hT:s.TypeIs (.ref a) "set":=⟨o,ha,hx.1⟩;refine wpAny_pyIter_slot hT F.slot_set_iter (wpAny_call_entry F.slot_set_iter hT Ya9 ?_ (F.args_set_iter_1 (.ref a)));show wpAny _ _ (Builtin.Frozenset.slot0 "__iter__" { pos:=[.ref a] } >>= _) _ _ _;refine wpAny_bind ?_;show wpAny _ _ (Builtin.Frozenset.addrOf (.ref a)) _ _ _;refine wpAny_pure ?_;refine wpAny_bind (wpAny_bind (wpAny_setEntries_of ha hd hf (wpAny_pure ?_)));refine wpAny_bind ?_;unfold setDrawn;refine wpAny_bind (wpAny_setState_of ha hd hf ?_);dsimp only;refine wpAny_bind (wpAny_bind (wpAny_askSetting (wpAny_pure (wpAny_pure ?_))));dsimp only
 split
 ·rename_i hc
  have hc:(!(w.params.followText "set-order")&&(!t.plain&&decide (es.size > 1)))=true:=hc;refine wpAny_bind (Yc5 es.size (List.range es.size) (by simp) fun ys d hy=>?_)
  have hyl:ys.length=es.size:=by have:=hy.length_eq;simpa using this
  refine wpAny_bind (wpAny_newTuple (s:={ s with drawn:=d }) ?_ (by rw[List.length_map,hyl];exact hz));dsimp only;have ha1:(s.heap.push { cls:=Value.type "tuple",data:=Data.seq (List.map (fun (i:Nat)=>rawInt ↑i) ys).toArray }).get? a=some o:=Heap.get?_push_of_some _ ha;refine wpAny_bind (wpAny_bind (wpAny_setState_of (s:={ s with heap:=s.heap.push { cls:=Value.type "tuple",data:=Data.seq (List.map (fun (i:Nat)=>rawInt ↑i) ys).toArray },drawn:=d }) ha1 hd hf (wpAny_pure ?_)));dsimp only;refine wpAny_bind (wpAny_newObj_type ?_ (hd:=by show 5≤sizeLine+2;decide));generalize hp1:s.heap.push { cls:=Value.type "tuple",data:=Data.seq (List.map (fun (i:Nat)=>rawInt ↑i) ys).toArray }=g1 at ha1
  have z1:g1.objs.size=s.heap.objs.size+1:=by rw[← hp1];exact Heap.size_push _ _
  have eT:g1.get? s.heap.objs.size=some { cls:=Value.type "tuple",data:=Data.seq (List.map (fun (i:Nat)=>rawInt ↑i) ys).toArray }:=by rw[← hp1];exact Heap.get?_push_size _ rfl
  have k1:∀ b o,s.heap.get? b=some o→g1.get? b=some o:=fun b o e=>by rw[← hp1];exact Heap.get?_push_of_some _ e
  have eI:(g1.push (Zl8 (.ref s.heap.objs.size) 0 a es.size ep)).get? g1.objs.size=some (Zl8 (.ref s.heap.objs.size) 0 a es.size ep):=Heap.get?_push_size _ rfl;refine wpAny_pure ⟨_,rfl,"set_iterator",_,⟨_,eI,rfl⟩,slot_si_next.lookup,?_⟩
  have szE:(g1.push (Zl8 (.ref s.heap.objs.size) 0 a es.size ep)).objs.size=s.heap.objs.size+2:=by rw[Heap.size_push,z1]
  refine hQ g1.objs.size [s.heap.objs.size] (ys.map fun k=>((es[k]?).getD (0,.none)).2) _ d (by rw[z1];exact Nat.le_succ _) (fun T hT=>by rw[List.mem_singleton.mp hT,z1];exact⟨Nat.le_refl _,Nat.ne_of_lt (Nat.lt_succ_self _)⟩) (fun b hb=>?_) (fun b o e=>Heap.get?_push_of_some _ (k1 b o e)) ?_ ⟨⟨o,Heap.get?_push_of_some _ ha1,hd⟩,.inl ⟨_,ys,rfl,eI,Heap.get?_push_of_some _ eT,rfl,hyl,fun k hk=>by have:=hy.mem_iff.mp hk;simpa using this⟩⟩
  ·rw[Heap.size_push]
   rcases List.mem_cons.mp hb with rfl | hb
   ·exact Nat.lt_succ_self _
   ·rw[List.mem_singleton.mp hb]
    show s.heap.objs.size < g1.objs.size+1;rw[z1];exact Nat.lt_succ_of_lt (Nat.lt_succ_self _)
  ·refine (hy.map _).trans ?_
   have e:List.map (fun k=>((es[k]?).getD (0,Value.none)).2) (List.range es.size)=es.toList.map (·.2):=by
    apply List.ext_getElem
    ·simp
    ·intro i h1 h2
     simp only[List.length_map,List.length_range] at h1;simp[Array.getElem?_eq_getElem h1]
   rw[e]
 ·rename_i hc
  have hc:¬ ((!(w.params.followText "set-order")&&(!t.plain&&decide (es.size > 1)))=true):=hc;refine wpAny_bind (wpAny_pure ?_);refine wpAny_bind (wpAny_bind (wpAny_setState_of ha hd hf (wpAny_pure ?_)));dsimp only;refine wpAny_bind (wpAny_newObj_type ?_ (hd:=by show 5≤sizeLine+2;decide));have eI:(s.heap.push (Zl8 (.int 0 0) 0 a es.size ep)).get? s.heap.objs.size=some (Zl8 (.int 0 0) 0 a es.size ep):=Heap.get?_push_size _ rfl;refine wpAny_pure ⟨_,rfl,"set_iterator",_,⟨_,eI,rfl⟩,slot_si_next.lookup,?_⟩;have szE:(s.heap.push (Zl8 (.int 0 0) 0 a es.size ep)).objs.size=s.heap.objs.size+1:=Heap.size_push _ _
  by_cases hb:w.params.followText "set-order"=true
  ·refine hQ s.heap.objs.size [] ((pickOrder (w.params.setOrder a ep) es).toList.map (·.2)) _ s.drawn (Nat.le_refl _) (fun T hT=>absurd hT (by simp)) (fun b hb=>by rw[List.mem_singleton.mp hb,Heap.size_push];exact Nat.lt_succ_self _) (fun b o e=>Heap.get?_push_of_some _ e) ((Zj8 _ _).map _) ⟨⟨o,Heap.get?_push_of_some _ ha,hd⟩,.inr (.inl ⟨rfl,hb,eI,rfl⟩)⟩
  ·have hb':w.params.followText "set-order"=false:=by simpa using hb
   have hsz:t.plain=true∨es.size≤1:=by
    cases hpl:t.plain with
    | true=>exact .inl rfl
    | false =>
     rw[hb',hpl] at hc;simp at hc;exact .inr hc
   refine hQ s.heap.objs.size [] (es.toList.map (·.2)) _ s.drawn (Nat.le_refl _) (fun T hT=>absurd hT (by simp)) (fun b hb=>by rw[List.mem_singleton.mp hb,Heap.size_push];exact Nat.lt_succ_self _) (fun b o e=>Heap.get?_push_of_some _ e) (.refl _) ⟨⟨o,Heap.get?_push_of_some _ ha,hd⟩,.inr (.inr ⟨rfl,hb',hsz,by rw[hl,hb'];rfl,rfl,0,eI,hp,Xa4 hp⟩)⟩
theorem Yr1 {a S:Addr} {o:Obj} {es:Array (Int×Value)} {ep:Nat} {t:SetTable} {R:Result→Shared→Prop} {res:Value} {c₀:Nat} (hh:A.handled=none) (ha:s.heap.get? a=some o) (hx:o.ExactSet) (hd:o.data=.set es ep t) (hf:t.fits es.size=true) (hl:t.led=!(w.params.followText "set-order")) (hp:Rise t.place) (hz:es.size≤sizeLine)
  (hS:s.heap.get? S=some { cls:=.type "list",data:=.seq #[] c₀ })
  (hR:∀ (h':Heap) (tk:Nat) (d:Drawn) (vs:List Value) (c':Nat),(∀ b o,b≠S→s.heap.get? b=some o→h'.get? b=some o)→h'.get? S=some { cls:=.type "list",data:=.seq vs.toArray c' }→List.Perm vs (es.toList.map (·.2))→R (.ok (.ret res)) { s with heap:=h',toks:=tk,drawn:=d }) :
  wpAny (model P w) A.in1 (Builtin.List.listExtendWith (.ref S) (.ref a) res) (fun fin s'=>match fin with
   | Fin.done f=>R (.ok f) s'
   | Fin.again c'=>c'.quiet=true∧codeAny (model P w) A c' R s') (fun e s'=>R (.error e) s') s:=by
 have hT:s.TypeIs (.ref a) "set":=⟨o,ha,hx.1⟩
 have hSa:S≠a:=fun z=>by
  rw[z,ha] at hS;cases hS;cases hd
 unfold Builtin.List.listExtendWith;refine wpAny_bind (wpAny_typeOf hT ?_)
 rw[if_neg (show ¬ ((Builtin.List.listSameRef (.ref S) (.ref a)||Value.type "set" == Value.type "list"||Value.type "set" == Value.type "tuple")=true) from by
  rw[show Builtin.List.listSameRef (.ref S) (.ref a)=false from by
   show (S == a)=false
   simpa using hSa]
  decide)]
 refine wpAny_bind (Xh7 ha hx hd hf hl hp hz fun I fs ord h1 d hI hfs hlt k1 hperm st=>?_)
 have ol:ord.length=es.size:=by have:=hperm.length_eq;simpa using this
 have haI:a≠I:=Nat.ne_of_lt (Nat.lt_of_lt_of_le (Heap.lt_size ha) hI);have hSI:S≠I:=Nat.ne_of_lt (Nat.lt_of_lt_of_le (Heap.lt_size hS) hI)
 have hSf:S ∉ I :: a :: fs:=fun z=>by
  rcases List.mem_cons.mp z with z | z
  ·exact hSI z
  rcases List.mem_cons.mp z with z | z
  ·exact hSa z
  ·exact Nat.ne_of_lt (Nat.lt_of_lt_of_le (Heap.lt_size hS) (hfs S z).1) rfl
 have hS1:=k1 S _ hS;have hT1:({ s with heap:=h1,drawn:=d }:Shared).TypeIs (.ref a) "set":=⟨o,k1 a _ ha,hx.1⟩;have W:=Yw9 (P:=P) (w:=w) (A:=A.in1) (I:=I) (a:=a) (es:=es) (ep:=ep) (t:=t) (ord:=ord) (fs:=fs) hh hf haI fun T hT'=>(hfs T hT').2
 have key:∀ (h:Heap) (c₁ tk:Nat),SiAtR w I a es ep t ord fs 0 h→(∀ b o,b≠S→s.heap.get? b=some o→h.get? b=some o)→h.get? S=some { cls:=.type "list",data:=.seq #[] c₁ } →
   codeAny (model P w) A (Code.builtin "list.extend.loop" { pos:=[.ref S,.ref I,res] }) R { s with heap:=h,toks:=tk,drawn:=d }:=fun h c₁ tk hst hk hS₁ =>
  codeAny_extend_loopS (Walks.toS W) hz S hSf res es.size 0 { s with heap:=h,toks:=tk,drawn:=d } #[] c₁ rfl (Nat.zero_le _) hst hS₁ (ItemsOf.nil _) fun s' acc' c' hm hS' hacc=>by
   rw[Moved.eq_with hm];refine hR s'.heap s'.toks d acc'.toList c' (fun b o hb e=>hm.heap b o (fun hmem=>?_) (hk b o hb e)) (by simpa using hS') ?_
   ·rcases List.mem_cons.mp hmem with z | z
    ·exact hb z
    ·have z':b=I:=List.mem_singleton.mp z
     exact absurd (Heap.lt_size e) (by rw[z'];exact Nat.not_lt.mpr hI)
   ·have e:acc'.toList=ord:=by
     apply List.ext_getElem?;intro j
     cases q:acc'.toList[j]? with
     | none =>
      have:acc'.toList.length≤j:=List.getElem?_eq_none_iff.mp q;rw[List.getElem?_eq_none (by rw[ol];have:=hacc.1;rw[Array.length_toList] at *;walk_at "o")]
     | some v=>exact (hacc.2 j v (by simpa using q)).symm
    rw[e];exact hperm
 refine wpAny_bind (wpAny_holding (Xp9 hT1 ?_));refine wpAny_ite_split (fun _=>?_) fun _=>?_
 ·refine wpAny_bind (wpAny_rule (wpAny_bind ?_))
  have hS2:=Heap.get?_update_self (Obj.mapSeq fun x=>x.push Value.none) hS1 rfl;have hS3:=Heap.get?_update_self (Obj.mapSeq fun x=>x.pop) hS2 rfl
  have k3:∀ b ob,b≠S→h1.get? b=some ob→((h1.update S (Obj.mapSeq fun x=>x.push Value.none)).update S (Obj.mapSeq fun x=>x.pop)).get? b=some ob:=fun b ob hb e =>
   ((Heap.SameBut.update _ S _).2 b hb).trans (((Heap.SameBut.update _ S _).2 b hb).trans e)
  refine wpAny_bind (wpAny_updateSeq hS1 rfl ?_);refine wpAny_updateSeq hS2 rfl ?_;exact wpAny_pure ⟨plainId_quiet F.plain_extend_loop _,key _ _ s.toks (st.keep fun b hb ob e=>k3 b ob (fun z=>hSf (z▸hb)) e) (fun b ob hb e=>k3 b ob hb (k1 b ob e)) hS3⟩
 ·exact wpAny_pure ⟨plainId_quiet F.plain_extend_loop _,key h1 c₀ s.toks st (fun b o _ e=>k1 b o e) hS1⟩
theorem Yl3 {a:Addr} {o:Obj} {es:Array (Int×Value)} {ep:Nat} {t:SetTable} {Q:List Value→Shared→Prop} (hh:A.handled=none) (ha:s.heap.get? a=some o) (hx:o.ExactSet) (hd:o.data=.set es ep t) (hf:t.fits es.size=true) (hl:t.led=!(w.params.followText "set-order")) (hp:Rise t.place) (hz:es.size≤sizeLine)
  (hQ:∀ (h':Heap) (tk:Nat) (d:Drawn) (vs:List Value),s.heap.objs.size < h'.objs.size→(∀ b o,s.heap.get? b=some o→h'.get? b=some o)→List.Perm vs (es.toList.map (·.2))→Q vs { s with heap:=h',toks:=tk,drawn:=d }) :
  wpAny (model P w) A (collect (.ref a)) Q E s:=by
 refine wpAny_bind (wpAny_runValue (codeAny_builtin entry_proto_collect' ?_));rw[Around.under_plainId F.plain_proto_collect { pos:=[Value.ref a] }];refine wpAny_bind (wpAny_newObj_type (wpAny_pure ⟨plainId_quiet F.plain_list_iadd _,codeAny_builtin entry_list_iadd' ?_⟩));rw[Around.under_plainId F.plain_list_iadd { pos:=[Value.ref s.heap.objs.size,Value.ref a] }];show wpAny _ _ (Builtin.List.listExtendWith (.ref s.heap.objs.size) (.ref a) (.ref s.heap.objs.size)) _ _ _;have hS:(s.heap.push { cls:=Value.type "list",data:=Data.seq ([]:List Value).toArray }).get? s.heap.objs.size=some { cls:=Value.type "list",data:=Data.seq #[] 0 }:=Heap.get?_push_size _ rfl
 refine Yr1 (P:=P) (w:=w) (s:={ s with heap:=s.heap.push { cls:=Value.type "list",data:=Data.seq ([]:List Value).toArray } }) (R:=fun r s'=>match r with
  | .ok (.ret v)=>wpAny (model P w) A (match v with
   | .ref a=>do
    let o ← load a
    match o.data with
     | .seq xs _=>pure xs.toList
     | _=>unsupported "internal:collect"
   | _=>unsupported "internal:collect") Q E s'
  | .ok _=>False
  | .error e=>E e s') hh (Heap.get?_push_of_some _ ha) hx hd hf hl hp hz hS fun h' tk d vs c' k hv hperm=>?_
 refine wpAny_bind (wpAny_load hv (wpAny_pure ?_));exact hQ h' tk d vs (Heap.lt_size hv) (fun b ob e=>k b ob (Nat.ne_of_lt (Heap.lt_size e)) (Heap.get?_push_of_some _ e)) hperm
end
def SetAtI (P:Program) (w:World) (h:Heap) (a:Addr) (xs:List Int):Prop :=
 ∃ o es ep t ys,h.get? a=some o∧o.ExactSet∧o.data=Data.set es ep t∧ElemsOf (PySem.intKind P w) es.toList∧Paired (fun (e:Int×Value) (x:Int)=>∃ tk,e.2=.int x tk) es.toList ys∧List.Perm ys xs∧xs.Nodup∧es.size < scanBound∧t.fits es.size=true ∧
  t.led=!(w.params.followText "set-order")∧Rise t.place
theorem SetAtI.at {P:Program} {w:World} {h h':Heap} {a:Addr} {xs:List Int} (s:SetAtI P w h a xs) (k:∀ o,h.get? a=some o→h'.get? a=some o):SetAtI P w h' a xs:=by
 obtain⟨o,es,ep,t,ys,h1,r⟩:=s;exact⟨o,es,ep,t,ys,k o h1,r⟩
section
variable {P:Program} {w:World} {A:Around} {E:Value→Shared→Prop} {s:Shared}
theorem Ym5 {g:Bool→Sem Unit} (hg:∀ (b:Bool) (s₁:Shared) (Q':Unit→Shared→Prop),Q' () s₁→wpAny (model P w) A (g b) Q' E s₁) {a:Addr} {o:Obj} {es:Array (Int×Value)} {ep:Nat} {t:SetTable} (ho:s.heap.get? a=some o) (hx:o.ExactSet) (hd:o.data=.set es ep t)
  {es1:Array (Int×Value)} {t2:SetTable} {zs ys:List Int} (he:ElemsOf (PySem.intKind P w) es1.toList) (hp:Paired (fun (e:Int×Value) (x:Int)=>∃ tk,e.2=.int x tk) es1.toList ys) (hq:List.Perm ys zs) (hn:zs.Nodup) (hz:es1.size < scanBound) (hf:t2.fits es1.size=true) (hl:t2.led=!(w.params.followText "set-order")) (hpl:Rise t2.place)
  {wasDummy:Bool} {R:Option Bool→Shared→Prop} (hR:∀ h',Heap.SameBut a s.heap h'→SetAtI P w h' a zs→R (some true) { s with heap:=h' }) :
  wpAny (model P w) A (do
   storeSet a es1 t2
   if (!wasDummy&&t2.tooFull)=true then do
    g (relayAll t2 es1 (SetTable.grown es1.size)).2.2
    storeSet a (relayAll t2 es1 (SetTable.grown es1.size)).1 (relayAll t2 es1 (SetTable.grown es1.size)).2.1
    pure (some true)
   else pure (some true)) R E s:=by
 have S1:=SetOf_store (knd:=PySem.intKind P w) (S':=fun k=>es1.toList.any fun e=>(PySem.intKind P w).is k e.2) ho hx hd he (fun k=>by rw[List.any_eq_true]) hz hf;refine wpAny_bind (wpAny_storeSet_of ho hd ?_ (Nat.le_trans (Nat.le_of_lt hz) (show scanBound≤sizeLine by decide)))
 split
 ·refine wpAny_bind (hg _ _ _ ?_)
  have rp:=relayAll_perm t2 es1 (SetTable.grown es1.size);have rf:=relayAll_fits t2 es1 (SetTable.grown es1.size);have rl:=Yj7 t2 es1 (SetTable.grown es1.size);have rpl:=Xo3 hpl es1 (SetTable.grown es1.size);generalize relayAll t2 es1 (SetTable.grown es1.size)=rr at rp rf rl rpl;have he2:=he.perm rp;obtain⟨ys2,p2,q2⟩:=Zy3 rp.symm hp
  have hsz:rr.1.size=es1.size:=by have:=rp.length_eq;simpa using this
  have hz2:rr.1.size < scanBound:=by rw[hsz];exact hz
  have S2:=SetOf_store (knd:=PySem.intKind P w) (S':=fun k=>rr.1.toList.any fun e=>(PySem.intKind P w).is k e.2) S1.1 hx rfl he2 (fun k=>by rw[List.any_eq_true]) hz2 rf;refine wpAny_bind (wpAny_storeSet_of S1.1 rfl (wpAny_pure ?_) (Nat.le_trans (Nat.le_of_lt hz2) (show scanBound≤sizeLine by decide)));refine hR _ ((Heap.SameBut.update _ _ _).trans (Heap.SameBut.update _ _ _)) ⟨_,rr.1,_,rr.2.1,ys2,S2.1,hx,rfl,he2,q2,p2.symm.trans hq,hn,hz2,rf,rl.trans hl,rpl⟩
 ·refine wpAny_pure (hR _ (Heap.SameBut.update _ _ _) ⟨_,es1,_,t2,ys,S1.1,hx,rfl,he,hp,hq,hn,hz,hf,hl,hpl⟩)
theorem Yo0 {a:Addr} {x:Int} {tk:Tok} {xs:List Int} {Q:Bool→Shared→Prop} (hs:SetAtI P w s.heap a xs) (hz:xs.length+1 < scanBound)
  (hQ:∀ h',Heap.SameBut a s.heap h'→SetAtI P w h' a (if x∈xs then xs else xs++[x])→∀ b,Q b { s with heap:=h' }) :
  wpAny (model P w) A (setAddHashed a (.int x tk) ((PySem.intKind P w).hash x)) Q E s:=by
 obtain⟨o,es,ep,t,ys,h1,h2,h3,h4,h5,h6,h7,h8,h9,h10,h11⟩:=hs
 have hlen:es.size=xs.length:=by have:=Paired.length h5;have:=h6.length_eq;rw[← Array.length_toList];walk_at "o"
 have hscan:byScan (.int x tk) es=true:=by
  unfold byScan;rw[Bool.and_eq_true,Bool.and_eq_true];refine⟨⟨rfl,decide_eq_true h8⟩,?_⟩;rw[Array.all_eq_true_iff_forall_mem];intro e he;exact (h4 e (by simpa using he)).2
 have his:(PySem.intKind P w).is x (.int x tk)=true:=by
  show Value.isInt x (.int x tk)=true;simp[Value.isInt]
 unfold setAddHashed;refine wpAny_holding ?_;rw[setAddHashedIn.eq_def];refine wpAny_bind (wpAny_setState_of h1 h3 h9 ?_);dsimp only;rw[if_pos hscan];unfold setAddByScan;refine wpAny_bind (wpAny_bind (wpAny_rule (wpAny_bind (wpAny_setScan_of his h1 h3 h9 h4 ?_))))
 have mem_iff:∀ e∈es.toList,(PySem.intKind P w).is x e.2=true→x∈xs:=fun e he hi=>by
  obtain⟨j,hj,rfl⟩:=List.getElem_of_mem he;obtain⟨y,hy,tk',ey⟩:=Ze3 h5 (List.getElem?_eq_getElem hj);rw[ey] at hi
  have hxy:x=y:=by
   have hi:Value.isInt x (.int y tk')=true:=hi;exact (show y=x by simpa [Value.isInt] using hi).symm
  rw[hxy];exact h6.mem_iff.mp (List.mem_of_getElem? hy)
 have mem_of:x∈xs→∃ e∈es.toList,(PySem.intKind P w).is x e.2=true:=fun hx=>by
  have hy:x∈ys:=h6.mem_iff.mpr hx;obtain⟨j,hj,e⟩:=List.getElem_of_mem hy
  have hj':j < es.toList.length:=by rw[Paired.length h5];exact hj
  obtain⟨y,hy2,tk',ey⟩:=Ze3 h5 (List.getElem?_eq_getElem hj');rw[List.getElem?_eq_getElem hj] at hy2;cases hy2;refine⟨_,List.getElem_mem hj',?_⟩;rw[ey,e];show Value.isInt x (.int x tk')=true;simp[Value.isInt]
 cases hf:List.findIdx? (fun e=>(PySem.intKind P w).is x e.2) es.toList with
 | some j =>
  dsimp only;refine wpAny_pure (wpAny_pure ?_)
  have hx:x∈xs:=by
   obtain⟨hj,hp,_⟩:=List.findIdx?_eq_some_iff_getElem.mp hf;exact mem_iff _ (List.getElem_mem hj) hp
  have q:=hQ s.heap (Heap.SameBut.refl _ _) (by rw[if_pos hx];exact⟨o,es,ep,t,ys,h1,h2,h3,h4,h5,h6,h7,h8,h9,h10,h11⟩) false;exact q
 | none =>
  dsimp only
  have hx:x ∉ xs:=fun z=>by
   obtain⟨e,he,hi⟩:=mem_of z;have:=List.findIdx?_eq_none_iff.mp hf e he;rw[hi] at this;cases this
  rw[if_neg hx] at hQ;have lp:=layNew_perm t es ((PySem.intKind P w).hash x) (.int x tk);have lf:=layNew_fits t es ((PySem.intKind P w).hash x) (.int x tk);have ll:=Yy7 t es ((PySem.intKind P w).hash x) (.int x tk);have lpl:=Xo2 h11 es ((PySem.intKind P w).hash x) (.int x tk);generalize layNew t es ((PySem.intKind P w).hash x) (.int x tk)=r at lp lf ll lpl;obtain⟨es1,t1,wd,gv⟩:=r;dsimp only at lp lf ll lpl ⊢
  have hpush:(es.push ((PySem.intKind P w).hash x,Value.int x tk)).toList=es.toList++[((PySem.intKind P w).hash x,Value.int x tk)]:=by simp
  rw[hpush] at lp
  have he1:ElemsOf (PySem.intKind P w) es1.toList:=ElemsOf.perm (l:=es.toList++[((PySem.intKind P w).hash x,Value.int x tk)]) (fun e he=>by
   rcases List.mem_append.mp he with he | he
   ·exact h4 e he
   ·rw[List.mem_singleton.mp he]
    exact⟨⟨x,his,rfl⟩,rfl⟩) lp
  have hp1:Paired (fun (e:Int×Value) (x:Int)=>∃ tk,e.2=.int x tk) (es.toList++[((PySem.intKind P w).hash x,Value.int x tk)]) (ys++[x]):=Zg8 h5 (.cons ⟨tk,rfl⟩ .nil);obtain⟨ys1,p1,q1⟩:=Zy3 lp.symm hp1
  have hsz:es1.size=xs.length+1:=by
   have:=lp.length_eq;rw[List.length_append,List.length_singleton,Array.length_toList,Array.length_toList] at this;walk_at "o"
  have nd:(xs++[x]).Nodup:=by
   rw[List.nodup_append];refine⟨h7,by simp,fun a ha b hb=>?_⟩;rw[List.mem_singleton.mp hb];exact fun z=>hx (z▸ha)
  refine wpAny_bind ?_;cases gv
  all_goals first | refine wpAny_pure ?_ | refine wpAny_rule ?_
  all_goals (
   by_cases hpl:t1.plain=true
   ·rw[if_pos hpl]
    refine wpAny_bind (wpAny_pure ?_);simp only[if_true];refine Ym5 (P:=P) (w:=w) (fun b s₁ Q' q'=>by cases b<;>first | exact wpAny_pure q' | exact wpAny_rule q') h1 h2 h3 he1 q1 (p1.symm.trans (h6.append_right _)) nd (by rw[hsz];exact hz) lf (ll.trans h10) lpl fun h' sb st=>wpAny_pure (hQ h' sb st true)
   ·rw[if_neg hpl]
    refine wpAny_bind (wpAny_pure ?_);simp only[if_true]
    refine Ym5 (P:=P) (w:=w) (fun b s₁ Q' q'=>by cases b<;>first | exact wpAny_pure q' | exact wpAny_rule q') h1 h2 h3 he1 q1 (p1.symm.trans (h6.append_right _)) nd (by rw[hsz];exact hz) lf (ll.trans h10) lpl fun h' sb st=>wpAny_pure (hQ h' sb st true))
end
noncomputable def Ye1 (P:Program) (w:World) (a:Addr) (xs:List Int):HO:=.ext fun h=>SetAtI P w h a xs
theorem Yt7 {P:Program} {w:World} {H:Hp} {h:Heap} {a:Addr} {xs:List Int} (s:SetAtI P w h a xs):ObjOk P w H h a (Ye1 P w a xs):=by
 obtain⟨o,es,ep,t,ys,h1,r⟩:=id s;exact⟨s,⟨o,h1⟩,fun h1 h2 z k=>SetAtI.at z k⟩
theorem Yt8 {P:Program} {w:World} {H:Hp} {h:Heap} {a:Addr} {xs:List Int} (ok:HOk P w H h) (e:H a=some (Ye1 P w a xs)):SetAtI P w h a xs:=(ok a _ e).1
theorem Yx7 {P:Program} {w:World} {h:Heap} {a:Addr} (e:h.get? a=some (Yn9 w)):SetAtI P w h a [] :=
 ⟨_,#[],0,_,[],e,⟨rfl,rfl,rfl⟩,rfl,fun e he=>by simp at he,.nil,.nil,List.nodup_nil,by decide,rfl,rfl,Xo1⟩
section
variable {P:Program} {w:World} {A:Around} {E:Value→Shared→Prop} {s:Shared}
theorem Xa1 {a:Addr} {x:Int} {tk:Tok} {xs:List Int} {Q:Value→Shared→Prop} (hs:SetAtI P w s.heap a xs) (hz:xs.length+1 < scanBound)
  (hQ:∀ h' tk',Heap.SameBut a s.heap h'→SetAtI P w h' a (if x∈xs then xs else xs++[x])→Q .none { s with heap:=h',toks:=tk' }) :
  wpAny (model P w) A (call (.builtin "set.add") [.ref a,.int x tk]) Q E s:=by
 have hT:s.TypeIs (.ref a) "set":=by
  obtain⟨o,es,ep,t,ys,h1,h2,r⟩:=id hs;exact⟨o,h1,h2.1⟩
 have his:(PySem.intKind P w).is x (.int x tk)=true:=by
  show Value.isInt x (.int x tk)=true;simp[Value.isInt]
 refine wpAny_call_entry F.slot_set_add hT F.entry_set_add ?_ (F.args_set_add_2 (.ref a) (.int x tk));show wpAny _ _ (Builtin.Frozenset.oneOther "add" { pos:=[.ref a,.int x tk] } >>= _) _ _ _;refine wpAny_bind ?_;show wpAny _ _ (Builtin.Frozenset.addrOf (.ref a) >>= fun d=>pure (d,Value.int x tk)) _ _ _;refine wpAny_bind (wpAny_pure (wpAny_pure ?_));show wpAny _ _ (setAdd a (.int x tk) >>= _) _ _ _;refine wpAny_bind (wpAny_holding (wpAny_bind ((PySem.intKind P w).pyHash his ?_)));exact Yo0 hs hz fun h' sb st b=>wpAny_pure ⟨_,rfl,hQ h' _ sb st⟩
end
def Yp8 (P:Program) (w:World) (te:TE) (acc:Addr):TK:=fun σ H N=>te σ H fun y H5=>∃ x xs,y=.int x∧H5 acc=some (Ye1 P w acc xs)∧xs.length < 4000∧N (upd H5 acc (Ye1 P w acc (if x∈xs then xs else xs++[x])))
theorem Xe7 {P:Program} {w:World} {Y:Cx} {elt:Expr} {te:TE} {acc:Addr} (hP:Y.prog=P) (hw:Y.w=w) (he:PE Y elt te):PTn Y (Xj9 elt (.ref acc) Y.env) (Yp8 P w te acc):=by with_unfolding_all
 subst hP hw;intro pins s σ H N I h;refine wpAny_bind (thn (he pins s σ H _ I h) fun v s7 zq=>?_);obtain⟨y,H7,I7,r7,x,xs,e,ha7,hlen,n⟩:=zq;subst e;obtain⟨tk,rfl⟩:=r7;have st:=Yt8 I7.hok ha7;refine wpAny_bind (wpAny_standAt (wpAny_bind (Xa1 st (Nat.lt_of_lt_of_le (Nat.add_lt_add_right hlen 1) (by decide)) fun h' tk' sb st'=>wpAny_pure ?_)));obtain⟨o,es,ep,t,ys,h1,r⟩:=id st';have I8:=I7.write (x:=acc) (e:=acc) (o:=Ye1 Y.prog Y.w acc (if x∈xs then xs else xs++[x])) (t':=tk') (by rw[ha7];exact True.intro) (.inl rfl) (fun b u hb e=>(sb.2 b hb).trans e) ⟨o,h1⟩ (Yt7 st');exact⟨σ,_,I8,Wk.refl _,n⟩
section
variable {X:Cx} {scope:Scope} {cl:List (Str×Addr)} {N':List Str} {nt:Nat} {ci:List Nat} {pins:List (Addr×Obj)} {σ:St} {H:Hp} {s:Shared}
theorem We0 {P:Program} {w:World} {elt tg iter:Expr} {ifs:List Expr} {gs:List Comprehension} {pos p0:Pos} {wi:TI} {g:TG} {tk:Addr→TK} {body:Addr→Env→Sem Unit} (hP:X.prog=P) (hw:X.w=w) (B:X.Ok→BlkOk X scope cl N' nt ci) (hc:X.calm=true) (hi:PI X tg iter wi)
  (hg:∀ s H C ex,PG (blk X N' scope cl s H C ex) tg g) (htn:∀ a env,Zs1 (.SetComp elt (⟨tg,iter,ifs,0⟩ :: gs) scope pos) 0 tg p0 (.ref a) env (body a env))
  (hb:∀ s H C ex a,PTn (blk X N' scope cl s H C ex) (body a (blk X N' scope cl s H C ex).env) (tk a)) (hs:∀ x,foldedSetIterable iter X.env x=pure x:=by intro _;rfl) :
  PE X (.SetComp elt (⟨tg,iter,ifs,0⟩ :: gs) scope pos) (Zt7 nt ci wi g tk fun a=>Ye1 P w a []):=by with_unfolding_all
 subst hP hw;intro pins s σ H Q I h;rw[arm_eval_SetComp];refine Xr2 (B I.ok) hc hi hg rfl (fun _ _=>Wn0) htn hb (ob:=Yn9 X.w) (fun h=>Xx7 h) rfl (fun H h a e _=>Yt7 (Yx7 e)) hs I h fun acc C s' H' I' q hm hf ho=>?_;obtain⟨m,hm⟩:=hm;obtain⟨f0,f1,f2,f3,f4,f5⟩:=hf;exact⟨m,hm,fun h' sb=>⟨.ref acc,H',I'.turned (t':=s'.toks) (fun b o hb e=>(sb.2 b hb).trans e) f0 f1 f3 f4 f5,rfl,q⟩⟩
end
section
variable {P:Program} {w:World} {A:Around} {E:Value→Shared→Prop} {s:Shared}
theorem Yq0 {es:List (Int×Value)} {ys:List Int} (h:Paired (fun (e:Int×Value) (x:Int)=>∃ tk,e.2=.int x tk) es ys):IntsAre (es.map (·.2)) ys:=by
 induction h with
 | nil=>exact .nil
 | cons hx _ ih =>
  obtain⟨tk,e⟩:=hx;rw[List.map_cons,e];exact .cons _ tk ih
theorem Xi1 {us vs:List Value} {ys:List Int} (p:List.Perm us vs) (h:IntsAre us ys):∃ zs,List.Perm ys zs∧IntsAre vs zs:=by
 induction p generalizing ys with
 | nil=>cases h;exact⟨[],.nil,.nil⟩
 | cons x _ ih =>
  cases h with
  | cons n tk t =>
   obtain⟨zs,p',q'⟩:=ih t;exact⟨_ :: zs,.cons _ p',.cons _ tk q'⟩
 | swap x y l =>
  cases h with
  | cons n tk t =>
   cases t with
   | cons n2 tk2 t=>exact⟨_,.swap _ _ _,.cons _ tk2 (.cons _ tk t)⟩
 | trans _ _ ih1 ih2 =>
  obtain⟨m1,p1,q1⟩:=ih1 h;obtain⟨m2,p2,q2⟩:=ih2 q1;exact⟨m2,p1.trans p2,q2⟩
theorem Yn6 {a:Addr} {xs:List Int} {Q:Value→Shared→Prop} (hh:A.handled=none) (st:SetAtI P w s.heap a xs) (h64:xs.length < 64)
  (hQ:∀ (D:Addr) (h':Heap) (tk:Nat) (d:Drawn) (out:List Value) (c:Nat) (ys:List Int),s.heap.objs.size≤D→(∀ b o,s.heap.get? b=some o→h'.get? b=some o)→h'.get? D=some { cls:=.type "list",data:=.seq out.toArray c }→IntsAre out ys→List.Perm ys xs→Q (.ref D) { s with heap:=h',toks:=tk,drawn:=d }) :
  wpAny (model P w) A (call (.builtin "sorted") [.ref a]) Q E s:=by
 obtain⟨o,es,ep,t,ys,h1,h2,h3,h4,h5,h6,h7,h8,h9,h10,h11⟩:=st
 have hlen:es.size=xs.length:=by have:=Paired.length h5;have:=h6.length_eq;rw[← Array.length_toList];walk_at "o"
 refine Calls.call_function_entry kind_sorted plain_sorted entry_sorted (args_sorted1 (.ref a)) ?_;show wpAny _ _ (pure () >>= _) _ _ _;refine wpAny_bind (wpAny_pure (wpAny_bind (Yl3 (A:=A.in1) hh h1 h2 h3 h9 h10 h11 (by rw[hlen];exact Nat.le_trans (Nat.le_of_lt h64) (by decide)) fun h' tk d vs hlt k hperm=>?_)));obtain⟨zs,pz,sz⟩:=Xi1 hperm.symm (Yq0 h5)
 have hvl:vs.length=xs.length:=by have:=hperm.length_eq;rw[List.length_map] at this;have e:=Array.length_toList (xs:=es);walk_at "o"
 refine wpAny_bind (wpAny_newList ?_ (by rw[hvl];exact Nat.le_trans (Nat.le_of_lt h64) (by decide)));have hoL:(h'.push (seqObj "list" vs.toArray 0)).get? h'.objs.size=some (seqObj "list" vs.toArray 0):=Heap.get?_push_size _ rfl;refine wpAny_bind (wpAny_holding (wpAny_call_entry slot_list_sort ⟨_,hoL,rfl⟩ entry_list_sort (list_sort_tree hoL sz (by rw[hvl];exact h64) fun out ns' a1 a2 a3=>⟨_,rfl,?_⟩) (args_list_sort (.ref h'.objs.size))));obtain⟨c,hc⟩:=sortedHeap_at (out:=out) hoL;refine wpAny_pure ⟨_,rfl,?_⟩;have hsz:s.heap.objs.size≤h'.objs.size:=Nat.le_of_lt hlt
 exact hQ h'.objs.size _ tk d out.toList c ns' hsz (fun b ob e=>by
  have hb:=k b ob e;rw[sortedHeap_old (Nat.ne_of_lt (Heap.lt_size hb)) (by rw[Heap.size_push];exact Nat.lt_succ_of_lt (Heap.lt_size hb))]
  exact Heap.get?_push_of_some _ hb) (hc.trans (by rw[Array.toArray_toList])) a1 (a2.trans (pz.symm.trans h6))
end
section
variable {X:Cx}
theorem Yg8 {P:Program} {w:World} (hP:X.prog=P) (hw:X.w=w) (hc:X.calm=true):Yh1 X (.builtin "sorted") (fun vs H Q=>∃ (a:Addr) (xs:List Int),vs=[.ref a]∧H a=some (Ye1 P w a xs)∧xs.length < 64∧∀ l ys,H l=none→List.Perm ys xs→Q (.ref l) (upd H l (.lst (ys.map V.int)))):=by
 subst hP hw;intro pins s σ H vs us Q I r h;obtain⟨a,xs,rfl,ha,hn,q⟩:=h;obtain⟨u,rfl,ru⟩:=Ym7 r;cases ru;refine Yn6 (I.ok.hd hc) (Yt8 I.hok ha) hn fun D h' tk d out c ys hD k hD' hs hp=>?_;have hl:H D=none:=I.hok.fresh hD
 have yl:ys.length < 64:=by rw[hp.length_eq];exact hn
 have ok:ObjOk X.prog X.w (upd H D (.lst (ys.map V.int))) h' D (.lst (ys.map V.int)):=⟨by rw[List.length_map];exact Nat.le_trans (Nat.le_of_lt yl) (by decide),out,c,Zw0 hs,hD'⟩;exact⟨.ref D,_,I.call (g':=s.gens) (t':=tk) (d':=d) (ch:=[]) (Un.laid k hD hl) (I.hok.laid k hD ok) I.bare (fun b z=>absurd z (by simp)),rfl,q D ys hl hp⟩
end
theorem Xy4 {K:W.Frag} {σ0:St} {a:Addr} {xs:List V} {acc:Addr} {g:TG} {te:TE} {Q:VK} {H:Hp} (Pv:Nat→List V→Hp→Prop) (h0:Pv 0 [] (upd H acc (.lst []))) (hl:∀ i ys H2,i≤xs.length→Pv i ys H2→H2 acc=some (.lst ys)∧ys.length < sizeLine∧SqT K H2 a xs)
  (hs:∀ i x ys H2,xs[i]?=some x→Pv i ys H2→∀ C:VK,(∀ y H5,H5 acc=some (.lst ys)→Pv (i+1) (ys++[y]) (upd H5 acc (.lst (ys++[y])))→C y H5)→g x σ0 H2 fun σ4 H4=>Wk σ0 σ4∧te σ4 H4 C) (hd:∀ ys H2,Pv xs.length ys H2→Q (.ref acc) H2) :
  ∃ W:Nat→Nat→List V→Hp→Prop,(∃ m,W 0 m [] (upd H acc (.lst [])))∧lcW K σ0 (Itt K a) acc g te Q W:=by
 refine⟨fun i m ys H2=>m=xs.length - i∧i≤xs.length∧Pv i ys H2,⟨xs.length,by simp,Nat.zero_le _,h0⟩,?_⟩;rintro i m ys H2 ⟨rfl,hi,p⟩;obtain⟨e1,e2,q⟩:=hl i ys H2 hi p;refine⟨e1,e2,?_⟩
 by_cases hlt:i < xs.length
 ·refine .inr ⟨⟨xs,xs[i],q,by simp[hlt]⟩,fun x H3 y=>?_⟩
  obtain⟨e,y⟩:=y;subst e;exact hs i x ys _ (y xs q) p _ fun v H5 z1 z2=>⟨z1,xs.length - (i+1),by walk_at "o",rfl,hlt,z2⟩
 ·have e:i=xs.length:=by walk_at "o"
  subst e;exact .inl ⟨⟨xs,q,Nat.le_refl _⟩,hd ys H2 p⟩
section
variable {X:Cx}
theorem Xx0 {K:W.Frag} {o:Expr} {to:TE} {name:Str} {apos cpos:Pos} {T id:String} {r:V→List V→Hp→VK→Prop} (hK:X.K=K) (pa:PlainAttrs T) (slot:Slot T name id) (hty:typeOf (.builtin id)=pure (.type "method_descriptor")) (hm:MtR X id r) (ho:PE X o to)
  (hbase:attributeBase o name X.env (eval o X.env)=eval o X.env:=by rfl) (hline:(apos.endLine == cpos.line)=true:=by rfl):PE X (.Call (.Attribute o name apos) [] [] cpos) (tBM0 K T r to):=by
 subst hK;exact Xs5 pa slot hty hm ho hbase hline
end
theorem Xj8 {lo:Int} {n:Nat} {g:TG} {tb:TS} {D:Ends} {σ:St} {H:Hp} (Pv:Nat→St→Hp→Prop) (h0:Pv 0 σ H)
  (hs:∀ i σ H,i < n→Pv i σ H→∀ N:St→Hp→Prop,(∀ σ' H',Pv (i+1) σ' H'→N σ' H')→g (.int (lo - i)) σ H fun σ2 H2=>tb { D with nx:=N,ct:=N,bk:=D.nx } σ2 H2) (hd:∀ σ H,Pv n σ H→D.nx σ H) :
  ∃ W:Nat→Nat→St→Hp→Prop,(∃ m,W 0 m σ H)∧∀ i m σ H,W i m σ H →
   ((Itd lo n).stop i H∧D.nx σ H)∨((Itd lo n).go i H∧∃ N:St→Hp→Prop,(∀ σ' H',N σ' H'→∃ m',m' < m∧W (i+1) m' σ' H')∧∀ x H',(Itd lo n).yld i H x H'→g x σ H' fun σ2 H2=>tb { D with nx:=N,ct:=N,bk:=D.nx } σ2 H2) :=
 Xq6 Pv h0 (fun i σ H hi hp=>hs i σ H hi hp _ fun _ _ z=>z) hd
theorem Xj6 {K:W.Frag} {a b:Addr} {xs ys:List V} {g:TG} {tb:TS} {D:Ends} {σ:St} {H:Hp} (Pv:Nat→St→Hp→Prop) (hxy:xs.length=ys.length) (h0:Pv 0 σ H) (hl:∀ i σ H,i≤xs.length→Pv i σ H→SqT K H a xs∧SqL K H b ys)
  (hs:∀ i x y σ H T,i < xs.length→xs[i]?=some x→ys[i]?=some y→H T=none→Pv i σ H→∀ N:St→Hp→Prop,(∀ σ' H',Pv (i+1) σ' H'→N σ' H')→g (.ref T) σ (upd H T (.tup [x,y])) fun σ2 H2=>tb { D with nx:=N,ct:=N,bk:=D.nx } σ2 H2) (hd:∀ σ H,Pv xs.length σ H→D.nx σ H) :
  ∃ W:Nat→Nat→St→Hp→Prop,(∃ m,W 0 m σ H)∧∀ i m σ H,W i m σ H →
   ((ItzX K a b).stop i H∧D.nx σ H)∨((ItzX K a b).go i H∧∃ N:St→Hp→Prop,(∀ σ' H',N σ' H'→∃ m',m' < m∧W (i+1) m' σ' H')∧∀ x H',(ItzX K a b).yld i H x H'→g x σ H' fun σ2 H2=>tb { D with nx:=N,ct:=N,bk:=D.nx } σ2 H2) :=
 Xq3 Pv hxy h0 hl (fun i x y σ H T h1 h2 h3 h4 h5=>hs i x y σ H T h1 h2 h3 h4 h5 _ fun _ _ z=>z) hd
theorem Xj7 {K:W.Frag} {a:Addr} {xs:List V} {g:TG} {tb:TS} {D:Ends} {σ:St} {H:Hp} (Pv:Nat→St→Hp→Prop) (h0:Pv 0 σ H) (hl:∀ i σ H,i≤xs.length→Pv i σ H→SqL K H a xs)
  (hs:∀ i x σ H,xs[i]?=some x→Pv i σ H→∀ N:St→Hp→Prop,(∀ σ' H',Pv (i+1) σ' H'→N σ' H')→g x σ H fun σ2 H2=>tb { D with nx:=N,ct:=N,bk:=D.nx } σ2 H2) (hd:∀ σ H,Pv xs.length σ H→D.nx σ H) :
  ∃ W:Nat→Nat→St→Hp→Prop,(∃ m,W 0 m σ H)∧∀ i m σ H,W i m σ H →
   ((Itl K a).stop i H∧D.nx σ H)∨((Itl K a).go i H∧∃ N:St→Hp→Prop,(∀ σ' H',N σ' H'→∃ m',m' < m∧W (i+1) m' σ' H')∧∀ x H',(Itl K a).yld i H x H'→g x σ H' fun σ2 H2=>tb { D with nx:=N,ct:=N,bk:=D.nx } σ2 H2) :=
 Xq5 Pv h0 hl (fun i x σ H h1 h2=>hs i x σ H h1 h2 _ fun _ _ z=>z) hd
end L2
namespace Ken
open PySem L2
noncomputable def Xs3 (p:Pf):PyData:=.tuple [p.1.data,.int (p.2:Nat)]
abbrev IsPf (K:W.Frag) (H:Hp) (v:V) (p:Pf):Prop:=Dn K H v (Xs3 p)
theorem Zq1 (p:Pf):L2.noList (Xs3 p)=true:=by
 show (L2.noList p.1.data&&(true&&true))=true;rw[p.1.noList];rfl
theorem IsPf.keep {K:W.Frag} {H H':Hp} {v:V} {p:Pf} (h:IsPf K H v p) (k:KeepT K H H'):IsPf K H' v p:=Dn.keepT k (Zq1 p) h
theorem isPf {K:W.Frag} {H:Hp} {v:V} {p:Pf}:IsPf K H v p↔∃ a x,v=.ref a∧SqT K H a [x,.int (p.2:Nat)]∧IsE K H x p.1:=by
 show Dn K H v (.tuple [p.1.data,.int (p.2:Nat)])↔_;rw[dn_tup];constructor
 ·rintro⟨a,xs,rfl,hs,hd⟩
  obtain⟨x,r,rfl,h1,h2⟩:=Zc8 hd;obtain⟨y,r,rfl,h3,h4⟩:=Zc8 h2;rw[dn_int] at h3;rw[DnAll] at h4;subst h3;subst h4;exact⟨a,x,rfl,hs,h1⟩
 ·rintro⟨a,x,rfl,hs,h1⟩
  exact⟨a,_,rfl,hs,dnAll_cons h1 (dnAll_cons (dn_int.mpr rfl) dnAll_nil)⟩
noncomputable def innV (aT:Nat→Addr):List (Str×V):=[("at",.ref (aT 0)),("pair",.ref (aT 1)),("left",.ref (aT 2)),("right",.ref (aT 3)),("first",.ref (aT 4)),("second",.ref (aT 5)),("cases",.ref (aT 6)),("fun",.ref (aT 7)),("use",.ref (aT 8)),("off",.ref (aT 9))]
def innRow (K:W.Frag) (a:Addr) (r:List (Nat×Nat)):Prop:=∀ H,Dn K H (.ref a) (.tuple (r.map fun p=>.tuple [.int (p.1:Nat),.int (p.2:Nat)]))
noncomputable def Xz2:List (List (Nat×Nat)):=[[],[(1,0),(2,0)],[(1,0)],[(1,0)],[(1,0)],[(1,0)],[(1,0),(2,1),(3,1)],[(2,1)],[(1,0),(2,0)],[(1,0)]]
structure Inn (K:W.Frag) (aT:Nat→Addr):Prop where
 row:∀ i r,Xz2[i]?=some r→innRow K (aT i) r
theorem Xi3 {K:W.Frag} {aT:Nat→Addr} (h:Inn K aT) (t:Te):∃ a,(innV aT).lookup t.tag=some (.ref a)∧innRow K a t.inn:=by
 cases t with
 | «at» k=>exact⟨_,rfl,h.row 0 _ rfl⟩
 | one u a ss =>
  cases u
  ·exact⟨_,rfl,h.row 2 _ rfl⟩
  ·exact⟨_,rfl,h.row 3 _ rfl⟩
  ·exact⟨_,rfl,h.row 4 _ rfl⟩
  ·exact⟨_,rfl,h.row 5 _ rfl⟩
  ·exact⟨_,rfl,h.row 9 _ rfl⟩
 | two u a b =>
  cases u
  ·exact⟨_,rfl,h.row 1 _ rfl⟩
  ·exact⟨_,rfl,h.row 8 _ rfl⟩
 | fn s a=>exact⟨_,rfl,h.row 7 _ rfl⟩
 | cs a b c=>exact⟨_,rfl,h.row 6 _ rfl⟩
theorem innRow.sq {K:W.Frag} {a:Addr} {r:List (Nat×Nat)} (h:innRow K a r) (H:Hp):∃ xs,SqT K H a xs∧xs.length=r.length∧∀ (i p m:Nat),r[i]?=some (p,m)→∃ b,xs[i]?=some (V.ref b)∧SqT K H b [.int (p:Nat),.int (m:Nat)]:=by
 obtain⟨a',xs,e,hs,hd⟩:=dn_tup.mp (h H);cases e;refine⟨xs,hs,by rw[DnAll.length hd,List.length_map],fun i p m e=>?_⟩;obtain⟨u,e1,e2⟩:=Zh5 hd (by rw[List.getElem?_map,e];rfl);obtain⟨b,ys,rfl,hb,hy⟩:=dn_tup.mp e2;obtain⟨x,r,rfl,h1,h2⟩:=Zc8 hy;obtain⟨y,r,rfl,h3,h4⟩:=Zc8 h2;rw[dn_int] at h1 h3;rw[DnAll] at h4;subst h1;subst h3;subst h4;exact⟨b,e1,hb⟩
def Zf4 (K:W.Frag):Sp:=fun vs H Q _=>∃ (v:V) (t:Te),vs=[v]∧IsE K H v t∧t.size≤20000 ∧
 ∀ (r:Addr) (H':Hp) (us:List V),Same H H'→H r=none→H' r=some (.lst us)→Paired (IsPf K H') us (t.pre 0)→Q (.ref r) H'
def Zw8 (K:W.Frag):Sp:=fun vs H Q _=>∃ (v:V) (t:Te) (l:Addr) (us:List V) (ks:List Te),vs=[v,.ref l]∧IsE K H v t∧SqL K H l us∧Paired (IsE K H) us ks∧ks.length=t.kids.length ∧
 ∀ (r:V) (H':Hp),Same H H'→IsE K H' r (t.withK ks)→Q r H'
noncomputable abbrev RP:=Hp→Pf→V→Prop
def Yi4 (J:Hp→Prop) (R:RP) (p0:Pf):Sp:=fun vs H Q _=>∃ (n:Nat) (p:Pf) (l:Addr) (us:List V),vs=[.int (n:Nat),.ref l]∧J H∧(preP p0)[n]?=some p∧H l=some (.lst us)∧Paired (fun u k=>R H k u) us (Zh7 p) ∧
 ∀ (r:V) (H':Hp),Same H H'→R H' p r→Q r H'
def Zp4 (K:W.Frag) (J:Hp→Prop) (R:RP) (p0:Pf) (f:Addr):Sp:=fun vs H Q _=>∃ (l:Addr) (us:List V),vs=[.ref l,.ref f]∧J H∧SqL K H l us∧Paired (IsPf K H) us (preP p0)∧p0.1.size≤20000 ∧
 ∀ (r:V) (H':Hp),Same H H'→R H' p0 r→Q r H'
def Zx0 (K:W.Frag) (J:Hp→Prop) (F:Nat→Nat→Te) (A:Nat→Nat→Prop):Sp:=fun vs H Q _=>∃ (k f:Nat),vs=[.int (k:Nat),.int (f:Nat)]∧J H∧A k f∧∀ (r:V) (H':Hp),Same H H'→IsE K H' r (F k f)→Q r H'
theorem opq {P:(St→Hp→Prop)→Prop} {I:St→Hp→Prop} (h:∀ N:St→Hp→Prop,(∀ σ' H',I σ' H'→N σ' H')→P N):∃ N:St→Hp→Prop,(∀ σ' H',N σ' H'→I σ' H')∧P N:=⟨I,fun _ _ z=>z,h I fun _ _ z=>z⟩
theorem Xh1 {p:Pf} {i:Nat} {k:Te} {m:Nat} (h:p.1.kids[i]?=some (k,m)):(Zh7 p)[i]?=some (k,p.2+m):=by
 unfold Zh7;rw[List.getElem?_map,h];rfl
end Ken
namespace Hd
open PySem PySem.W PySem.Calls PySem.Spec PyProof.Rows L2
noncomputable def Xz0:Value→Option Int
 | .int i _=>some i
 | _=>none
noncomputable def Wd4:Value→Option Addr
 | .ref a=>some a
 | _=>none
noncomputable def Zv7 (K:Frag) (v:Value):Option (Value×Nat×List (Option Int)):=match v with
 | .ref a=>(match K.lookup a with
  | some ⟨c,_,.seq vs _,_⟩=>some (c,vs.toList.length,vs.toList.map Xz0)
  | _=>none)
 | _=>none
noncomputable def Ye4 (K:Frag) (v:Value):Option (Value×Nat×List (Option (Value×Nat×List (Option Int)))):=match v with
 | .ref a=>(match K.lookup a with
  | some ⟨c,_,.seq vs _,_⟩=>some (c,vs.toList.length,vs.toList.map (Zv7 K))
  | _=>none)
 | _=>none
noncomputable abbrev InD:=Value×Option Addr×Array (Option Value)×Bool×List (Int×Option Str×Option (Value×Nat×List (Option (Value×Nat×List (Option Int)))))
noncomputable def inSeen (K:Frag) (x:Str):Option InD:=match Zj2 K x with
 | some (a,⟨c,od,.dict es _,sl⟩)=>some (c,od,sl,a == sysModules,es.toList.map fun e=>(e.hash,Zu6 e.key,Ye4 K e.val))
 | _=>none
noncomputable def Yf5 (p:Nat×Nat):Option (Value×Nat×List (Option Int)):=some (.type "tuple",2,[some (p.1:Int),some (p.2:Int)])
noncomputable def Yo2 (r:List (Nat×Nat)):Option (Value×Nat×List (Option (Value×Nat×List (Option Int)))):=some (.type "tuple",r.length,r.map Yf5)
noncomputable def inWant (P:Params) (kvs:List (Str×List (Nat×Nat))):Option InD:=some (.type "dict",none,#[],false,kvs.map fun kv=>(PyData.keyHash P kv.1,some kv.1,Yo2 kv.2))
noncomputable def innK:List (Str×List (Nat×Nat)):=[("at",[]),("pair",[(1,0),(2,0)]),("left",[(1,0)]),("right",[(1,0)]),("first",[(1,0)]),("second",[(1,0)]),("cases",[(1,0),(2,1),(3,1)]),("fun",[(2,1)]),("use",[(1,0),(2,0)]),("off",[(1,0)])]
theorem Xx1 {K:Frag} {v:Value} {p:Nat×Nat} (e:Zv7 K v=Yf5 p):∃ b,v=.ref b∧∀ H,SqT K H b [.int (p.1:Nat),.int (p.2:Nat)]:=by
 unfold Zv7 at e
 split at e
 ·rename_i a
  split at e
  ·rename_i c od vs n sl h
   have e:=Option.some.inj e;simp only[Prod.mk.injEq] at e;obtain⟨rfl,e2,e3⟩:=e;refine⟨a,rfl,fun H=>.inr ⟨_,vs,n,h,rfl,rfl,?_,?_⟩⟩
   ·rw[Array.length_toList] at e2
    rw[e2];decide
   ·match hv:vs.toList,e2,e3 with
    | [x,y],_,e3 =>
     have f1:=(List.cons.inj e3).1;have f2:=(List.cons.inj (List.cons.inj e3).2).1;refine .cons ?_ (.cons ?_ .nil)
     ·unfold Xz0 at f1;split at f1
      ·cases f1;exact⟨_,rfl⟩
      ·cases f1
     ·unfold Xz0 at f2;split at f2
      ·cases f2;exact⟨_,rfl⟩
      ·cases f2
  ·cases e
 ·cases e
theorem Yu7 {K:Frag}:∀ {r:List (Nat×Nat)} {vs:List Value},vs.map (Zv7 K)=r.map Yf5→∃ xs:List V,Vals xs vs∧∀ H,DnAll K H xs (r.map fun p=>.tuple [.int (p.1:Nat),.int (p.2:Nat)])
 | [],[],_=>⟨[],.nil,fun H=>Ken.dnAll_nil⟩
 | [],_ :: _,e=>by cases e
 | _ :: _,[],e=>by cases e
 | p :: r,v :: vs,e=>by
  obtain⟨b,rfl,hb⟩:=Xx1 (List.cons.inj e).1;obtain⟨xs,h1,h2⟩:=Yu7 (List.cons.inj e).2;exact⟨.ref b :: xs,.cons rfl h1,fun H=>Ken.dnAll_cons (Ken.dn_tup.mpr ⟨b,_,rfl,hb H,Ken.dnAll_cons (Ken.dn_int.mpr rfl) (Ken.dnAll_cons (Ken.dn_int.mpr rfl) Ken.dnAll_nil)⟩) (h2 H)⟩
theorem Wd2 {K:Frag} {v:Value} {r:List (Nat×Nat)} (hr:r.length≤sizeLine) (e:Ye4 K v=Yo2 r):∃ b,v=.ref b∧Ken.innRow K b r:=by
 unfold Ye4 at e
 split at e
 ·rename_i a
  split at e
  ·rename_i c od vs n sl h
   have e:=Option.some.inj e;simp only[Prod.mk.injEq] at e;obtain⟨rfl,e2,e3⟩:=e;obtain⟨xs,h1,h2⟩:=Yu7 e3;refine⟨a,rfl,fun H=>Ken.dn_tup.mpr ⟨a,xs,rfl,.inr ⟨_,vs,n,h,rfl,rfl,?_,h1⟩,h2 H⟩⟩;rw[Array.length_toList] at e2;rw[e2];exact hr
  ·cases e
 ·cases e
theorem Xi4 {K:Frag} {w:World}:∀ {kvs:List (Str×List (Nat×Nat))} {es:List DictEntry},(∀ kv∈kvs,kv.2.length≤sizeLine)→es.map (fun e=>(e.hash,Zu6 e.key,Ye4 K e.val))=kvs.map (fun kv=>(PyData.keyHash w.params kv.1,some kv.1,Yo2 kv.2)) →
  ∃ bs:List Addr,bs.length=kvs.length∧Paired (fun (p:Str×V) (e:DictEntry)=>(∃ tk,e.key=.str p.1 tk)∧e.hash=PyData.keyHash w.params p.1∧RelV p.2 e.val) (List.zipWith (fun kv b=>(kv.1,V.ref b)) kvs bs) es∧∀ (i:Nat) (kv:Str×List (Nat×Nat)) (b:Addr),kvs[i]?=some kv→bs[i]?=some b→Ken.innRow K b kv.2
 | [],[],_,_=>⟨[],rfl,.nil,fun i kv b h=>by cases i<;>cases h⟩
 | [],_ :: _,_,h=>by cases h
 | _ :: _,[],_,h=>by cases h
 | kv :: kvs,e :: es,hs,h=>by
  have q1:=(List.cons.inj h).1;simp only[Prod.mk.injEq] at q1;obtain⟨q3,q4,q5⟩:=q1;obtain⟨b,e1,hb⟩:=Wd2 (hs _ (.head _)) q5;obtain⟨bs,h1,h2,h3⟩:=Xi4 (fun kv m=>hs kv (.tail _ m)) (List.cons.inj h).2;refine⟨b :: bs,congrArg Nat.succ h1,.cons ⟨Yd5 q4,q3,e1⟩ h2,fun i kv' b' z1 z2=>?_⟩
  cases i with
  | zero=>cases z1;cases z2;exact hb
  | succ i=>exact h3 i kv' b' z1 z2
theorem in_of {K:Frag} {w:World} {x:Str} (e:inSeen K x=inWant w.params innK):∃ (a:Addr) (aT:Nat→Addr),nsIn K mainGlobals x=some (some (.ref a))∧KDict K w a (Ken.innV aT)∧Ken.Inn K aT:=by
 unfold inSeen at e
 split at e
 ·rename_i a c od es n sl h
  obtain⟨h1,h2⟩:=Xe2 h;have e:=Option.some.inj e;simp only[Prod.mk.injEq] at e;obtain⟨rfl,rfl,rfl,e4,e6⟩:=e;obtain⟨bs,l1,l2,l3⟩:=Xi4 (by decide) e6;refine⟨a,fun i=>bs.getD i 0,h1,⟨⟨_,es,n,h2,⟨rfl,rfl,rfl⟩,rfl,?_⟩,?_,e4⟩,⟨fun i r hr=>?_⟩⟩
  ·match bs,l1,l2 with
   | [b0,b1,b2,b3,b4,b5,b6,b7,b8,b9],_,l2=>exact l2
  ·show (["at","pair","left","right","first","second","cases","fun","use","off"]:List Str).Nodup
   decide
  ·have hi:i < 10:=(List.getElem?_eq_some_iff.mp hr).1
   have hb:i < bs.length:=by rw[l1];exact hi
   have ek:∃ kv,innK[i]?=some kv∧kv.2=r:=by
    have:(innK.map (·.2))[i]?=some r:=hr;rw[List.getElem?_map] at this;obtain⟨kv,z1,z2⟩:=Option.map_eq_some_iff.mp this;exact⟨kv,z1,z2⟩
   obtain⟨kv,z1,rfl⟩:=ek;show Ken.innRow K (bs.getD i 0) kv.2;refine l3 i kv _ z1 ?_;simp[List.getD,hb]
 ·cases e
noncomputable def Wk7 (h:Heap):List Addr:=match nsIn (pick h [mainGlobals]) mainGlobals "INNER" with
 | some (some (.ref a))=>a :: (match h.get? a with
  | some ⟨_,_,.dict es _,_⟩=>es.toList.flatMap fun e=>(match e.val with
   | .ref b=>b :: (match h.get? b with
    | some ⟨_,_,.seq vs _,_⟩=>vs.toList.filterMap Wd4
    | _=>[])
   | _=>[])
  | _=>[])
 | _=>[]
end Hd
namespace L2
open PySem PySem.Spec PyProof.Rows
structure SameV (ts:List Addr) (H H':Hp):Prop where
 toT:SameT H H'
 off:∀ b o,b ∉ ts→H b=some o→H' b=some o
 has:∀ b o,H b=some o→∃ o',H' b=some o'
theorem SameV.trans {ts:List Addr} {H H1 H2:Hp} (a:SameV ts H H1) (b:SameV ts H1 H2):SameV ts H H2 :=
 ⟨a.toT.trans b.toT,fun c o n h=>b.off c o n (a.off c o n h),fun c o h=>let ⟨o',h'⟩:=a.has c o h;b.has c o' h'⟩
theorem SameV.mono {ts ts':List Addr} {H H':Hp} (a:SameV ts H H') (h:∀ b∈ts,b∈ts'):SameV ts' H H' :=
 ⟨a.toT,fun c o n e=>a.off c o (fun z=>n (h c z)) e,a.has⟩
theorem Same.toV {ts:List Addr} {H H':Hp} (a:Same H H'):SameV ts H H':=⟨a.toT,fun c o _ h=>a c o h,fun c o h=>⟨o,a c o h⟩⟩
theorem SameU.toV {P:Addr} {H H':Hp} (a:SameU P H H'):SameV [P] H H':=⟨a.toT,fun c o n h=>a.off c o (fun z=>n (by rw[z];simp)) h,fun c o h=>by
 by_cases z:c=P
 ·subst z;exact a.tab o h
 ·exact⟨o,a.off c o z h⟩⟩
theorem SameV.free {ts:List Addr} {H H':Hp} (a:SameV ts H H') {l:Addr} (h:H' l=Option.none):H l=Option.none:=by
 cases e:H l with
 | none=>rfl
 | some o =>
  obtain⟨o',e'⟩:=a.has l o e;rw[h] at e';cases e'
theorem SameV.write {ts:List Addr} {H0 H:Hp} {l:Addr} {o:HO} (e:SameV ts H0 H) (h:H0 l=Option.none):SameV ts H0 (upd H l o):=by
 have ne:∀ {b u},H0 b=some u→b≠l:=fun {b u} q z=>by rw[z,h] at q;cases q
 refine⟨fun b u n q=>?_,fun b u n q=>?_,fun b u q=>?_⟩
 ·rw[Zb0 (ne q)];exact e.toT b u n q
 ·rw[Zb0 (ne q)];exact e.off b u n q
 ·obtain⟨u',h'⟩:=e.has b u q
  exact⟨u',by rw[Zb0 (ne q)];exact h'⟩
theorem SameV.tab {ts:List Addr} {H H':Hp} (a:SameV ts H H') {T:Addr} {ds:List (Pos×Str)} (n:T ∉ ts) (h:TabOk H T ds):TabOk H' T ds:=by
 obtain⟨ps,h1,h2,h3⟩:=h;exact⟨ps,a.off _ _ n h1,h2,fun d hd cv e=>(h3 d hd cv e).keep a.toT⟩
theorem SameV.back {ts:List Addr} {xs:List (Addr×Obj)} {H H2:Hp} (h:SameV ts (remX xs H) H2):SameV ts H (Ya3 xs H H2):=by
 refine⟨fun b o n e=>?_,fun b o n e=>?_,fun b o e=>?_⟩
 ·by_cases z:b∈xs.map (·.1)
  ·rw[Zl5 z];exact e
  ·rw[Zd8 z];exact h.toT b o n (by rw[Zc9 z];exact e)
 ·by_cases z:b∈xs.map (·.1)
  ·rw[Zl5 z];exact e
  ·rw[Zd8 z];exact h.off b o n (by rw[Zc9 z];exact e)
 ·by_cases z:b∈xs.map (·.1)
  ·exact⟨o,by rw[Zl5 z];exact e⟩
  ·rw[Zd8 z];exact h.has b o (by rw[Zc9 z];exact e)
def Xt9 (xs:List (Addr×Obj)) (ds:List (Pos×Str)):Prop:=∀ p∈xs,∀ vs q t,p.2.data=.fields vs→vs[1]?=some (.str q t)→∀ d∈ds,d.2≠q
theorem TabOk.rem {xs:List (Addr×Obj)} {H:Hp} {T:Addr} {ds:List (Pos×Str)} (hx:∀ p∈xs,H p.1=some (FZ p.2)) (hn:Xt9 xs ds) (h:TabOk H T ds):TabOk (remX xs H) T ds:=by
 obtain⟨ps,h1,h2,h3⟩:=h
 have nx:∀ {b u},H b=some u→(∀ p∈xs,b=p.1→u≠FZ p.2)→b ∉ xs.map (·.1):=fun {b u} e n z=>by
  obtain⟨p,hp,rfl⟩:=List.mem_map.mp z;rw[hx p hp] at e;exact n p hp rfl (Option.some.inj e).symm
 refine⟨ps,by rw[Zc9 (nx h1 fun _ _ _ z=>nomatch z)];exact h1,h2,fun d hd cv e=>?_⟩;obtain⟨c,o,vs,t,e1,e2,e3,e4⟩:=h3 d hd cv e;refine⟨c,o,vs,t,e1,?_,e3,e4⟩;rw[Zc9 (nx e2 fun p hp _ z=>?_)]
 ·exact e2
 ·cases z
  exact hn p hp vs d.2 t e3 e4 d hd rfl
theorem TabOk.back {xs:List (Addr×Obj)} {H H2:Hp} {T:Addr} {ds:List (Pos×Str)} (hx:∀ p∈xs,H2 p.1=none) (h:TabOk H2 T ds):TabOk (Ya3 xs H H2) T ds:=by
 obtain⟨ps,h1,h2,h3⟩:=h
 have out:∀ {b:Addr} {u:HO},H2 b=some u→b ∉ xs.map (·.1):=fun {b u} e z=>by
  obtain⟨p,hp,rfl⟩:=List.mem_map.mp z;rw[hx p hp] at e;cases e
 refine⟨ps,by rw[Zd8 (out h1)];exact h1,h2,fun d hd cv e=>?_⟩;obtain⟨c,o,vs,t,e1,e2,e3,e4⟩:=h3 d hd cv e;exact⟨c,o,vs,t,e1,by rw[Zd8 (out e2)];exact e2,e3,e4⟩
theorem TabOk.put {H:Hp} {T l:Addr} {ds:List (Pos×Str)} {o o':HO} (e:H l=some o) (n1:∀ ps,o≠.tbl ps) (n2:∀ b,o≠FZ b) (h:TabOk H T ds):TabOk (upd H l o') T ds:=by
 obtain⟨ps,h1,h2,h3⟩:=h;refine⟨ps,by rw[Zb0 (fun z=>n1 ps (by rw[z,e] at h1;exact Option.some.inj h1))];exact h1,h2,fun d hd cv e'=>?_⟩;obtain⟨c,b,vs,t,e1,e2,e3,e4⟩:=h3 d hd cv e';exact⟨c,b,vs,t,e1,by rw[Zb0 (fun z=>n2 b (by rw[z,e] at e2;exact Option.some.inj e2))];exact e2,e3,e4⟩
theorem FnFz.objs2 {H:Hp} {f:Addr} {name qual:Str} {st:Stmt} {cl:List (Str×Addr)} (h:FnFz H f name qual (Zc5 st) (Zc1 st) (Za3 st) cl) :
  ∃ (o1:Obj) (c:Addr) (o2:Obj),(∀ p∈[(f,o1),(c,o2)],H p.1=some (FZ p.2))∧(∀ p∈[(f,o1),(c,o2)],∀ its n,p.2.data≠.seq its n)∧(∀ ds:List (Pos×Str),(∀ d∈ds,d.2≠qual)→Xt9 [(f,o1),(c,o2)] ds) ∧
   ∀ K:W.Frag,(∀ p∈[(f,o1),(c,o2)],K.lookup p.1=some p.2)→∃ fd,FunC K name qual st cl f fd:=by
 obtain⟨doc,pm,ct,cv,h1,c,o,vs,t,rfl,h3,h4,h5⟩:=h;refine⟨{ cls:=.type "function",data:=.func (W.fnX name qual (Zc5 st) (Zc1 st) (Za3 st) cl .none .none doc pm none (.ref c) ct) },c,o,?_,?_,?_,fun K e=>?_⟩
 rotate_right
 ·have e1:=e _ (List.mem_cons_self ..)
  have e2:=e _ (List.mem_cons_of_mem _ (List.mem_cons_self ..));exact⟨_,⟨_,_,doc,pm,_,ct,_,rfl,e1,Xl5 e2 h4 h5⟩,Zr2 e1⟩
 ·intro p hp
  simp only[List.mem_cons,List.not_mem_nil,or_false] at hp;rcases hp with rfl | rfl
  ·exact h1
  ·exact h3
 ·intro p hp its n z
  simp only[List.mem_cons,List.not_mem_nil,or_false] at hp;rcases hp with rfl | rfl
  ·cases z
  ·rw[h4] at z;cases z
 ·intro ds hds p hp vs' q t' e1 e2 d hd
  simp only[List.mem_cons,List.not_mem_nil,or_false] at hp;rcases hp with rfl | rfl
  ·cases e1
  ·rw[h4] at e1
   cases e1;rw[h5] at e2;cases e2;exact hds d hd
theorem FunC.le {K K':W.Frag} (k:KLe K K') {x qual:Str} {st:Stmt} {cl:List (Str×Addr)} {f:Addr} {fd:FuncData} (F:FunC K x qual st cl f fd):FunC K' x qual st cl f fd:=by
 obtain⟨⟨oc,od,doc,pm,cdv,ct,osl,e,lk,hcd⟩,kp⟩:=F;exact⟨⟨oc,od,doc,pm,cdv,ct,osl,e,k _ _ lk,Zz9 k hcd⟩,by subst e;exact Zr2 (k _ _ lk)⟩
theorem Caught.le {K K':W.Frag} (k:KLe K K') {sc:Scope} {cl:List (Str×Addr)} {fv:List Str} {frv:List V} (C:Caught K sc cl fv frv):Caught K' sc cl fv frv :=
 ⟨C.len,fun i x v e1 e2=>let ⟨c,o,u,g1,g2,g3,g4⟩:=C.cell i x v e1 e2;⟨c,o,u,g1,k _ _ g2,g3,g4⟩,fun x c e=>let ⟨o,v,g1,g2⟩:=C.all x c e;⟨o,v,k _ _ g1,g2⟩,C.inj,C.has⟩
theorem Xx3 {X:Cx} {K:W.Frag} (e:X.K=K) (hu:X.A.units+150 < cLine):OpR X (compareOp .Eq) (rEqD K false):=e▸Xf6 hu
theorem KDict.le {K K':W.Frag} {w:World} {a:Addr} {kvs:List (Str×V)} (k:KLe K K') (h:KDict K w a kvs):KDict K' w a kvs:=by
 obtain⟨⟨o,es,ep,lk,r⟩,nd,ns⟩:=h;exact⟨⟨o,es,ep,k _ _ lk,r⟩,nd,ns⟩
theorem KLe.trans {K K1 K2:W.Frag} (a:KLe K K1) (b:KLe K1 K2):KLe K K2:=fun c o h=>b c o (a c o h)
end L2
namespace Ken
open PySem L2
theorem Zo4 {α β γ:Type} {F:α→β→Prop} {G:α→γ→Prop} {f:β→γ} (h:∀ x y,F x y→G x (f y)):∀ {l:List α} {m:List β},Paired F l m→Paired G l (m.map f)
 | _,_,.nil=>.nil
 | _,_,.cons a t=>.cons (h _ _ a) (Zo4 h t)
theorem Xr7 {t:Te} (h:t.tag="at"):∃ k,t=.at k:=by
 cases t with
 | «at» k=>exact⟨k,rfl⟩
 | one u a ss=>exact absurd (show u.str="at" from h) (by cases u<;>decide)
 | two u a b=>exact absurd (show u.str="at" from h) (by cases u<;>decide)
 | fn s a=>exact absurd (show ("fun":Str)="at" from h) (by decide)
 | cs a b c=>exact absurd (show ("cases":Str)="at" from h) (by decide)
theorem Xg9:∀ {ss:List Tm},(∀ s∈ss,s.ok)→PyData.canLayAll0 (ss.map Tm.data)=true
 | [],_=>rfl
 | s :: ss,h=>by
  show (s.data.canLay0&&PyData.canLayAll0 (ss.map Tm.data))=true;rw[s.lay (h s List.mem_cons_self),Xg9 fun x hx=>h x (List.mem_cons_of_mem _ hx)];rfl
theorem Te.lay:∀ {t:Te},t.all Tm.ok→t.data.canLay0=true
 | .at k,_=>by
  show (PyData.strOk "at"&&(true&&true))=true;decide +kernel
 | .one u a ss,h=>by
  show (PyData.strOk u.str&&(a.data.canLay0&&PyData.canLayAll0 (ss.map Tm.data)))=true;rw[Te.lay h.1,Xg9 h.2]
  cases u<;>decide +kernel
 | .two u a b,h=>by
  show (PyData.strOk u.str&&(a.data.canLay0&&(b.data.canLay0&&true)))=true;rw[Te.lay h.1,Te.lay h.2]
  cases u<;>decide +kernel
 | .fn s a,h=>by
  show (PyData.strOk "fun"&&(s.data.canLay0&&(a.data.canLay0&&true)))=true;rw[s.lay h.1,Te.lay h.2];decide +kernel
 | .cs a b c,h=>by
  show (PyData.strOk "cases"&&(a.data.canLay0&&(b.data.canLay0&&(c.data.canLay0&&true))))=true;rw[Te.lay h.1,Te.lay h.2.1,Te.lay h.2.2];decide +kernel
theorem Wk3 (k:Nat):(Te.at k).data.canLay0=true:=Te.lay (t:=.at k) trivial
theorem Wj5 {t:Te} {f:Nat}:PyData.eqv t.data (Te.at f).data=decide (t=.at f):=by
 cases t with
 | «at» k =>
  show PyData.eqvAll [.str "at",.int (k:Nat)] [.str "at",.int (f:Nat)]=_
  have e:PyData.eqvAll [.str "at",.int (k:Nat)] [.str "at",.int (f:Nat)]=((k:Int) == (f:Int)):=by simp[PyData.eqvAll,PyData.eqv]
  rw[e]
  by_cases h:k=f
  ·subst h;simp
  ·rw[decide_eq_false (by simpa using h)]
   exact beq_eq_false_iff_ne.mpr (by walk_at "o")
 | one u a ss =>
  have e:PyData.eqv (Te.one u a ss).data (Te.at f).data=false:=by
   show PyData.eqvAll (.str u.str :: a.data :: ss.map Tm.data) [.str "at",.int (f:Nat)]=false
   have n:¬ u.str="at":=by cases u<;>decide
   simp[PyData.eqvAll,PyData.eqv,n]
  rw[e];exact (decide_eq_false (by simp)).symm
 | two u a b =>
  have e:PyData.eqv (Te.two u a b).data (Te.at f).data=false:=by
   show PyData.eqvAll [.str u.str,a.data,b.data] [.str "at",.int (f:Nat)]=false;simp[PyData.eqvAll]
  rw[e];exact (decide_eq_false (by simp)).symm
 | fn s a =>
  have e:PyData.eqv (Te.fn s a).data (Te.at f).data=false:=by
   show PyData.eqvAll [.str "fun",s.data,a.data] [.str "at",.int (f:Nat)]=false;simp[PyData.eqvAll]
  rw[e];exact (decide_eq_false (by simp)).symm
 | cs a b c =>
  have e:PyData.eqv (Te.cs a b c).data (Te.at f).data=false:=by
   show PyData.eqvAll [.str "cases",a.data,b.data,c.data] [.str "at",.int (f:Nat)]=false;simp[PyData.eqvAll]
  rw[e];exact (decide_eq_false (by simp)).symm
noncomputable def Te.bnd:Te→Nat
 | .at _=>1
 | .one _ a _=>a.bnd
 | .two _ a b=>max a.bnd b.bnd
 | .fn _ a=>1+a.bnd
 | .cs a b c=>max a.bnd (1+max b.bnd c.bnd)
theorem Yh0:∀ t:Te,1≤t.bnd
 | .at _=>Nat.le_refl _
 | .one _ a _=>Yh0 a
 | .two _ a b=>by show 1≤max a.bnd b.bnd;have:=Yh0 a;walk_at "o"
 | .fn _ a=>by show 1≤1+a.bnd;walk_at "o"
 | .cs a b c=>by show 1≤max a.bnd (1+max b.bnd c.bnd);walk_at "o"
theorem Zi1:∀ t:Te,t.bnd≤t.deep
 | .at _=>Nat.le_refl _
 | .one _ a _=>by show a.bnd≤1+a.deep;have:=Zi1 a;walk_at "o"
 | .two _ a b=>by show max a.bnd b.bnd≤1+max a.deep b.deep;have:=Zi1 a;have:=Zi1 b;walk_at "o"
 | .fn _ a=>by show 1+a.bnd≤1+a.deep;have:=Zi1 a;walk_at "o"
 | .cs a b c=>by show max a.bnd (1+max b.bnd c.bnd)≤1+max a.deep (max b.deep c.deep);have:=Zi1 a;have:=Zi1 b;have:=Zi1 c;walk_at "o"
theorem Zi2:∀ {t:Te} {f:Nat} {p:Pf},p∈t.pre f→p.2 < f+t.bnd
 | .at k,f,p,h=>by rcases List.mem_singleton.mp h with rfl;show f < f+1;walk_at "o"
 | .one u a ss,f,p,h=>by
  show p.2 < f+a.bnd;rcases List.mem_cons.mp h with rfl | h
  ·show f < _;have:=Yh0 a;walk_at "o"
  ·have:=Zi2 h;walk_at "o"
 | .two u a b,f,p,h=>by
  show p.2 < f+max a.bnd b.bnd;rcases List.mem_cons.mp h with rfl | h
  ·show f < _;have:=Yh0 a;walk_at "o"
  ·rcases List.mem_append.mp h with h | h
   ·have:=Zi2 h;walk_at "o"
   ·have:=Zi2 h;walk_at "o"
 | .fn s a,f,p,h=>by
  show p.2 < f+(1+a.bnd);rcases List.mem_cons.mp h with rfl | h
  ·show f < _;walk_at "o"
  ·have:=Zi2 h;walk_at "o"
 | .cs a b c,f,p,h=>by
  show p.2 < f+max a.bnd (1+max b.bnd c.bnd);rcases List.mem_cons.mp h with rfl | h
  ·show f < _;walk_at "o"
  ·rcases List.mem_append.mp h with h | h
   ·have:=Zi2 h;walk_at "o"
   ·rcases List.mem_append.mp h with h | h
    ·have:=Zi2 h;walk_at "o"
    ·have:=Zi2 h;walk_at "o"
theorem Zk9 {q:Tm→Prop}:∀ {t:Te} {f:Nat} {p:Pf},t.all q→p∈t.pre f→p.1.all q
 | .at k,f,p,h0,h=>by rcases List.mem_singleton.mp h with rfl;exact h0
 | .one u a ss,f,p,h0,h=>by
  rcases List.mem_cons.mp h with rfl | h
  ·exact h0
  ·exact Zk9 h0.1 h
 | .two u a b,f,p,h0,h=>by
  rcases List.mem_cons.mp h with rfl | h
  ·exact h0
  ·rcases List.mem_append.mp h with h | h
   ·exact Zk9 h0.1 h
   ·exact Zk9 h0.2 h
 | .fn s a,f,p,h0,h=>by
  rcases List.mem_cons.mp h with rfl | h
  ·exact h0
  ·exact Zk9 h0.2 h
 | .cs a b c,f,p,h0,h=>by
  rcases List.mem_cons.mp h with rfl | h
  ·exact h0
  ·rcases List.mem_append.mp h with h | h
   ·exact Zk9 h0.1 h
   ·rcases List.mem_append.mp h with h | h
    ·exact Zk9 h0.2.1 h
    ·exact Zk9 h0.2.2 h
theorem Yv9:∀ {xs ws:List Int},xs.Nodup→(∀ x∈xs,x∈ws)→xs.length≤ws.length
 | [],_,_,_=>Nat.zero_le _
 | x :: xs,ws,nd,h=>by
  have hx:=h x List.mem_cons_self;have ih:=Yv9 (xs:=xs) (ws:=ws.erase x) (List.nodup_cons.mp nd).2 fun y hy=>(List.mem_erase_of_ne (show y≠x from fun z=>(List.nodup_cons.mp nd).1 (by rw[← z];exact hy))).mpr (h y (List.mem_cons_of_mem _ hy));have:=List.length_erase_of_mem hx;have:0 < ws.length:=List.length_pos_of_mem hx;rw[List.length_cons];walk_at "o"
theorem Yk1 {xs:List Int} {n:Nat} (nd:xs.Nodup) (h:∀ x∈xs,∃ f:Nat,x=(f:Int)∧f < n):xs.length≤n:=by
 have:=Yv9 (ws:=(List.range n).map fun (i:Nat)=>(i:Int)) nd fun x hx=>by
  obtain⟨f,rfl,hf⟩:=h x hx;exact List.mem_map.mpr ⟨f,List.mem_range.mpr hf,rfl⟩
 rwa [List.length_map,List.length_range] at this
theorem Zu2:∀ r:List (Nat×Nat),noLists (r.map fun p=>PyData.tuple [.int (p.1:Nat),.int (p.2:Nat)])=true
 | []=>rfl
 | p :: r=>by rw[List.map_cons,noLists,Zu2 r];rfl
theorem innRow.le {K K':W.Frag} (k:KLe K K') {a:Addr} {r:List (Nat×Nat)} (h:innRow K a r):innRow K' a r:=fun H =>
 Dn.moveT (fun _ _ z=>SqT.le k z) (by rw[noList];exact Zu2 r) (h H)
theorem Inn.le {K K':W.Frag} (k:KLe K K') {aT:Nat→Addr} (h:Inn K aT):Inn K' aT:=⟨fun i r e=>(h.row i r e).le k⟩
noncomputable abbrev JP:=W.Frag→Hp→Prop
structure JOk (J:JP):Prop where
 keep:∀ K H H',SameT H H'→J K H→J K H'
 inn:∀ K K' H xs,(∀ p∈xs,H p.1=some (FZ p.2))→KLe K K'→J K H→J K' (remX xs H)
theorem Xp5 {K:W.Frag} {H:Hp} {l:Addr} {kvs:List (Key×V)} {o:HO} (h:H l=some (.dK kvs)):KeepT K H (upd H l o):=fun a ys q=>by
 rcases q with (q | ⟨ob,q⟩) | q
 ·exact .inl (.inl (by rw[Zb0 (Xg2 q h (by intro z;cases z))];exact q))
 ·exact .inl (.inr ⟨ob,by rw[Zb0 (Xg2 q h (by intro z;cases z))];exact q⟩)
 ·exact .inr q
noncomputable def JPut (dl:Addr) (kvs:List (Key×V)) (fr:List Int) (o:Te):JP:=fun K H=>H dl=some (.dK kvs)∧∀ f:Nat,(f:Int)∈fr→∃ u,valV kvs (Sum.inl (f:Int))=some u∧IsE K H u (o.mp (Zb5 f) 0)
theorem Yp9 (dl:Addr) (kvs:List (Key×V)) (fr:List Int) (o:Te):JOk (JPut dl kvs fr o):=by
 refine⟨fun K H H' e h=>⟨e _ _ (fun _ z=>nomatch z) h.1,fun f hf=>?_⟩,fun K K' H xs hx k h=>⟨?_,fun f hf=>?_⟩⟩
 ·obtain⟨u,h1,h2⟩:=h.2 f hf
  exact⟨u,h1,IsE.keep h2 (SameT.keepT e)⟩
 ·rw[Zc9 fun z=>?_]
  ·exact h.1
  ·obtain⟨p,hp,e⟩:=List.mem_map.mp z
   have:=hx p hp;rw[e,h.1] at this;cases this
 ·obtain⟨u,h1,h2⟩:=h.2 f hf
  exact⟨u,h1,Dn.moveT (Yb3 hx k) (Te.noList _) h2⟩
def Zn2 (K:W.Frag) (T:Addr) (ds:List (Pos×Str)) (J:JP) (F:Nat→Nat→Te) (A:Nat→Nat→Prop) (f:Addr):Sp:=fun vs H Q _=>∃ (v:V) (t:Te),vs=[v,.ref f]∧IsE K H v t∧t.size≤20000∧J K H∧(∀ k f,(Te.at k,f)∈t.pre 0→A k f)∧TabOk H T ds ∧
 ∀ (r:V) (H':Hp),SameV [T] H H'→TabOk H' T ds→IsE K H' r (t.mp F 0)→Q r H'
def Yi5 (K:W.Frag) (T1 T2:Addr) (d1 d2:List (Pos×Str)):Sp:=fun vs H Q _=>∃ (v:V) (t:Te) (n:Nat),vs=[v,.int (n:Nat)]∧IsE K H v t∧t.size≤20000∧TabOk H T1 d1∧TabOk H T2 d2 ∧
 ∀ (r:V) (H':Hp),SameV [T1,T2] H H'→TabOk H' T1 d1→TabOk H' T2 d2→IsE K H' r (t.mp (Zb5 n) 0)→Q r H'
def Yt3 (K:W.Frag) (T1 T2 T3:Addr) (d1 d2 d3:List (Pos×Str)):Sp:=fun vs H Q _=>∃ (v:V) (t:Te) (ov:V) (o:Te),vs=[v,ov]∧IsE K H v t∧IsE K H ov o∧t.size≤20000∧o.size≤20000∧t.bnd≤60∧t.all Tm.ok∧TabOk H T1 d1∧TabOk H T2 d2∧TabOk H T3 d3 ∧
 ∀ (r:V) (H':Hp),SameV [T1,T2,T3] H H'→TabOk H' T1 d1→TabOk H' T2 d2→TabOk H' T3 d3→IsE K H' r (t.mp (putF o) 0)→Q r H'
noncomputable def U5.ar:U5→Nat
 | .left=>0
 | .right=>0
 | _=>1
def okW (ws:List Str) (s:Tm):Prop:=s.inW ws∧s.parts≤60
def Te.fine (ws:List Str):Te→Prop
 | .at _=>True
 | .one u a ss=>a.fine ws∧ss.length=u.ar∧∀ s∈ss,okW ws s
 | .two _ a b=>a.fine ws∧b.fine ws
 | .fn s a=>okW ws s∧a.fine ws
 | .cs a b c=>a.fine ws∧b.fine ws∧c.fine ws
def Te.topf (ws:List Str):Te→Prop
 | .at _=>True
 | .one u _ ss=>True∧ss.length=u.ar∧∀ s∈ss,okW ws s
 | .two _ _ _=>True
 | .fn s _=>okW ws s∧True
 | .cs _ _ _=>True
theorem Te.fine.top {ws:List Str}:∀ {t:Te},t.fine ws→t.topf ws
 | .at _,_=>trivial
 | .one _ _ _,h=>⟨trivial,h.2⟩
 | .two _ _ _,_=>trivial
 | .fn _ _,h=>⟨h.1,trivial⟩
 | .cs _ _ _,_=>trivial
theorem Te.fine.ok {ws:List Str} (hw:∀ w∈ws,Word w):∀ {t:Te},t.fine ws→t.all Tm.ok
 | .at _,_=>trivial
 | .one u a ss,h=>⟨Te.fine.ok hw h.1,fun s hs=>(h.2.2 s hs).1.ok hw⟩
 | .two _ a b,h=>⟨Te.fine.ok hw h.1,Te.fine.ok hw h.2⟩
 | .fn s a,h=>⟨h.1.1.ok hw,Te.fine.ok hw h.2⟩
 | .cs a b c,h=>⟨Te.fine.ok hw h.1,Te.fine.ok hw h.2.1,Te.fine.ok hw h.2.2⟩
theorem Zf5 {n:Nat}:∀ {t:Te} {f:Nat},(t.mp (Zb5 n) f).deep=t.deep
 | .at k,f=>rfl
 | .one u a ss,f=>by show 1+(a.mp (Zb5 n) f).deep=1+a.deep;rw[Zf5]
 | .two u a b,f=>by show 1+max (a.mp (Zb5 n) f).deep (b.mp (Zb5 n) f).deep=_;rw[Zf5,Zf5];rfl
 | .fn s a,f=>by show 1+(a.mp (Zb5 n) (f+1)).deep=1+a.deep;rw[Zf5]
 | .cs a b c,f=>by show 1+max (a.mp (Zb5 n) f).deep (max (b.mp (Zb5 n) (f+1)).deep (c.mp (Zb5 n) (f+1)).deep)=_;rw[Zf5,Zf5,Zf5];rfl
theorem Zg0 {n:Nat}:∀ {t:Te} {f:Nat},(t.mp (Zb5 n) f).size=t.size
 | .at k,f=>rfl
 | .one u a ss,f=>by show 1+(a.mp (Zb5 n) f).size=1+a.size;rw[Zg0]
 | .two u a b,f=>by show 1+(a.mp (Zb5 n) f).size+(b.mp (Zb5 n) f).size=_;rw[Zg0,Zg0];rfl
 | .fn s a,f=>by show 1+(a.mp (Zb5 n) (f+1)).size=1+a.size;rw[Zg0]
 | .cs a b c,f=>by show 1+(a.mp (Zb5 n) f).size+(b.mp (Zb5 n) (f+1)).size+(c.mp (Zb5 n) (f+1)).size=_;rw[Zg0,Zg0,Zg0];rfl
theorem Zg1 {ws:List Str} {n:Nat}:∀ {t:Te} {f:Nat},t.fine ws→(t.mp (Zb5 n) f).fine ws
 | .at k,f,_=>trivial
 | .one u a ss,f,h=>⟨Zg1 h.1,h.2⟩
 | .two u a b,f,h=>⟨Zg1 h.1,Zg1 h.2⟩
 | .fn s a,f,h=>⟨h.1,Zg1 h.2⟩
 | .cs a b c,f,h=>⟨Zg1 h.1,Zg1 h.2.1,Zg1 h.2.2⟩
section
variable {K:W.Frag} {H:Hp} {v:V}
theorem isE_atV {k:Nat}:IsE K H v (.at k)↔∃ p,v=.ref p∧SqT K H p [.str "at",.int (k:Nat)]:=by
 rw[isE_view];constructor
 ·rintro⟨p,xs,rfl,hs,hd⟩
  obtain⟨x,r,rfl,h1,h2⟩:=Zc8 (show DnAll K H xs [.str "at",.int (k:Nat)] from hd);obtain⟨y,r,rfl,h3,h4⟩:=Zc8 h2;rw[dn_str] at h1;rw[dn_int] at h3;rw[DnAll] at h4;subst h1;subst h3;subst h4;exact⟨p,rfl,hs⟩
 ·rintro⟨p,rfl,hs⟩
  exact⟨p,_,rfl,hs,dnAll_cons (dn_str.mpr rfl) (dnAll_cons (dn_int.mpr rfl) dnAll_nil)⟩
theorem isE_oneV {u:U5} {a:Te} {ss:List Tm}:IsE K H v (.one u a ss)↔∃ p x rs,v=.ref p∧SqT K H p (.str u.str :: x :: rs)∧IsE K H x a∧DnAll K H rs (ss.map Tm.data):=by
 rw[isE_view];constructor
 ·rintro⟨p,xs,rfl,hs,hd⟩
  obtain⟨x,r,rfl,h1,h2⟩:=Zc8 (show DnAll K H xs (.str u.str :: a.data :: ss.map Tm.data) from hd);obtain⟨y,r,rfl,h3,h4⟩:=Zc8 h2;rw[dn_str] at h1;subst h1;exact⟨p,y,r,rfl,hs,h3,h4⟩
 ·rintro⟨p,x,rs,rfl,hs,h1,h2⟩
  exact⟨p,_,rfl,hs,dnAll_cons (dn_str.mpr rfl) (dnAll_cons h1 h2)⟩
theorem isE_twoV {u:U2} {a b:Te}:IsE K H v (.two u a b)↔∃ p x y,v=.ref p∧SqT K H p [.str u.str,x,y]∧IsE K H x a∧IsE K H y b:=by
 rw[isE_view];constructor
 ·rintro⟨p,xs,rfl,hs,hd⟩
  obtain⟨x,r,rfl,h1,h2⟩:=Zc8 (show DnAll K H xs [.str u.str,a.data,b.data] from hd);obtain⟨y,r,rfl,h3,h4⟩:=Zc8 h2;obtain⟨z,r,rfl,h5,h6⟩:=Zc8 h4;rw[dn_str] at h1;rw[DnAll] at h6;subst h1;subst h6;exact⟨p,y,z,rfl,hs,h3,h5⟩
 ·rintro⟨p,x,y,rfl,hs,h1,h2⟩
  exact⟨p,_,rfl,hs,dnAll_cons (dn_str.mpr rfl) (dnAll_cons h1 (dnAll_cons h2 dnAll_nil))⟩
theorem isE_fnV {s:Tm} {a:Te}:IsE K H v (.fn s a)↔∃ p x y,v=.ref p∧SqT K H p [.str "fun",x,y]∧IsT K H x s∧IsE K H y a:=by
 rw[isE_view];constructor
 ·rintro⟨p,xs,rfl,hs,hd⟩
  obtain⟨x,r,rfl,h1,h2⟩:=Zc8 (show DnAll K H xs [.str "fun",s.data,a.data] from hd);obtain⟨y,r,rfl,h3,h4⟩:=Zc8 h2;obtain⟨z,r,rfl,h5,h6⟩:=Zc8 h4;rw[dn_str] at h1;rw[DnAll] at h6;subst h1;subst h6;exact⟨p,y,z,rfl,hs,h3,h5⟩
 ·rintro⟨p,x,y,rfl,hs,h1,h2⟩
  exact⟨p,_,rfl,hs,dnAll_cons (dn_str.mpr rfl) (dnAll_cons h1 (dnAll_cons h2 dnAll_nil))⟩
theorem isE_csV {a b c:Te}:IsE K H v (.cs a b c)↔∃ p x y z,v=.ref p∧SqT K H p [.str "cases",x,y,z]∧IsE K H x a∧IsE K H y b∧IsE K H z c:=by
 rw[isE_view];constructor
 ·rintro⟨p,xs,rfl,hs,hd⟩
  obtain⟨x,r,rfl,h1,h2⟩:=Zc8 (show DnAll K H xs [.str "cases",a.data,b.data,c.data] from hd);obtain⟨y,r,rfl,h3,h4⟩:=Zc8 h2;obtain⟨z,r,rfl,h5,h6⟩:=Zc8 h4;obtain⟨z',r,rfl,h7,h8⟩:=Zc8 h6;rw[dn_str] at h1;rw[DnAll] at h8;subst h1;subst h8;exact⟨p,y,z,z',rfl,hs,h3,h5,h7⟩
 ·rintro⟨p,x,y,z,rfl,hs,h1,h2,h3⟩
  exact⟨p,_,rfl,hs,dnAll_cons (dn_str.mpr rfl) (dnAll_cons h1 (dnAll_cons h2 (dnAll_cons h3 dnAll_nil)))⟩
theorem Zv8 {p:Addr} {x:V} {u:U5} {a:Te} (h:SqT K H p [.str u.str,x]) (h1:IsE K H x a):IsE K H (.ref p) (.one u a []):=isE_oneV.mpr ⟨p,x,[],rfl,h,h1,dnAll_nil⟩
theorem Yw1 {p:Addr} {x y:V} {u:U5} {a:Te} {s:Tm} (h:SqT K H p [.str u.str,x,y]) (h1:IsE K H x a) (h2:IsT K H y s):IsE K H (.ref p) (.one u a [s]):=isE_oneV.mpr ⟨p,x,[y],rfl,h,h1,dnAll_cons h2 dnAll_nil⟩
theorem Zd5 {p:Addr} {x y:V} {u:U2} {a b:Te} (h:SqT K H p [.str u.str,x,y]) (h1:IsE K H x a) (h2:IsE K H y b):IsE K H (.ref p) (.two u a b):=isE_twoV.mpr ⟨p,x,y,rfl,h,h1,h2⟩
theorem Zj4 {p:Addr} {x y:V} {s:Tm} {a:Te} (h:SqT K H p [.str "fun",x,y]) (h1:IsT K H x s) (h2:IsE K H y a):IsE K H (.ref p) (.fn s a):=isE_fnV.mpr ⟨p,x,y,rfl,h,h1,h2⟩
theorem Ze8 {p:Addr} {k:Nat} (h:SqT K H p [.str "at",.int (k:Nat)]):IsE K H (.ref p) (.at k):=isE_atV.mpr ⟨p,rfl,h⟩
theorem Wb8 {p:Addr} {xs:List V}:SqT K (upd H p (.tup xs)) p xs:=.inl (.inl Za5)
theorem nw1 {p:Addr} {xs:List V} {J:Hp} (h:H p=none) (e:upd H p (.tup xs)=J):Same H J:=e▸Za6 h _
theorem nw2 {p:Addr} {xs:List V} {J:Hp} (e:upd H p (.tup xs)=J):SqT K J p xs:=e▸Wb8
theorem Xv8 {ss:List Tm} {rs:List V} {H':Hp} (k:KeepT K H H') (h:DnAll K H rs (ss.map Tm.data)):DnAll K H' rs (ss.map Tm.data):=DnAll.keepT k (Zy6 ss) h
end
theorem cut2 (a b:V) (rs:List V):cutV (a :: b :: rs) (some 2) none=rs:=by
 unfold cutV;rw[show (2:Int)=((2:Nat):Int) from rfl,HT.sIx_nat,HT.sIx_none,show min 2 (a :: b :: rs).length=2 by simp];show List.take _ rs=rs;exact List.take_of_length_le (by simp)
theorem Xq9 (a b:V) (rs:List V):¬ (HT.sIx (a :: b :: rs).length 0 (some 2)=0∧HT.sIx (a :: b :: rs).length (a :: b :: rs).length none=(a :: b :: rs).length):=fun h=>by
 have h1:=h.1;rw[show (2:Int)=((2:Nat):Int) from rfl,HT.sIx_nat,show min 2 (a :: b :: rs).length=2 by simp] at h1;cases h1
theorem Zt4:∀ t:Tm,t.deep≤t.parts
 | .low=>Nat.le_refl _
 | .ltr _=>Nat.le_refl _
 | .nd _ a b=>by
  show 1+max a.deep b.deep≤1+a.parts+b.parts;have:=Zt4 a;have:=Zt4 b;walk_at "o"
theorem Xb0 {t:Te} {ks:List Te} (h:ks.length=t.kids.length):(t.withK ks).tag=t.tag:=by
 cases t with
 | «at» k=>cases ks<;>first | rfl | cases h
 | one u a ss=>match ks,h with | [x],_=>rfl
 | two u a b=>match ks,h with | [x,y],_=>rfl
 | fn s a=>match ks,h with | [x],_=>rfl
 | cs a b c=>match ks,h with | [x,y,z],_=>rfl
theorem Zp8 {α:Type}:∀ {ps:List Nat} {ys:List α} {xs:List α},(Zi8 xs ps ys).length=xs.length
 | [],ys,xs=>by cases ys<;>rfl
 | q :: ps,[],xs=>rfl
 | q :: ps,z :: ys,xs=>by rw[Zi8,Zp8,List.length_set]
theorem okW.lay {ws:List Str} (hw:∀ w∈ws,Word w) {s:Tm} (h:okW ws s):s.data.canLay0=true∧min s.data.depth s.data.depth≤150:=by
 refine⟨s.lay (h.1.ok hw),?_⟩;rw[Tm.depth];have:=Zt4 s;have:=h.2;walk_at "o"
theorem Wh7 {F:Nat→Nat→Te} {t:Te} {f:Nat} (h:∀ k,t≠.at k):(t.mp F f).inn=t.inn:=by
 cases t with
 | «at» k=>exact absurd rfl (h k)
 | _=>rfl
theorem Xx9 {F:Nat→Nat→Te} {t:Te} {f:Nat} (h:∀ k,t≠.at k):(t.mp F f).kids=t.kids.map fun p=>(p.1.mp F (f+p.2),p.2):=by
 cases t with
 | «at» k=>exact absurd rfl (h k)
 | _=>rfl
theorem Wh8 {ws:List Str} {t:Te} {i:Nat} {k:Te} {m:Nat} (hf:t.fine ws) (h:t.kids[i]?=some (k,m)):k.fine ws∧k.deep < t.deep:=by
 have hm:=List.mem_of_getElem? h
 cases t with
 | «at» k0=>cases hm
 | one u a ss =>
  have e:=Prod.mk.inj (List.mem_singleton.mp hm);rw[e.1];exact⟨hf.1,by show a.deep < 1+a.deep;walk_at "o"⟩
 | two u a b =>
  rcases List.mem_cons.mp hm with hm | hm
  ·rw[(Prod.mk.inj hm).1];exact⟨hf.1,by show a.deep < 1+max a.deep b.deep;walk_at "o"⟩
  ·rw[(Prod.mk.inj (List.mem_singleton.mp hm)).1];exact⟨hf.2,by show b.deep < 1+max a.deep b.deep;walk_at "o"⟩
 | fn s a =>
  rw[(Prod.mk.inj (List.mem_singleton.mp hm)).1];exact⟨hf.2,by show a.deep < 1+a.deep;walk_at "o"⟩
 | cs a b c =>
  rcases List.mem_cons.mp hm with hm | hm
  ·rw[(Prod.mk.inj hm).1];exact⟨hf.1,by show a.deep < 1+max a.deep (max b.deep c.deep);walk_at "o"⟩
  ·rcases List.mem_cons.mp hm with hm | hm
   ·rw[(Prod.mk.inj hm).1];exact⟨hf.2.1,by show b.deep < 1+max a.deep (max b.deep c.deep);walk_at "o"⟩
   ·rw[(Prod.mk.inj (List.mem_singleton.mp hm)).1];exact⟨hf.2.2,by show c.deep < 1+max a.deep (max b.deep c.deep);walk_at "o"⟩
theorem Wm3 {F:Nat→Nat→Te} {t:Te} {f:Nat} (h:∀ k,t≠.at k) {i p m:Nat} (hi:t.inn[i]?=some (p,m)):∃ k,t.kids[i]?=some (k,m)∧t.items[p]?=some k.data∧(t.mp F f).items[p]?=some (k.mp F (f+m)).data:=by
 obtain⟨k,h1,h2,_⟩:=Te.inn_at hi;obtain⟨k',g1,g2,_⟩:=Te.inn_at (t:=t.mp F f) (by rw[Wh7 h];exact hi);rw[Xx9 h,List.getElem?_map,h1] at g1;cases g1;exact⟨k,h1,h2,g2⟩
def Zx2 (K:W.Frag):Sp:=fun vs H Q _=>∃ (v:V) (t:Te),vs=[v]∧IsE K H v t∧∀ (r:Addr) (H':Hp) (us:List V),Same H H'→H r=none→H' r=some (.lst us)→Paired (fun u (p:Nat×Nat)=>∃ b,u=.ref b∧SqT K H' b [.int (p.1:Nat),.int (p.2:Nat)]) us t.inn→Q (.ref r) H'
def Zs2 (K:W.Frag):Sp:=fun vs H Q _=>∃ (x y:V) (t:Te) (ks:List Te) (ws:List Str),vs=[x,y]∧IsE K H x (t.withK ks)∧IsE K H y t∧ks.length=t.kids.length∧t.topf ws∧(∀ w∈ws,Word w)∧∀ H',Same H H'→Q (.bl true) H'
def Xd4 (K:W.Frag):Sp:=fun vs H Q _=>∃ (x:V) (k:Nat),vs=[x,.int (k:Nat)]∧IsE K H x (.at k)∧Q (.bl true) H
def Zj0 (K:W.Frag) (n:Nat):Sp:=fun vs H Q _=>∃ (x y:V) (t:Te) (b f:Nat) (ws:List Str),vs=[x,y,.int (b:Nat),.int (f:Nat)]∧IsE K H x (t.mp (Zb5 b) f)∧IsE K H y t∧t.fine ws∧(∀ w∈ws,Word w)∧t.deep≤n∧∀ H',Same H H'→Q (.bl true) H'
theorem Xd1 {K:W.Frag} {c n:Int} {wa:Addr} {ws:List Str} {H:Hp} {Q:VK} {E:XK} (hc:0≤c) (h0:0≤n) (h1:n≤11) (hS:SqL K H wa (ws.map V.str)) (hw:Xa8 ws)
  (q:∀ (r:V) (H':Hp) (t:Tm),Same H H'→IsT K H' r t→t.inW ws→t.parts≤max 1 n.toNat→Q r H'):Zp5 K 12 [.int c,.int n,.ref wa] H Q E:=by
 refine⟨c,n,wa,ws,rfl,hc,h0,by walk_at "o",?_,hS,hw,fun r H' t e m=>q r H' t e m.1 m.2.1 m.2.2.1⟩;unfold rk;rw[if_pos (by walk_at "o")];walk_at "o"
end Ken
namespace L2
open PySem PySem.Spec PyProof.Rows
end L2
namespace Ken
open PySem L2 PyProof.Rows
end Ken
namespace L2
open PySem PySem.Spec PyProof.Rows
end L2
namespace Ken
open PySem L2
end Ken
namespace L2
open PySem PySem.Spec PyProof.Rows
end L2
namespace Ken
open PySem L2 PyProof.Rows
end Ken
namespace L2
open PySem
theorem Xl0 {K:W.Frag} {a:Addr} {xs:List V} {σ0:St} {g:TG} {tk:TK} {Q:Hp→Prop} {H:Hp} (Pv:Nat→Hp→Prop) (h0:Pv 0 H) (hl:∀ i H,i≤xs.length→Pv i H→SqL K H a xs)
  (hs:∀ i x H T (N:Hp→Prop),xs[i]?=some x→H T=none→Pv i H→(∀ H',Pv (i+1) H'→N H')→g (.ref T) σ0 (upd H T (.tup [.int i,x])) fun σ4 H4=>Wk σ0 σ4∧tk σ4 H4 N) (hd:∀ H,Pv xs.length H→Q H) :
  ∃ W:Nat→Nat→Hp→Prop,(∃ m,W 0 m H)∧Xl1 σ0 (Ite K a) g tk Q W:=by
 refine⟨fun i m H=>m=xs.length - i∧i≤xs.length∧Pv i H,⟨xs.length,by simp,Nat.zero_le _,h0⟩,?_⟩;rintro i m H ⟨rfl,hi,p⟩;have q:=hl i H hi p
 by_cases hlt:i < xs.length
 ·refine .inr ⟨⟨xs,xs[i],q,by simp[hlt]⟩,fun x H' y=>?_⟩
  obtain⟨T,x,rfl,hT,rfl,z1⟩:=y;exact hs i x _ T _ (z1 xs q) hT p fun H5 p5=>⟨xs.length - (i+1),by walk_at "o",rfl,hlt,p5⟩
 ·have e:i=xs.length:=by walk_at "o"
  subst e;exact .inl ⟨⟨xs,q,Nat.le_refl _⟩,hd _ p⟩
end L2
namespace Ken
open PySem L2
end Ken
namespace Ken
noncomputable def topI:Option Int→List Int→Option Int
 | b,[]=>b
 | none,x :: xs=>topI (some x) xs
 | some y,x :: xs=>topI (some (if x > y then x else y)) xs
end Ken
namespace L2
open PySem PySem.Spec PyProof.Rows
def tKIn (kvs:List (Str×V)) (ti:TE):TE:=fun σ H Q=>ti σ H fun y H1=>∃ x,y=.str x∧Q (.bl (kvs.lookup x).isSome) H1
def Yn1 (K:W.Frag) (ta td:TE):TE:=fun σ H Q=>ta σ H fun v H1=>td σ H1 fun y H2=>∃ (a:Addr) (ns:List Int) (d:Int),v=.ref a∧y=.int d∧SqL K H2 a (ns.map V.int)∧Q (.int ((Ken.topI none ns).getD d)) H2
end L2
namespace Ken
open PySem
def endV (d:Value):Option Int→Value→Prop
 | none,r=>r=d
 | some b,r=>∃ k,r=.int b k
theorem Wn4 (a d:Value):argsOk "max" ⟨[a],[("default",d)]⟩:=by
 unfold argsOk
 kernel_rfl
section
variable {prog:Program} {w:World} {A:Around} {R:Result→Shared→Prop} {it:Addr} {fp wr:List Addr} {n:Nat} {P:Nat→Value→Prop} {St:Nat→Heap→Prop}
theorem Xg6 (wk:Walks prog w A.in1 it fp wr n P St) {val:Nat→Int} (hval:∀ i v,P i v→∃ t,v=.int (val i) t) {d:Value} {B:Addr} (nB:B ∉ fp) :
  ∀ (m i:Nat) (y:Int) (ty:Tok) (t:Shared) (c:Nat),i+m=n→St i t.heap→t.heap.get? B=some { cls:=.type "list",dict:=none,data:=.seq #[.int y ty,.int y ty] c,slots:=#[] } →
   (∀ r h' tk,endV d (topI (some y) ((List.range' i m).map val)) r→(∀ b o,b ∉ wr→b≠B→t.heap.get? b=some o→h'.get? b=some o)→R (.ok (.ret r)) { t with heap:=h',toks:=tk }) →
   codeAny (model prog w) A (.builtin "max.loop" ⟨[.ref it,.none,.ref B],[("default",d)]⟩) R t:=by
 have nW:B ∉ wr:=fun z=>nB (wk.sub _ z)
 have lp:(toString "max"++toString ".loop":String)="max.loop":=by decide
 have cmp:=CmpOf.ints_gt (prog:=prog) (w:=w) (A:=A.in1) val hval;intro m
 induction m with
 | zero =>
  intro i y ty t c e st hB q
  obtain rfl:i=n:=by walk_at "o"
  refine codeAny_builtin F.entry_max_loop (Around.under_plainId F.plain_max_loop _▸?_);refine wpAny_bind (wpAny_seqItems hB rfl (wpAny_bind (wpAny_tryCatch (wk.done t _ _ st fun h' tk kp=>?_))));refine wpAny_bind (wpAny_updateSeq (kp B _ nW hB) rfl (wpAny_bind (wpAny_letGo (wpAny_pure ?_))));exact q _ _ tk ⟨ty,rfl⟩ fun a o n1 n2 e1=>(Heap.get?_update_other _ _ (Ne.symm n2)).trans (kp a o n1 e1)
 | succ m ih =>
  intro i y ty t c e st hB q;refine codeAny_builtin F.entry_max_loop (Around.under_plainId F.plain_max_loop _▸?_);refine wpAny_bind (wpAny_seqItems hB rfl (wpAny_bind (wpAny_tryCatch (wk.item i t _ _ (by walk_at "o") st fun v h' tk hv st' kp=>?_))));have hB':=kp B _ nW hB;obtain⟨tv,rfl⟩:=hval i v hv
  have eg:∀ (ta tb:Tok) (s1:Shared) (Q:Value→Shared→Prop) (E:Value→Shared→Prop),Q (.bool (decide (val i > y))) s1→wpAny (model prog w) A.in1 (richCompare .Gt (.int (val i) ta) (.int y tb)) Q E s1:=fun ta tb s1 Q E hQ =>
   CmpOf.ints_gt (P:=fun j v=>(j=0∧v=.int (val i) ta)∨(j=1∧v=.int y tb)) (fun j=>if j=0 then val i else y) (fun j v hj=>by rcases hj with ⟨rfl,rfl⟩ | ⟨rfl,rfl⟩<;>exact⟨_,rfl⟩) 0 1 _ _ s1 Q E (.inl ⟨rfl,rfl⟩) (.inr ⟨rfl,rfl⟩) hQ
  refine wpAny_bind (wpAny_pure ?_);refine wpAny_bind (wpAny_tryCatch (wpAny_holding (wpAny_bind (eg tv ty _ _ _ (wpAny_bind (wpAny_holding (wpAny_truthy_bool (wpAny_bind (wpAny_letGo (wpAny_pure ?_))))))))));have tp:topI (some y) ((List.range' i (m+1)).map val)=topI (some (if val i > y then val i else y)) ((List.range' (i+1) m).map val):=rfl;rw[tp] at q
  by_cases hb:val i > y
  ·rw[decide_eq_true hb]
   rw[if_pos hb] at q;refine wpAny_bind (wpAny_updateSeq hB' rfl (wpAny_bind (wpAny_letGo ?_)));rw[lp];refine wpAny_pure ⟨plainId_quiet F.plain_max_loop _,ih (i+1) (val i) tv _ _ (by walk_at "o") (wk.frame _ _ _ st' fun b hb o e1=>(Heap.get?_update_other _ _ (fun z:B=b=>nB (z▸hb))).trans e1) (Heap.get?_update_self _ hB' rfl) fun r h2 tk2 hr k2=>?_⟩;exact q r h2 tk2 hr fun b o n1 n2 e1=>k2 b o n1 n2 ((Heap.get?_update_other _ _ (Ne.symm n2)).trans (kp b o n1 e1))
  ·rw[decide_eq_false hb]
   rw[if_neg hb] at q;refine wpAny_bind (wpAny_letGo ?_);rw[lp];exact wpAny_pure ⟨plainId_quiet F.plain_max_loop _,ih (i+1) y ty _ c (by walk_at "o") st' hB' fun r h2 tk2 hr k2=>q r h2 tk2 hr fun b o n1 n2 e1=>k2 b o n1 n2 (kp b o n1 e1)⟩
theorem Yy4 (wk:Walks prog w A.in1 it fp wr n P St) {val:Nat→Int} (hval:∀ i v,P i v→∃ t,v=.int (val i) t) {d:Value} {B:Addr} (nB:B ∉ fp) {t:Shared} {c:Nat} (st:St 0 t.heap) (hB:t.heap.get? B=some { cls:=.type "list",dict:=none,data:=.seq #[] c,slots:=#[] })
  (q:∀ r h' tk,endV d (topI none ((List.range' 0 n).map val)) r→(∀ b o,b ∉ wr→b≠B→t.heap.get? b=some o→h'.get? b=some o)→R (.ok (.ret r)) { t with heap:=h',toks:=tk }) :
  codeAny (model prog w) A (.builtin "max.loop" ⟨[.ref it,.none,.ref B],[("default",d)]⟩) R t:=by
 have nW:B ∉ wr:=fun z=>nB (wk.sub _ z)
 have lp:(toString "max"++toString ".loop":String)="max.loop":=by decide
 refine codeAny_builtin F.entry_max_loop (Around.under_plainId F.plain_max_loop _▸?_);refine wpAny_bind (wpAny_seqItems hB rfl ?_)
 cases n with
 | zero =>
  refine wpAny_bind (wpAny_tryCatch (wk.done t _ _ st fun h' tk kp=>?_));exact wpAny_bind (wpAny_rule (wpAny_pure (q d h' tk rfl fun b o n1 _ e1=>kp b o n1 e1)))
 | succ m =>
  refine wpAny_bind (wpAny_tryCatch (wk.item 0 t _ _ (Nat.succ_pos _) st fun v h' tk hv st' kp=>?_));have hB':=kp B _ nW hB;obtain⟨tv,rfl⟩:=hval 0 v hv;refine wpAny_bind (wpAny_pure (wpAny_bind (wpAny_updateSeq hB' rfl ?_)));rw[lp];refine wpAny_pure ⟨plainId_quiet F.plain_max_loop _,Xg6 wk hval nB m 1 (val 0) tv _ _ (by walk_at "o") (wk.frame _ _ _ st' fun b hb o e1=>(Heap.get?_update_other _ _ (fun z:B=b=>nB (z▸hb))).trans e1) (Heap.get?_update_self _ hB' rfl) fun r h2 tk2 hr k2=>?_⟩;exact q r h2 tk2 hr fun b o n1 n2 e1=>k2 b o n1 n2 ((Heap.get?_update_other _ _ (Ne.symm n2)).trans (kp b o n1 e1))
theorem Yp5 {E:Value→Shared→Prop} {s:Shared} {l:Addr} {xs:Array (Int×Tok)} {d:Value} {Q:Value→Shared→Prop} (hh:A.handled=none) (hl:s.heap.IsList l (intItems xs))
  (q:∀ r h' tk,endV d (topI none (xs.toList.map (·.1))) r→(∀ b o,s.heap.get? b=some o→h'.get? b=some o)→Q r { s with heap:=h',toks:=tk }) :
  wpAny (model prog w) A (call (.builtin "max") [.ref l] [("default",d)]) Q E s:=by
 have lp:(toString "max"++toString ".loop":String)="max.loop":=by decide
 refine wpAny_call (codeAny_call_builtin F.plain_max F.entry_max ?_)
 have go:wpAny (model prog w) A.in1 (Builtin.max ⟨[.ref l],[("default",d)]⟩) (fun fin s'=>match fin with
   | .done f=>(match (Except.ok f:Result) with | .ok (.ret v)=>Q v s' | .ok _=>False | .error e=>E e s')
   | .again c=>c.quiet=true∧codeAny (model prog w) A c (fun r s'=>match r with | .ok (.ret v)=>Q v s' | .ok _=>False | .error e=>E e s') s') E s:=by
  refine wpAny_bind (wpAny_of_eq (show Builtin.Builtins.bindParams "max" ["key","default"] 0 ⟨[],[("default",d)]⟩=pure [none,some d] from rfl) (wpAny_bind (wpAny_pure (wpAny_bind (iter_intList hl fun s2 e st hfp ne=>?_)))));subst e;refine wpAny_bind (wpAny_newObj_type ?_);rw[lp];have wk:=Walks.list (prog:=prog) (w:=w) (A:=A.in1) hh s.heap.objs.size l ne (intItems xs);refine wpAny_pure ⟨plainId_quiet F.plain_max_loop _,Yy4 wk (val:=numAt xs) (fun _ _=>intItems_at) (fun hm=>Nat.lt_irrefl _ (hfp _ hm)) (wk.frame _ _ _ st fun b _ o e=>Heap.get?_push_of_some _ e) (Heap.get?_push_size _ rfl) fun r h' tk hr kp=>?_⟩;refine q r h' tk ?_ (old_kept fun b o nb e=>kp b o nb (Nat.ne_of_lt (Heap.lt_size e)) (Heap.get?_push_of_some _ e))
  have en:(List.range' 0 (intItems xs).size).map (numAt xs)=xs.toList.map (·.1):=by
   apply List.ext_getElem?;intro i
   by_cases hi:i < xs.size
   ·simp[intItems,numAt,hi]
   ·simp[intItems,numAt,hi]
  rw[en] at hr;exact hr
 simp only[checkBuiltinCall,F.kind_max]
 cases hs:Manifest.signature? "max" with
 | none=>exact wpAny_pure go
 | some sg =>
  have ok:Bind.checkArgs "max" sg ⟨[.ref l],[("default",d)]⟩=pure ():=by simpa only[argsOk,hs] using Wn4 (.ref l) d
  simp only[ok];exact wpAny_pure go
end
end Ken
namespace L2
open PySem PySem.Spec PyProof.Rows Ken
section
variable {X:Cx}
theorem Xt3:∀ {ns:List Int} {us:List Value},Vals (ns.map V.int) us→∃ xs:List (Int×Tok),us=xs.map (fun p=>Value.int p.1 p.2)∧xs.map (·.1)=ns
 | [],_,r=>by cases r;exact⟨[],rfl,rfl⟩
 | n :: ns,_,r=>by
  cases r with
  | cons h t =>
   obtain⟨tk,rfl⟩:=h;obtain⟨xs,rfl,e⟩:=Xt3 t;exact⟨(n,tk) :: xs,rfl,by rw[List.map_cons,e]⟩
theorem Xw7 {K:W.Frag} {e d:Expr} {te td:TE} {p kp pos:Pos} (hK:X.K=K) (hc:X.calm=true) (hg:Gl X "max") (hm:X.mg "max"=none) (ha:PE X e te) (hd:PE X d td)
  (he:starEach [e] X.env=[(false,eval e X.env)]:=by rfl):PE X (.Call (.Name "max" p) [e] [⟨some "default",d,kp⟩] pos) (Yn1 K te td):=by with_unfolding_all
 subst hK;intro pins s σ H Q I h;refine wpAny_Call_Name_kw (Zn7 I hg hm Ken.boot_max ?_ (by decide) (by decide));have ha':PA X [e] (Yi1 te tNil):=Za0 ha Za1 he
 refine callWith_kw (thn (ha' pos pins s σ H (fun vs H1=>match vs with
  | [v]=>td σ H1 fun y H2=>∃ (a:Addr) (ns:List Int) (d:Int),v=.ref a∧y=.int d∧SqL X.K H2 a (ns.map V.int)∧Q (.int ((Ken.topI none ns).getD d)) H2
  | _=>False) I h) fun us s1 ⟨vs,H1,I1,r1,q1⟩=>?_) (by rw[he];rfl) (by rw[he];rfl)
 match vs,r1,q1 with
 | [v],r1,q1 =>
  obtain⟨u0,rfl,ru⟩:=Ym7 r1;refine kws_cons (thn (hd pins s1 σ H1 _ I1 q1) fun u s2 ⟨y,H2,I2,r2,a,ns,d0,ev,ey,hq,q⟩=>kws_nil ?_);subst ev;subst ey;cases ru;obtain⟨kd,rfl⟩:=r2;obtain⟨its,rv,pl,hz⟩:=I2.list hq;obtain⟨xs,rfl,ex⟩:=Xt3 rv
  have ei:intItems xs.toArray=(xs.map (fun p=>Value.int p.1 p.2)).toArray:=by simp[intItems]
  refine Yp5 (xs:=xs.toArray) (I2.ok.hd hc) (by rw[ei];exact pl.isList) fun r h' tk hr k=>?_;rw[show xs.toArray.toList.map (·.1)=ns by simpa using ex] at hr
  cases et:topI none ns with
  | none =>
   rw[et] at hr q;have hr:r=.int d0 kd:=hr;subst hr;exact⟨.int d0,H2,I2.kept k,⟨_,rfl⟩,q⟩
  | some b =>
   rw[et] at hr q;obtain⟨kb,rfl⟩:=hr;exact⟨.int b,H2,I2.kept k,⟨_,rfl⟩,q⟩
theorem We5 {a:Addr} {kvs:List (Str×V)} {name:Str} {i:Expr} {ti:TE} {p:Pos} (D:KDict X.K X.w a kvs) (hg:Gl X name) (hm:X.mg name=some (.ref a)) (hi:PE X i ti) (hd:(name == ("__debug__":Str))=false:=by decide) :
  PC X .In i (.Name name p) (tKIn kvs ti):=by with_unfolding_all
 intro pins s σ H Q I h;refine thn (hi pins s σ H _ I h) fun iv s1 zq=>?_;obtain⟨y,H1,I1,ry,x,ey,q1⟩:=zq;subst ey;refine Zt3 I1 hg hm ?_ hd;obtain⟨vs,rel,dd⟩:=D.of I1;refine wpAny_in_of (Xh5 (k:=Sum.inr x) ry) D.ns dd.mapOf ?_;rw[← (rel.val (Sum.inr x)).isSome_eq,Ys4];exact⟨.bl _,H1,I1.tok _,rfl,q1⟩
end
noncomputable abbrev TBs:=List (Addr×List (Pos×Str))
def Tabs (H:Hp) (tb:TBs):Prop:=∀ x∈tb,TabOk H x.1 x.2
theorem Tabs.keep {H H':Hp} {tb:TBs} (h:Tabs H tb) (e:Same H H'):Tabs H' tb:=fun x hx=>(h x hx).keep e
theorem Tabs.put {H:Hp} {tb:TBs} {l:Addr} {xs:List V} {o:HO} (h:Tabs H tb) (e:H l=some (.lst xs)):Tabs (upd H l o) tb:=fun x hx=>TabOk.put e (fun _ z=>nomatch z) (fun _ z=>nomatch z) (h x hx)
theorem SameV.nil {H H':Hp} (h:SameV [] H H'):Same H H':=fun b o e=>h.off b o (by simp) e
theorem FnOk.sub {P:Program} {w:World} {K:W.Frag} {mg:Str→Option Value} {base:Heap} {CX:CXT} {k:Nat} {f:Addr} {fd:FuncData} {ps:List Str} {sp sp':Sp} (F:FnOk P w K mg base CX k f fd ps sp) (h:∀ vs H Q E,sp' vs H Q E→sp vs H Q E):FnOk P w K mg base CX k f fd ps sp' :=
 ⟨fun vs H Q E x=>F.len vs H Q E (h vs H Q E x),fun A outer s H args us vs Q E a b c d x=>F.run A outer s H args us vs Q E a b c d (h vs H Q E x)⟩
end L2
namespace Ken
open PySem L2
noncomputable def numP:Nat→List Pf→List (Nat×Pf)
 | _,[]=>[]
 | n,p :: ps=>(n,p) :: numP (n+p.1.size) ps
theorem Yu2 (p:Pf):(preP p).length=p.1.size:=Ze2 p.1 p.2
theorem Yv4:∀ {a b:List Pf} {n:Nat},numP n (a++b)=numP n a++numP (n+(a.flatMap preP).length) b
 | [],b,n=>rfl
 | p :: a,b,n=>by
  show (n,p) :: numP (n+p.1.size) (a++b)=(n,p) :: (numP (n+p.1.size) a++_);rw[Yv4,List.flatMap_cons,List.length_append,Yu2,Nat.add_assoc]
theorem Yf7:∀ {ps:List Pf} {n:Nat},(numP n ps).map (·.2)=ps
 | [],n=>rfl
 | p :: ps,n=>by show p :: (numP _ ps).map (·.2)=_;rw[Yf7]
theorem Yv3 {ps:List Pf} {n:Nat}:(numP n ps).length=ps.length:=by
 have:=congrArg List.length (Yf7 (ps:=ps) (n:=n))
 rwa [List.length_map] at this
theorem Xd6 (p:Pf):p.1.size=1+((Zh7 p).flatMap preP).length:=by
 rw[← Yu2,Zo2,List.length_cons];walk_at "o"
noncomputable abbrev RPn:=Hp→Nat→Pf→V→Prop
def Yn4 (tb:TBs) (J:Hp→Prop) (R:RPn) (p0:Pf):Sp:=fun vs H Q _=>∃ (n:Nat) (p:Pf) (l:Addr) (us:List V),vs=[.int (n:Nat),.ref l]∧J H∧Tabs H tb∧(preP p0)[n]?=some p∧H l=some (.lst us)∧Paired (fun u (k:Nat×Pf)=>R H k.1 k.2 u) us (numP (n+1) (Zh7 p)) ∧
 ∀ (r:V) (H':Hp),SameV (tb.map (·.1)) H H'→Tabs H' tb→R H' n p r→Q r H'
def Zw9 (K:W.Frag) (tb:TBs) (J:Hp→Prop) (R:RPn) (p0:Pf) (f:Addr):Sp:=fun vs H Q _=>∃ (l:Addr) (us:List V),vs=[.ref l,.ref f]∧J H∧Tabs H tb∧SqL K H l us∧Paired (IsPf K H) us (preP p0)∧p0.1.size≤20000 ∧
 ∀ (r:V) (H':Hp),SameV (tb.map (·.1)) H H'→Tabs H' tb→R H' 0 p0 r→Q r H'
theorem Yb8 {α β γ:Type} {F:α→γ→Prop} {g:β→γ}:∀ {l:List α} {m:List β},Paired (fun u k=>F u (g k)) l m→Paired F l (m.map g)
 | _,_,.nil=>.nil
 | _,_,.cons a t=>.cons a (Yb8 t)
noncomputable def Te.turns:Te→Bool
 | .one .left (.two .pair _ _) _=>true
 | .one .right (.two .pair _ _) _=>true
 | .two .use (.fn _ _) _=>true
 | .cs (.one .first _ _) _ _=>true
 | .cs (.one .second _ _) _ _=>true
 | _=>false
noncomputable def Te.itself:Te→Te
 | .one .left (.two .pair a _) _=>a
 | .one .right (.two .pair _ b) _=>b
 | .two .use (.fn _ b) o=>b.mp (putF o) 0
 | .cs (.one .first a _) b _=>b.mp (putF a) 0
 | .cs (.one .second a _) _ c=>c.mp (putF a) 0
 | t=>t
noncomputable def Te.tpm (m:Nat):Te→Nat→Te
 | .at k,n=>if n=m then (Te.at k).itself else .at k
 | .one u a ss,n=>if n=m then (Te.one u a ss).itself else .one u (a.tpm m (n+1)) ss
 | .two u a b,n=>if n=m then (Te.two u a b).itself else .two u (a.tpm m (n+1)) (b.tpm m (n+1+a.size))
 | .fn s a,n=>if n=m then (Te.fn s a).itself else .fn s (a.tpm m (n+1))
 | .cs a b c,n=>if n=m then (Te.cs a b c).itself else .cs (a.tpm m (n+1)) (b.tpm m (n+1+a.size)) (c.tpm m (n+1+a.size+b.size))
theorem Ys7 {m:Nat}:∀ t:Te,t.tpm m m=t.itself
 | .at k=>if_pos rfl
 | .one _ _ _=>if_pos rfl
 | .two _ _ _=>if_pos rfl
 | .fn _ _=>if_pos rfl
 | .cs _ _ _=>if_pos rfl
theorem Xn2 {m n:Nat} (h:n≠m) (p:Pf):p.1.tpm m n=p.1.withK ((numP (n+1) (Zh7 p)).map fun k=>k.2.1.tpm m k.1):=by
 obtain⟨t,f⟩:=p
 cases t with
 | «at» k=>exact if_neg h
 | one u a ss=>exact if_neg h
 | two u a b=>exact if_neg h
 | fn s a=>exact if_neg h
 | cs a b c=>exact if_neg h
theorem size_pos:∀ t:Te,1≤t.size
 | .at _=>Nat.le_refl _
 | .one _ a _=>Nat.le_add_right _ _
 | .two _ a b=>by show 1≤1+a.size+b.size;walk_at "o"
 | .fn _ a=>Nat.le_add_right _ _
 | .cs a b c=>by show 1≤1+a.size+b.size+c.size;walk_at "o"
theorem Zg4 {m:Nat}:∀ {t:Te} {n:Nat},(m < n∨n+t.size≤m)→t.tpm m n=t
 | .at k,n,h=>if_neg (by have:m < n∨n+1≤m:=h;walk_at "o")
 | .one u a ss,n,h=>by
  have h:m < n∨n+(1+a.size)≤m:=h;refine (if_neg (by walk_at "o")).trans ?_;rw[Zg4 (t:=a) (by walk_at "o")]
 | .two u a b,n,h=>by
  have h:m < n∨n+(1+a.size+b.size)≤m:=h;refine (if_neg (by walk_at "o")).trans ?_;rw[Zg4 (t:=a) (by walk_at "o"),Zg4 (t:=b) (by walk_at "o")]
 | .fn s a,n,h=>by
  have h:m < n∨n+(1+a.size)≤m:=h;refine (if_neg (by walk_at "o")).trans ?_;rw[Zg4 (t:=a) (by walk_at "o")]
 | .cs a b c,n,h=>by
  have h:m < n∨n+(1+a.size+b.size+c.size)≤m:=h;refine (if_neg (by walk_at "o")).trans ?_;rw[Zg4 (t:=a) (by walk_at "o"),Zg4 (t:=b) (by walk_at "o"),Zg4 (t:=c) (by walk_at "o")]
noncomputable def idxT:Nat→List Pf→List Nat
 | _,[]=>[]
 | n,p :: ps=>(if p.1.turns then [n] else [])++idxT (n+1) ps
theorem Zr3:∀ {a b:List Pf} {n:Nat},idxT n (a++b)=idxT n a++idxT (n+a.length) b
 | [],b,n=>rfl
 | p :: a,b,n=>by
  show _++idxT (n+1) (a++b)=(_++idxT (n+1) a)++_;rw[Zr3,List.append_assoc,List.length_cons,show n+1+a.length=n+(a.length+1) by walk_at "o"]
theorem Yg1:∀ {a:List Pf} {n:Nat},(idxT n a).length≤a.length
 | [],n=>Nat.le_refl _
 | p :: a,n=>by
  show ((if p.1.turns then [n] else [])++idxT (n+1) a).length≤a.length+1;rw[List.length_append];have:=Yg1 (a:=a) (n:=n+1)
  split<;>simp<;>walk_at "o"
noncomputable def Te.paths:Te→List Nat→List (List Nat)
 | .at _,_=>[]
 | .one u a ss,π=>(if (Te.one u a ss).turns then [π] else [])++a.paths (π++[1])
 | .two u a b,π=>(if (Te.two u a b).turns then [π] else [])++(a.paths (π++[1])++b.paths (π++[2]))
 | .fn s a,π=>a.paths (π++[2])
 | .cs a b c,π=>(if (Te.cs a b c).turns then [π] else [])++(a.paths (π++[1])++(b.paths (π++[2])++c.paths (π++[3])))
noncomputable def Te.tat:Te→List Nat→Te
 | t,[]=>t.itself
 | .one u a ss,1 :: π=>.one u (a.tat π) ss
 | .two u a b,1 :: π=>.two u (a.tat π) b
 | .two u a b,2 :: π=>.two u a (b.tat π)
 | .fn s a,2 :: π=>.fn s (a.tat π)
 | .cs a b c,1 :: π=>.cs (a.tat π) b c
 | .cs a b c,2 :: π=>.cs a (b.tat π) c
 | .cs a b c,3 :: π=>.cs a b (c.tat π)
 | t,_=>t
def Te.okp:Te→List Nat→Prop
 | t,[]=>t.turns=true
 | .one u a ss,1 :: π=>a.okp π
 | .two u a b,1 :: π=>a.okp π
 | .two u a b,2 :: π=>b.okp π
 | .fn s a,2 :: π=>a.okp π
 | .cs a b c,1 :: π=>a.okp π
 | .cs a b c,2 :: π=>b.okp π
 | .cs a b c,3 :: π=>c.okp π
 | _,_=>False
def Corr (t:Te) (n:Nat) (π:List Nat) (m:Nat) (q:List Nat):Prop:=∃ ρ,q=π++ρ∧t.tpm m n=t.tat ρ∧n≤m∧m < n+t.size∧t.okp ρ
theorem Zg5 {α β:Type} {F:α→β→Prop}:∀ {l l2:List α} {m m2:List β},Paired F l m→Paired F l2 m2→Paired F (l++l2) (m++m2)
 | _,_,_,_,.nil,h=>h
 | _,_,_,_,.cons a t,h=>.cons a (Zg5 t h)
theorem Zg7 {α β:Type} {F G:α→β→Prop} (h:∀ x y,F x y→G x y):∀ {l:List α} {m:List β},Paired F l m→Paired G l m
 | _,_,.nil=>.nil
 | _,_,.cons a t=>.cons (h _ _ a) (Zg7 h t)
theorem Xk8 {t:Te} {n:Nat} {π:List Nat} (h:t.turns=true):Corr t n π n π:=⟨[],by rw[List.append_nil],by rw[Ys7];cases t<;>rfl,Nat.le_refl _,by have:=size_pos t;walk_at "o",by cases t<;>exact h⟩
theorem Zz8 {t:Te} {n:Nat} {π:List Nat}:Paired (Corr t n π) (if t.turns then [n] else []) (if t.turns then [π] else []):=by
 cases h:t.turns with
 | true=>exact .cons (Xk8 h) .nil
 | false=>exact .nil
theorem Zl3 {t a:Te} {n k i:Nat} {π:List Nat} {m:Nat} {q:List Nat} (h:Corr a k (π++[i]) m q) (h1:∀ m ρ,k≤m→m < k+a.size→a.tpm m k=a.tat ρ→t.tpm m n=t.tat (i :: ρ)) (h2:n≤k) (h3:k+a.size≤n+t.size) (h4:∀ ρ,a.okp ρ→t.okp (i :: ρ)):Corr t n π m q:=by
 obtain⟨ρ,e1,e2,e3,e4,e5⟩:=h;exact⟨i :: ρ,by rw[e1,List.append_assoc];rfl,h1 m ρ e3 e4 e2,by walk_at "o",by walk_at "o",h4 ρ e5⟩
theorem Ze9:∀ {t:Te} {f n:Nat} {π:List Nat},Paired (Corr t n π) (idxT n (t.pre f)) (t.paths π)
 | .at k,f,n,π=>.nil
 | .one u a ss,f,n,π=>by
  refine Zg5 Zz8 (Zg7 (fun m q h=>Zl3 h (fun m ρ e1 e2 e=>?_) (by walk_at "o") (by show _≤n+(1+a.size);walk_at "o") fun _ z=>z) (Ze9 (t:=a) (f:=f) (n:=n+1) (π:=π++[1])));exact (if_neg (by walk_at "o")).trans (by rw[e];rfl)
 | .two u a b,f,n,π=>by
  show Paired _ (_++idxT (n+1) (a.pre f++b.pre f)) _;rw[Zr3,Ze2]
  refine Zg5 Zz8 (Zg5 (Zg7 (fun m q h=>Zl3 h (fun m ρ e1 e2 e=>?_) (by walk_at "o") (by show _≤n+(1+a.size+b.size);walk_at "o") fun _ z=>z) (Ze9 (t:=a) (f:=f) (n:=n+1) (π:=π++[1])))
   (Zg7 (fun m q h=>Zl3 h (fun m ρ e1 e2 e=>?_) (by walk_at "o") (by show _≤n+(1+a.size+b.size);walk_at "o") fun _ z=>z) (Ze9 (t:=b) (f:=f) (n:=n+1+a.size) (π:=π++[2]))))
  ·exact (if_neg (by walk_at "o")).trans (by rw[e,Zg4 (t:=b) (by walk_at "o")];rfl)
  ·exact (if_neg (by walk_at "o")).trans (by rw[e,Zg4 (t:=a) (by walk_at "o")];rfl)
 | .fn s a,f,n,π=>by
  refine Zg7 (fun m q h=>Zl3 h (fun m ρ e1 e2 e=>?_) (by walk_at "o") (by show _≤n+(1+a.size);walk_at "o") fun _ z=>z) (Ze9 (t:=a) (f:=f+1) (n:=n+1) (π:=π++[2]));exact (if_neg (by walk_at "o")).trans (by rw[e];rfl)
 | .cs a b c,f,n,π=>by
  show Paired _ (_++idxT (n+1) (a.pre f++(b.pre (f+1)++c.pre (f+1)))) _;rw[Zr3,Zr3,Ze2,Ze2]
  refine Zg5 Zz8 (Zg5 (Zg7 (fun m q h=>Zl3 h (fun m ρ e1 e2 e=>?_) (by walk_at "o") (by show _≤n+(1+a.size+b.size+c.size);walk_at "o") fun _ z=>z) (Ze9 (t:=a) (f:=f) (n:=n+1) (π:=π++[1])))
   (Zg5 (Zg7 (fun m q h=>Zl3 h (fun m ρ e1 e2 e=>?_) (by walk_at "o") (by show _≤n+(1+a.size+b.size+c.size);walk_at "o") fun _ z=>z) (Ze9 (t:=b) (f:=f+1) (n:=n+1+a.size) (π:=π++[2])))
    (Zg7 (fun m q h=>Zl3 h (fun m ρ e1 e2 e=>?_) (by walk_at "o") (by show _≤n+(1+a.size+b.size+c.size);walk_at "o") fun _ z=>z) (Ze9 (t:=c) (f:=f+1) (n:=n+1+a.size+b.size) (π:=π++[3])))))
  ·exact (if_neg (by walk_at "o")).trans (by rw[e,Zg4 (t:=b) (by walk_at "o"),Zg4 (t:=c) (by walk_at "o")];rfl)
  ·exact (if_neg (by walk_at "o")).trans (by rw[e,Zg4 (t:=a) (by walk_at "o"),Zg4 (t:=c) (by walk_at "o")];rfl)
  ·exact (if_neg (by walk_at "o")).trans (by rw[e,Zg4 (t:=a) (by walk_at "o"),Zg4 (t:=b) (by walk_at "o")];rfl)
theorem Zw1 {t:Te} (h:t.turns=true):(∃ a b ss,t=.one .left (.two .pair a b) ss)∨(∃ a b ss,t=.one .right (.two .pair a b) ss)∨(∃ s b o,t=.two .use (.fn s b) o)∨(∃ a ss b c,t=.cs (.one .first a ss) b c)∨(∃ a ss b c,t=.cs (.one .second a ss) b c):=by
 cases t with
 | one u a ss =>
  cases u with
  | left =>
   cases a with
   | two v x y =>
    cases v with
    | pair=>exact .inl ⟨_,_,_,rfl⟩
    | use=>cases h
   | _=>cases h
  | right =>
   cases a with
   | two v x y =>
    cases v with
    | pair=>exact .inr (.inl ⟨_,_,_,rfl⟩)
    | use=>cases h
   | _=>cases h
  | _=>cases h
 | two u a b =>
  cases u with
  | use =>
   cases a with
   | fn s x=>exact .inr (.inr (.inl ⟨_,_,_,rfl⟩))
   | _=>cases h
  | pair=>cases h
 | cs a b c =>
  cases a with
  | one u x ss =>
   cases u with
   | first=>exact .inr (.inr (.inr (.inl ⟨_,_,_,_,rfl⟩)))
   | second=>exact .inr (.inr (.inr (.inr ⟨_,_,_,_,rfl⟩)))
   | _=>cases h
  | _=>cases h
 | _=>cases h
theorem Zi7 {t:Te} (h:t.okp []):t.turns=true:=by cases t<;>exact h
theorem Ym8 {t:Te}:t.tat []=t.itself:=by cases t<;>rfl
theorem Zg2 {t:Te} {i:Nat} {ρ:List Nat} (h:t.okp (i :: ρ)):(∃ u a ss,t=.one u a ss∧i=1∧a.okp ρ)∨(∃ u a b,t=.two u a b∧i=1∧a.okp ρ)∨(∃ u a b,t=.two u a b∧i=2∧b.okp ρ)∨(∃ s a,t=.fn s a∧i=2∧a.okp ρ)∨(∃ a b c,t=.cs a b c∧i=1∧a.okp ρ)∨(∃ a b c,t=.cs a b c∧i=2∧b.okp ρ)∨(∃ a b c,t=.cs a b c∧i=3∧c.okp ρ):=by
 cases t with
 | «at» k=>exact (match i,h with | 0,h=>h.elim | 1,h=>h.elim | 2,h=>h.elim | 3,h=>h.elim | _+4,h=>h.elim)
 | one u a ss=>exact (match i,h with | 0,h=>h.elim | 1,h=>.inl ⟨_,_,_,rfl,rfl,h⟩ | 2,h=>h.elim | 3,h=>h.elim | _+4,h=>h.elim)
 | two u a b=>exact (match i,h with | 0,h=>h.elim | 1,h=>.inr (.inl ⟨_,_,_,rfl,rfl,h⟩) | 2,h=>.inr (.inr (.inl ⟨_,_,_,rfl,rfl,h⟩)) | 3,h=>h.elim | _+4,h=>h.elim)
 | fn s a=>exact (match i,h with | 0,h=>h.elim | 1,h=>h.elim | 2,h=>.inr (.inr (.inr (.inl ⟨_,_,rfl,rfl,h⟩))) | 3,h=>h.elim | _+4,h=>h.elim)
 | cs a b c=>exact (match i,h with | 0,h=>h.elim | 1,h=>.inr (.inr (.inr (.inr (.inl ⟨_,_,_,rfl,rfl,h⟩)))) | 2,h=>.inr (.inr (.inr (.inr (.inr (.inl ⟨_,_,_,rfl,rfl,h⟩))))) | 3,h=>.inr (.inr (.inr (.inr (.inr (.inr ⟨_,_,_,rfl,rfl,h⟩))))) | _+4,h=>h.elim)
end Ken
namespace L2
open PySem PySem.Spec PyProof.Rows
theorem FunT.okX {P:Program} {w:World} {K:W.Frag} {mg:Str→Option Value} {base:Heap} {x qual:Str} {st:Stmt} {f:Addr} {fd:FuncData} {T:Addr} {N ps:List Str} {k:Nat} {sp:Sp} (F:FunT K x qual st f fd T) (S:FnScope N ps (Za3 st)) (len:∀ vs H Q E,sp vs H Q E→vs.length=ps.length)
  (hbody:∀ (c:Addr) (A:Around) (outer:List Env) (s:Shared) (H:Hp) (vs:List V) (Q:VK) (E:XK),(∀ h,K.In h→W.CodeHd h c T)→Room k (A.deeper (envOfC qual (Za3 st) s.heap.objs.size f (.ref c)))→sp vs H Q E →
   ∃ t,PSs (cxOf (CXe P w) P w K mg base N qual (Za3 st) f (.ref c) A outer s H E) (Zc1 st) t∧t { nx:=fun _ H'=>Q .non H',rt:=Q } (start N vs) H):FnOk P w K mg base (CXe P w) (k+1) f fd ps sp:=by
 obtain⟨oc,od,kV,doc,pm,an,c,ct,osl,rfl,lk,hcd,hC⟩:=F.ex;exact fn_of lk hcd S len fun A outer s H vs Q E hr hsp=>hbody c A outer s H vs Q E hC hr hsp
end L2
namespace Ken
open PySem L2
theorem Zz2:∀ {t:Te} {f:Nat},t.mp (Zb5 0) f=t
 | .at k,f=>by show Te.at (if f≤k then k+0 else k)=.at k;split<;>rfl
 | .one u a ss,f=>by show Te.one u (a.mp (Zb5 0) f) ss=_;rw[Zz2]
 | .two u a b,f=>by show Te.two u (a.mp (Zb5 0) f) (b.mp (Zb5 0) f)=_;rw[Zz2,Zz2]
 | .fn s a,f=>by show Te.fn s (a.mp (Zb5 0) (f+1))=_;rw[Zz2]
 | .cs a b c,f=>by show Te.cs (a.mp (Zb5 0) f) (b.mp (Zb5 0) (f+1)) (c.mp (Zb5 0) (f+1))=_;rw[Zz2,Zz2,Zz2]
theorem Xq8 (p:Pf):1+(topI none ((Zh7 p).map fun k=>((k.1.deep:Nat):Int))).getD 0=((p.1.deep:Nat):Int):=by
 obtain⟨t,f⟩:=p
 cases t with
 | «at» k=>rfl
 | one u a ss=>show 1+((a.deep:Nat):Int)=((1+a.deep:Nat):Int);walk_at "o"
 | two u a b =>
  show 1+(if ((b.deep:Nat):Int) > ((a.deep:Nat):Int) then ((b.deep:Nat):Int) else ((a.deep:Nat):Int))=((1+max a.deep b.deep:Nat):Int)
  split<;>walk_at "o"
 | fn s a=>show 1+((a.deep:Nat):Int)=((1+a.deep:Nat):Int);walk_at "o"
 | cs a b c =>
  show 1+(if ((c.deep:Nat):Int) > (if ((b.deep:Nat):Int) > ((a.deep:Nat):Int) then ((b.deep:Nat):Int) else ((a.deep:Nat):Int)) then ((c.deep:Nat):Int) else (if ((b.deep:Nat):Int) > ((a.deep:Nat):Int) then ((b.deep:Nat):Int) else ((a.deep:Nat):Int)))=((1+max a.deep (max b.deep c.deep):Nat):Int)
  split<;>split<;>walk_at "o"
noncomputable def turnV (aT:Nat→Addr):List (Str×V):=[("left",.ref (aT 0)),("right",.ref (aT 1)),("use",.ref (aT 2)),("cases",.ref (aT 3))]
structure Tng (K:W.Frag) (aT:Nat→Addr):Prop where
 l:∀ H,SqT K H (aT 0) [.str "pair"]
 r:∀ H,SqT K H (aT 1) [.str "pair"]
 u:∀ H,SqT K H (aT 2) [.str "fun"]
 c:∀ H,SqT K H (aT 3) [.str "first",.str "second"]
noncomputable abbrev natW (ns:List Nat):List V:=ns.map fun (n:Nat)=>V.int (n:Nat)
def Yt1 (K:W.Frag):Sp:=fun vs H Q _=>∃ (v:V) (t:Te),vs=[v]∧IsE K H v t∧Q (.bl t.turns) H
def Zx4 (K:W.Frag) (tb:TBs):Sp:=fun vs H Q _=>∃ (v:V) (t:Te),vs=[v]∧IsE K H v t∧t.turns=true∧t.size≤20000∧t.bnd≤60∧t.all Tm.ok∧Tabs H tb∧∀ (r:V) (H':Hp),SameV (tb.map (·.1)) H H'→Tabs H' tb→IsE K H' r t.itself→Q r H'
def Zn1 (K:W.Frag):Sp:=fun vs H Q _=>∃ (l:Addr) (us:List V) (ps:List Pf),vs=[.ref l]∧H l=some (.lst us)∧Paired (IsPf K H) us ps∧ps.length≤20000∧∀ (r:Addr) (H':Hp),Same H H'→H r=none→H' r=some (.lst (natW (idxT 0 ps)))→Q (.ref r) H'
def Yi3 (K:W.Frag):Sp:=fun vs H Q _=>∃ (v:V) (t:Te),vs=[v]∧IsE K H v t∧t.size≤20000∧∀ H',Same H H'→Q (.int (t.size:Nat)) H'
def Yt2 (K:W.Frag) (T:Addr) (d:List (Pos×Str)):Sp:=fun vs H Q _=>∃ (v:V) (t:Te),vs=[v]∧IsE K H v t∧t.size≤20000∧TabOk H T d∧∀ H',SameV [T] H H'→TabOk H' T d→Q (.int (t.deep:Nat)) H'
def Zp3 (K:W.Frag) (tb:TBs) (aN aL:Addr):Sp:=fun vs H Q E=>∃ (v:V) (t:Te) (i:Int),vs=[v,.int i]∧IsE K H v t∧t.size≤5000∧t.bnd≤60∧t.all Tm.ok∧Tabs H tb∧(∀ j m:Nat,i=(j:Nat)→(idxT 0 (t.pre 0))[j]?=some m→(t.tpm m 0).size≤20000) ∧
 (¬ (0≤i∧i < ((idxT 0 (t.pre 0)).length:Nat))→∀ e H1 H',SameV (tb.map (·.1)) H H1→Tabs H1 tb→Xtd H1 e (.ref aN) none H'→E (.ref e) none H') ∧
 (∀ (j m:Nat),i=(j:Nat)→(idxT 0 (t.pre 0))[j]?=some m →
  ((t.tpm m 0).size≤1000∧(t.tpm m 0).deep≤120→∀ (r:V) (H':Hp),SameV (tb.map (·.1)) H H'→Tabs H' tb→IsE K H' r (t.tpm m 0)→Q r H') ∧
  (¬ ((t.tpm m 0).size≤1000∧(t.tpm m 0).deep≤120)→∀ e H1 H',SameV (tb.map (·.1)) H H1→Tabs H1 tb→Xtd H1 e (.ref aL) none H'→E (.ref e) none H'))
theorem Yw2:∀ {ps:List Pf} {n m:Nat},m∈idxT n ps→∃ p,n≤m∧ps[m - n]?=some p∧p.1.turns=true
 | [],n,m,h=>nomatch h
 | p :: ps,n,m,h=>by
  rcases List.mem_append.mp (show m∈(if p.1.turns then [n] else [])++idxT (n+1) ps from h) with h | h
  ·split at h
   ·rename_i c
    rcases List.mem_singleton.mp h with rfl;exact⟨p,Nat.le_refl _,by rw[Nat.sub_self];rfl,c⟩
   ·cases h
  ·obtain⟨q,h1,h2,h3⟩:=Yw2 h
   exact⟨q,by walk_at "o",by rw[show m - n=m - (n+1)+1 by walk_at "o"];exact h2,h3⟩
theorem Zn4:∀ {t:Te} {f:Nat} {p:Pf},p∈t.pre f→p.1.bnd≤t.bnd
 | .at k,f,p,h=>by rcases List.mem_singleton.mp h with rfl;exact Nat.le_refl _
 | .one u a ss,f,p,h=>by
  rcases List.mem_cons.mp h with rfl | h
  ·exact Nat.le_refl _
  ·have:=Zn4 h
   show _≤a.bnd;walk_at "o"
 | .two u a b,f,p,h=>by
  rcases List.mem_cons.mp h with rfl | h
  ·exact Nat.le_refl _
  ·rcases List.mem_append.mp h with h | h<;>have:=Zn4 h<;>(show _≤max a.bnd b.bnd;walk_at "o")
 | .fn s a,f,p,h=>by
  rcases List.mem_cons.mp h with rfl | h
  ·exact Nat.le_refl _
  ·have:=Zn4 h
   show _≤1+a.bnd;walk_at "o"
 | .cs a b c,f,p,h=>by
  rcases List.mem_cons.mp h with rfl | h
  ·exact Nat.le_refl _
  ·rcases List.mem_append.mp h with h | h
   ·have:=Zn4 h
    show _≤max a.bnd (1+max b.bnd c.bnd);walk_at "o"
   ·rcases List.mem_append.mp h with h | h<;>have:=Zn4 h<;>(show _≤max a.bnd (1+max b.bnd c.bnd);walk_at "o")
theorem Zs6:∀ {t:Te} {f:Nat} {p:Pf},p∈t.pre f→p.1.size≤t.size∧p.1.deep≤t.deep
 | .at k,f,p,h=>by rcases List.mem_singleton.mp h with rfl;exact⟨Nat.le_refl _,Nat.le_refl _⟩
 | .one u a ss,f,p,h=>by
  rcases List.mem_cons.mp h with rfl | h
  ·exact⟨Nat.le_refl _,Nat.le_refl _⟩
  ·obtain⟨h1,h2⟩:=Zs6 h
   exact⟨by show _≤1+a.size;walk_at "o",by show _≤1+a.deep;walk_at "o"⟩
 | .two u a b,f,p,h=>by
  rcases List.mem_cons.mp h with rfl | h
  ·exact⟨Nat.le_refl _,Nat.le_refl _⟩
  ·rcases List.mem_append.mp h with h | h<;>obtain⟨h1,h2⟩:=Zs6 h<;>exact⟨by show _≤1+a.size+b.size;walk_at "o",by show _≤1+max a.deep b.deep;walk_at "o"⟩
 | .fn s a,f,p,h=>by
  rcases List.mem_cons.mp h with rfl | h
  ·exact⟨Nat.le_refl _,Nat.le_refl _⟩
  ·obtain⟨h1,h2⟩:=Zs6 h
   exact⟨by show _≤1+a.size;walk_at "o",by show _≤1+a.deep;walk_at "o"⟩
 | .cs a b c,f,p,h=>by
  rcases List.mem_cons.mp h with rfl | h
  ·exact⟨Nat.le_refl _,Nat.le_refl _⟩
  ·rcases List.mem_append.mp h with h | h
   ·obtain⟨h1,h2⟩:=Zs6 h
    exact⟨by show _≤1+a.size+b.size+c.size;walk_at "o",by show _≤1+max a.deep (max b.deep c.deep);walk_at "o"⟩
   ·rcases List.mem_append.mp h with h | h<;>obtain⟨h1,h2⟩:=Zs6 h<;>exact⟨by show _≤1+a.size+b.size+c.size;walk_at "o",by show _≤1+max a.deep (max b.deep c.deep);walk_at "o"⟩
def JPt (K:W.Frag) (lp pl:Addr) (us:List V) (p0:Pf) (ms:List Nat) (H:Hp):Prop:=SqL K H lp us∧Paired (IsPf K H) us (preP p0)∧SqL K H pl (natW ms)
theorem Xp6 {K:W.Frag} {lp pl:Addr} {us:List V} {p0:Pf} {ms:List Nat} {ts:List Addr} (H H':Hp) (e:SameV ts H H') (h:JPt K lp pl us p0 ms H):JPt K lp pl us p0 ms H' :=
 ⟨SameT.seq e.toT h.1,Paired.mapP h.2.1 fun _ _ z=>IsPf.keep z (SameT.keepT e.toT),SameT.seq e.toT h.2.2⟩
noncomputable abbrev RTn (K:W.Frag) (m:Nat):RPn:=fun H n p v=>IsE K H v (p.1.tpm m n)
structure SubE (a t:Te):Prop where
 sz:a.size < t.size
 dp:a.deep < t.deep
 bd:a.bnd≤t.bnd
 al:t.all Tm.ok→a.all Tm.ok
 fi:∀ ws,t.fine ws→a.fine ws
inductive TView (K:W.Frag) (H:Hp) (t:Te):Str→Str→List V→List V→Prop where
 | left {ti:Str} {r:List V} {x y:V} {a:Te}:IsE K H x a→t.itself=a→SubE a t→TView K H t "left" ti r [x,y]
 | right {ti:Str} {r:List V} {x y:V} {a:Te}:IsE K H y a→t.itself=a→SubE a t→TView K H t "right" ti r [x,y]
 | use {ti:Str} {x y z:V} {b o:Te}:IsE K H y b→IsE K H z o→t.itself=b.mp (putF o) 0→SubE b t→SubE o t→TView K H t "use" ti [z] [x,y]
 | cases {ti:Str} {x y z:V} {rs:List V} {b o:Te}:IsE K H (if ti="first" then y else z) b→IsE K H x o→t.itself=b.mp (putF o) 0→SubE b t→SubE o t→(ti="first"∨ti="second")→TView K H t "cases" ti [y,z] (x :: rs)
theorem Wl2 {K:W.Frag} {H:Hp} {t:Te} {v:V} (hT:IsE K H v t) (ht:t.turns=true):∃ (p pi:Addr) (tg ti:Str) (r ry:List V),v=.ref p∧SqT K H p (.str tg :: .ref pi :: r)∧SqT K H pi (.str ti :: ry)∧TView K H t tg ti r ry:=by
 rcases Zw1 ht with ⟨a,b,ss,rfl⟩ | ⟨a,b,ss,rfl⟩ | ⟨st,b,o,rfl⟩ | ⟨a,ss,b,c,rfl⟩ | ⟨a,ss,b,c,rfl⟩
 ·obtain⟨p,x,rs,rfl,h1,h2,_⟩:=isE_oneV.mp hT
  obtain⟨p2,x2,y2,rfl,g1,g2,g3⟩:=isE_twoV.mp h2;exact⟨p,p2,_,_,_,_,rfl,h1,g1,.left g2 rfl ⟨by show a.size < 1+(1+a.size+b.size);walk_at "o",by show a.deep < 1+(1+max a.deep b.deep);walk_at "o",by show a.bnd≤max a.bnd b.bnd;walk_at "o",fun h=>h.1.1,fun _ h=>h.1.1⟩⟩
 ·obtain⟨p,x,rs,rfl,h1,h2,_⟩:=isE_oneV.mp hT
  obtain⟨p2,x2,y2,rfl,g1,g2,g3⟩:=isE_twoV.mp h2;exact⟨p,p2,_,_,_,_,rfl,h1,g1,.right g3 rfl ⟨by show b.size < 1+(1+a.size+b.size);walk_at "o",by show b.deep < 1+(1+max a.deep b.deep);walk_at "o",by show b.bnd≤max a.bnd b.bnd;walk_at "o",fun h=>h.1.2,fun _ h=>h.1.2⟩⟩
 ·obtain⟨p,x,z,rfl,h1,h2,h3⟩:=isE_twoV.mp hT
  obtain⟨p2,x2,y2,rfl,g1,g2,g3⟩:=isE_fnV.mp h2;exact⟨p,p2,_,_,_,_,rfl,h1,g1,.use g3 h3 rfl ⟨by show b.size < 1+(1+b.size)+o.size;walk_at "o",by show b.deep < 1+max (1+b.deep) o.deep;walk_at "o",by show b.bnd≤max (1+b.bnd) o.bnd;walk_at "o",fun h=>h.1.2,fun _ h=>h.1.2⟩ ⟨by show o.size < 1+(1+b.size)+o.size;walk_at "o",by show o.deep < 1+max (1+b.deep) o.deep;walk_at "o",by show o.bnd≤max (1+b.bnd) o.bnd;walk_at "o",fun h=>h.2,fun _ h=>h.2⟩⟩
 ·obtain⟨p,x,y,z,rfl,h1,h2,h3,h4⟩:=isE_csV.mp hT
  obtain⟨p2,x2,rs,rfl,g1,g2,g3⟩:=isE_oneV.mp h2;exact⟨p,p2,_,_,_,_,rfl,h1,g1,.cases h3 g2 rfl ⟨by show b.size < 1+(1+a.size)+b.size+c.size;walk_at "o",by show b.deep < 1+max (1+a.deep) (max b.deep c.deep);walk_at "o",by show b.bnd≤max a.bnd (1+max b.bnd c.bnd);walk_at "o",fun h=>h.2.1,fun _ h=>h.2.1⟩ ⟨by show a.size < 1+(1+a.size)+b.size+c.size;walk_at "o",by show a.deep < 1+max (1+a.deep) (max b.deep c.deep);walk_at "o",by show a.bnd≤max a.bnd (1+max b.bnd c.bnd);walk_at "o",fun h=>h.1.1,fun _ h=>h.1.1⟩ (.inl rfl)⟩
 ·obtain⟨p,x,y,z,rfl,h1,h2,h3,h4⟩:=isE_csV.mp hT
  obtain⟨p2,x2,rs,rfl,g1,g2,g3⟩:=isE_oneV.mp h2;exact⟨p,p2,_,_,_,_,rfl,h1,g1,.cases h4 g2 rfl ⟨by show c.size < 1+(1+a.size)+b.size+c.size;walk_at "o",by show c.deep < 1+max (1+a.deep) (max b.deep c.deep);walk_at "o",by show c.bnd≤max a.bnd (1+max b.bnd c.bnd);walk_at "o",fun h=>h.2.2,fun _ h=>h.2.2⟩ ⟨by show a.size < 1+(1+a.size)+b.size+c.size;walk_at "o",by show a.deep < 1+max (1+a.deep) (max b.deep c.deep);walk_at "o",by show a.bnd≤max a.bnd (1+max b.bnd c.bnd);walk_at "o",fun h=>h.1.1,fun _ h=>h.1.1⟩ (.inr rfl)⟩
end Ken
namespace Hd
open PySem PySem.W PySem.Calls PySem.Spec PyProof.Rows L2
noncomputable def Ys6 (K:Frag) (v:Value):Option (Value×Nat×List (Option Str)):=match v with
 | .ref a=>(match K.lookup a with
  | some ⟨c,_,.seq vs _,_⟩=>some (c,vs.toList.length,vs.toList.map Zu6)
  | _=>none)
 | _=>none
noncomputable abbrev TrD:=Value×Option Addr×Array (Option Value)×Bool×List (Int×Option Str×Option (Value×Nat×List (Option Str)))
noncomputable def trSeen (K:Frag) (x:Str):Option TrD:=match Zj2 K x with
 | some (a,⟨c,od,.dict es _,sl⟩)=>some (c,od,sl,a == sysModules,es.toList.map fun e=>(e.hash,Zu6 e.key,Ys6 K e.val))
 | _=>none
noncomputable def Xc0 (r:List Str):Option (Value×Nat×List (Option Str)):=some (.type "tuple",r.length,r.map some)
noncomputable def trWant (P:Params) (kvs:List (Str×List Str)):Option TrD:=some (.type "dict",none,#[],false,kvs.map fun kv=>(PyData.keyHash P kv.1,some kv.1,Xc0 kv.2))
noncomputable def trK:List (Str×List Str):=[("left",["pair"]),("right",["pair"]),("use",["fun"]),("cases",["first","second"])]
theorem Xc9:∀ {r:List Str} {vs:List Value},vs.map Zu6=r.map some→Vals (r.map V.str) vs
 | [],[],_=>.nil
 | [],_ :: _,e=>by cases e
 | _ :: _,[],e=>by cases e
 | p :: r,v :: vs,e=>.cons (Yd5 (List.cons.inj e).1) (Xc9 (List.cons.inj e).2)
theorem Wl3 {K:Frag} {v:Value} {r:List Str} (hr:r.length≤sizeLine) (e:Ys6 K v=Xc0 r):∃ b,v=.ref b∧∀ H,SqT K H b (r.map V.str):=by
 unfold Ys6 at e
 split at e
 ·rename_i a
  split at e
  ·rename_i c od vs n sl h
   have e:=Option.some.inj e;simp only[Prod.mk.injEq] at e;obtain⟨rfl,e2,e3⟩:=e;refine⟨a,rfl,fun H=>.inr ⟨_,vs,n,h,rfl,rfl,?_,Xc9 e3⟩⟩;rw[Array.length_toList] at e2;rw[e2];exact hr
  ·cases e
 ·cases e
theorem Xc1 {K:Frag} {w:World}:∀ {kvs:List (Str×List Str)} {es:List DictEntry},(∀ kv∈kvs,kv.2.length≤sizeLine)→es.map (fun e=>(e.hash,Zu6 e.key,Ys6 K e.val))=kvs.map (fun kv=>(PyData.keyHash w.params kv.1,some kv.1,Xc0 kv.2)) →
  ∃ bs:List Addr,bs.length=kvs.length∧Paired (fun (p:Str×V) (e:DictEntry)=>(∃ tk,e.key=.str p.1 tk)∧e.hash=PyData.keyHash w.params p.1∧RelV p.2 e.val) (List.zipWith (fun kv b=>(kv.1,V.ref b)) kvs bs) es∧∀ (i:Nat) (kv:Str×List Str) (b:Addr),kvs[i]?=some kv→bs[i]?=some b→∀ H,SqT K H b (kv.2.map V.str)
 | [],[],_,_=>⟨[],rfl,.nil,fun i kv b h=>by cases i<;>cases h⟩
 | [],_ :: _,_,h=>by cases h
 | _ :: _,[],_,h=>by cases h
 | kv :: kvs,e :: es,hs,h=>by
  have q1:=(List.cons.inj h).1;simp only[Prod.mk.injEq] at q1;obtain⟨q3,q4,q5⟩:=q1;obtain⟨b,e1,hb⟩:=Wl3 (hs _ (.head _)) q5;obtain⟨bs,h1,h2,h3⟩:=Xc1 (fun kv m=>hs kv (.tail _ m)) (List.cons.inj h).2;refine⟨b :: bs,congrArg Nat.succ h1,.cons ⟨Yd5 q4,q3,e1⟩ h2,fun i kv' b' z1 z2=>?_⟩
  cases i with
  | zero=>cases z1;cases z2;exact hb
  | succ i=>exact h3 i kv' b' z1 z2
theorem tr_of {K:Frag} {w:World} {x:Str} (e:trSeen K x=trWant w.params trK):∃ (a:Addr) (aU:Nat→Addr),nsIn K mainGlobals x=some (some (.ref a))∧KDict K w a (Ken.turnV aU)∧Ken.Tng K aU:=by
 unfold trSeen at e
 split at e
 ·rename_i a c od es n sl h
  obtain⟨h1,h2⟩:=Xe2 h;have e:=Option.some.inj e;simp only[Prod.mk.injEq] at e;obtain⟨rfl,rfl,rfl,e4,e6⟩:=e;obtain⟨bs,l1,l2,l3⟩:=Xc1 (by decide) e6
  match bs,l1,l2,l3 with
  | [b0,b1,b2,b3],_,l2,l3 =>
   refine⟨a,fun i=>[b0,b1,b2,b3].getD i 0,h1,⟨⟨_,es,n,h2,⟨rfl,rfl,rfl⟩,rfl,l2⟩,?_,e4⟩,⟨l3 0 _ b0 rfl rfl,l3 1 _ b1 rfl rfl,l3 2 _ b2 rfl rfl,l3 3 _ b3 rfl rfl⟩⟩;show (["left","right","use","cases"]:List Str).Nodup;decide
 ·cases e
noncomputable def Wk6 (h:Heap):List Addr:=match nsIn (pick h [mainGlobals]) mainGlobals "TURNING" with
 | some (some (.ref a))=>a :: (match h.get? a with
  | some ⟨_,_,.dict es _,_⟩=>es.toList.filterMap fun e=>Wd4 e.val
  | _=>[])
 | _=>[]
noncomputable def Yd0 (p:Program) (A:Ask) (B:ClsAsk) (M:MoreAsk) (h:Heap):List Addr:=Wk8 p A B M h++(Wk7 h++Wk6 h)
noncomputable abbrev Obs9:=Obs3×Bool×Bool×Option InD×Option TrD×Bool
noncomputable def obs9 (p:Program) (A:Ask) (B:ClsAsk) (M:MoreAsk) (TA:List Nat) (s:Shared):Obs9 :=
 (Wm2 p A B M (pick s.heap (Yd0 p A B M s.heap)),codesOk p TA (pick s.heap (Yd0 p A B M s.heap)),Wb5 p TA s.heap (pick s.heap (Yd0 p A B M s.heap)),inSeen (pick s.heap (Yd0 p A B M s.heap)) "INNER",trSeen (pick s.heap (Yd0 p A B M s.heap)) "TURNING",decide (tabs p TA (pick s.heap (Yd0 p A B M s.heap))).Nodup)
noncomputable def val9 (p:Program) (A:Ask) (M:MoreAsk) (w:World):Obs9:=(val3 p A M w,true,true,inWant w.params innK,trWant w.params trK,true)
noncomputable def hook9 (p:Program) (A:Ask) (B:ClsAsk) (M:MoreAsk) (TA:List Nat):Hook :=
 ⟨Obs9,obs9 p A B M TA,val9 p A M,fun w h=>∃ K:Frag,K.In h∧(obsK p A K=valK p A w.params∧chk p B K=true∧iniK p M K=iniV p M∧chkM p M K=true)∧codesOk p TA K=true∧inSeen K "INNER"=inWant w.params innK∧trSeen K "TURNING"=trWant w.params trK∧(tabs p TA K).Nodup∧∀ T∈tabs p TA K,h.get? T=some (tabObj #[]),
  fun w s e=>by
   obtain⟨e1,e2⟩:=Prod.mk.inj e;obtain⟨e2,e3⟩:=Prod.mk.inj e2;obtain⟨e3,e4⟩:=Prod.mk.inj e3;obtain⟨e4,e5⟩:=Prod.mk.inj e4;obtain⟨e5,e6⟩:=Prod.mk.inj e5;refine⟨_,Xe8 _ _,⟨(Prod.mk.inj e1).1,(Prod.mk.inj (Prod.mk.inj e1).2).1,(Prod.mk.inj (Prod.mk.inj (Prod.mk.inj e1).2).2).1,(Prod.mk.inj (Prod.mk.inj (Prod.mk.inj e1).2).2).2⟩,e2,e4,e5,of_decide_eq_true e6,fun T hT=>?_⟩
   exact Yr3 (List.all_eq_true.mp e3 T hT),
  fun w h h' x k=>by
   obtain⟨K,i,e,c,a1,a2,a3,t⟩:=x
   exact⟨K,fun a o z=>k _ _ (i a o z),e,c,a1,a2,a3,fun T hT=>k _ _ (t T hT)⟩⟩
theorem walkH9 {l:OpenLaw} {n k:Nat} {q p:Program} {A:Ask} {B:ClsAsk} {M:MoreAsk} {TA:List Nat} {loose:List Str} {XP:(Str→Option Value)→Heap→Prop} {d:DefRec} {CX:CXT} {sp:Frag→List Addr→Sp} {x:Str}
  (hn:l.most=some n) (hn2:n≤sizeLine) (hdf:d.params.defaults=[]) (hr:Room k callerA) (hTA:∀ i∈TA,i∈A.fns)
  (F:∀ (w:World) (mg:Str→Option Value) (fa:Addr) (h:Heap) (K:Frag) (bm:Addr),K.In h→h.Ns mainGlobals mg→mg d.name=some (.ref fa)→obsK p A K=valK p A w.params→chk p B K=true→iniK p M K=iniV p M→chkM p M K=true→codesOk p TA K=true→inSeen K "INNER"=inWant w.params innK→trSeen K "TURNING"=trWant w.params trK→(tabs p TA K).Nodup→BltK K mg bm→(∀ T∈tabs p TA K,bm≠T) →
   ∃ fd:FuncData,(∀ (s:Shared) (u:Value),BindsTo s fd ⟨[u],[]⟩ [(x,u)])∧∀ base:Heap,K.In base→base.Ns mainGlobals mg→FnOk l.prog w K mg base CX k fa fd [x] (sp K (tabs p TA K)))
  (hsp:∀ (K:Frag) (ts:List Addr) (H:Hp) (a:Addr) (ns:List Int),ns.length≤n→ts.length=TA.length→(∀ T∈ts,H T=some (.tbl #[]))→SqL K H a (ns.map V.int)→sp K ts [.ref a] H (fun v _=>v=.bl true) fun _ _ _=>False)
  (hCX:∀ (H:Hp) (s:Shared) (e:Value) (s':Shared),CX [] H s (fun _ _ _=>False) e s'→False) :
  WalkO q loose XP (hook9 p A B M TA).says l.row.toRowW d [] (fun f vs=>PySem.call f vs) :=
 Att.attach_call hn hdf fun w s₀ s₁ mg mb fa o pm cd doc a vs ns G Y ho hd hcd hmg hobj hints hlen hg=>by
  obtain⟨K,KX,⟨E,D,E2,D2⟩,hc,hI,hU,hN,TX⟩:=Y;obtain⟨bm,ob,b1,b2,b3,b4,b5,b6⟩:=G.T.bmain
  have hblt:K.lookup bm=some ob:=by
   have hb:=hc;unfold codesOk at hb;rw[Bool.and_eq_true] at hb;have hb:=hb.2;unfold Wk2 at hb
   split at hb
   ·rename_i b e
    have e1:=(mg_of KX G.T.g e).symm.trans b1;cases e1;obtain⟨o',e2⟩:=Option.isSome_iff_exists.mp hb;have e3:=KX _ _ e2;rw[b3] at e3;cases e3;exact e2
   ·cases hb
  have nT:∀ T∈tabs p TA K,bm≠T:=fun T hT z=>by
   have:=TX T hT;rw[← z,b3] at this;cases this;cases b4
  have nM:bm≠mainGlobals:=fun z=>by
   obtain⟨o',es,ep,e,d',_⟩:=G.T.g;rw[← z,b3] at e;cases e;rw[b6] at d';cases d'
  have fact:∀ T∈tabs p TA K,K.lookup T=none∧isCodeTable s₁.heap T:=fun T hT=>by
   obtain⟨i,hi,rfl⟩:=List.mem_map.mp hT;obtain⟨_,_,_,_,_,_,h1,h2⟩:=Xj4 (e_fn E (hTA i hi)) (t_code hc hi);exact⟨h1,h2 _ KX⟩
  obtain⟨fd,hb,hF⟩:=F w mg fa _ K bm KX G.T.g hmg E D E2 D2 hc hI hU hN ⟨b1,⟨ob,hblt,b4,b5,b6⟩,b2,nM⟩ nT;exact Xh0 KX G.T.g G.T.b G.T.builtins G.T.nolimit hg hobj hints (Nat.le_trans hlen hn2) hr TX (fun T hT=>(fact T hT).1) (fun T hT=>(fact T hT).2) hF hb
   (fun H hO hS=>hsp K _ H a ns hlen (by simp[tabs]) hO hS) fun H e s'=>hCX H s₁ e s'
theorem obs9_self:@obs9=@obs9:=rfl
theorem val9_self:@val9=@val9:=rfl
end Hd
name_quick hdObs9 for Hd.obs9 by Hd.obs9_self
name_quick hdVal9 for Hd.val9 by Hd.val9_self
namespace Ken
open PySem L2
noncomputable def Te.st:Te→Option Te
 | .at k=>none
 | .one u a ss=>if (Te.one u a ss).turns then some (Te.one u a ss).itself else (a.st).map fun a'=>.one u a' ss
 | .two u a b=>if (Te.two u a b).turns then some (Te.two u a b).itself else match a.st with
  | some a'=>some (.two u a' b)
  | none=>(b.st).map fun b'=>.two u a b'
 | .fn s a=>(a.st).map fun a'=>.fn s a'
 | .cs a b c=>if (Te.cs a b c).turns then some (Te.cs a b c).itself else match a.st with
  | some a'=>some (.cs a' b c)
  | none=>match b.st with
   | some b'=>some (.cs a b' c)
   | none=>(c.st).map fun c'=>.cs a b c'
theorem Ze5:∀ (t:Te) (π:List Nat),(t.paths π=[]∧t.st=none)∨∃ ρ r,t.paths π=(π++ρ) :: r∧t.st=some (t.tat ρ)
 | .at k,π=>.inl ⟨rfl,rfl⟩
 | .one u a ss,π=>by
  have ep:(Te.one u a ss).paths π=(if (Te.one u a ss).turns then [π] else [])++a.paths (π++[1]):=rfl
  have es:(Te.one u a ss).st=if (Te.one u a ss).turns then some (Te.one u a ss).itself else (a.st).map fun a'=>.one u a' ss:=rfl
  rw[ep,es]
  by_cases c:(Te.one u a ss).turns=true
  ·rw[if_pos c,if_pos c]
   exact .inr ⟨[],_,by rw[List.append_nil];rfl,rfl⟩
  ·rw[if_neg c,if_neg c]
   rcases Ze5 a (π++[1]) with ⟨h1,h2⟩ | ⟨ρ,r,h1,h2⟩
   ·exact .inl ⟨h1,by rw[h2];rfl⟩
   ·exact .inr ⟨1 :: ρ,r,by rw[h1,List.append_assoc];rfl,by rw[h2];rfl⟩
 | .two u a b,π=>by
  have ep:(Te.two u a b).paths π=(if (Te.two u a b).turns then [π] else [])++(a.paths (π++[1])++b.paths (π++[2])):=rfl;rw[ep];unfold Te.st
  by_cases c:(Te.two u a b).turns=true
  ·rw[if_pos c,if_pos c]
   exact .inr ⟨[],_,by rw[List.append_nil];rfl,rfl⟩
  ·rw[if_neg c,if_neg c]
   rcases Ze5 a (π++[1]) with ⟨h1,h2⟩ | ⟨ρ,r,h1,h2⟩
   ·rw[h1,h2]
    rcases Ze5 b (π++[2]) with ⟨g1,g2⟩ | ⟨ρ,r,g1,g2⟩
    ·exact .inl ⟨g1,by rw[g2];rfl⟩
    ·exact .inr ⟨2 :: ρ,r,by rw[g1,List.append_assoc];rfl,by rw[g2];rfl⟩
   ·exact .inr ⟨1 :: ρ,r++b.paths (π++[2]),by rw[h1,List.append_assoc];rfl,by rw[h2];rfl⟩
 | .fn s a,π=>by
  have ep:(Te.fn s a).paths π=(if (Te.fn s a).turns then [π] else [])++a.paths (π++[2]):=rfl;rw[ep,if_neg (by show ¬ false=true;decide)];show _∨∃ ρ r,_∧(a.st).map _=_;rcases Ze5 a (π++[2]) with ⟨h1,h2⟩ | ⟨ρ,r,h1,h2⟩
  ·exact .inl ⟨h1,by show (a.st).map _=none;rw[h2];rfl⟩
  ·exact .inr ⟨2 :: ρ,r,by rw[h1,List.append_assoc];rfl,by rw[h2];rfl⟩
 | .cs a b d,π=>by
  have ep:(Te.cs a b d).paths π=(if (Te.cs a b d).turns then [π] else [])++(a.paths (π++[1])++(b.paths (π++[2])++d.paths (π++[3]))):=rfl;rw[ep];unfold Te.st
  by_cases c:(Te.cs a b d).turns=true
  ·rw[if_pos c,if_pos c]
   exact .inr ⟨[],_,by rw[List.append_nil];rfl,rfl⟩
  ·rw[if_neg c,if_neg c]
   rcases Ze5 a (π++[1]) with ⟨h1,h2⟩ | ⟨ρ,r,h1,h2⟩
   ·rw[h1,h2]
    rcases Ze5 b (π++[2]) with ⟨g1,g2⟩ | ⟨ρ,r,g1,g2⟩
    ·rw[g1,g2]
     rcases Ze5 d (π++[3]) with ⟨f1,f2⟩ | ⟨ρ,r,f1,f2⟩
     ·exact .inl ⟨f1,by rw[f2];rfl⟩
     ·exact .inr ⟨3 :: ρ,r,by rw[f1,List.append_assoc];rfl,by rw[f2];rfl⟩
    ·exact .inr ⟨2 :: ρ,r++d.paths (π++[3]),by rw[g1,List.append_assoc];rfl,by rw[g2];rfl⟩
   ·exact .inr ⟨1 :: ρ,r++(b.paths (π++[2])++d.paths (π++[3])),by rw[h1,List.append_assoc];rfl,by rw[h2];rfl⟩
theorem Ys9 (t:Te):(idxT 0 (t.pre 0)=[]∧t.st=none)∨∃ m r t',idxT 0 (t.pre 0)=m :: r∧t.tpm m 0=t'∧t.st=some t':=by
 have co:=Ze9 (t:=t) (f:=0) (n:=0) (π:=[]);rcases Ze5 t [] with ⟨h1,h2⟩ | ⟨ρ,r,h1,h2⟩
 ·rw[h1] at co
  generalize idxT 0 (t.pre 0)=l at co ⊢;cases co;exact .inl ⟨rfl,h2⟩
 ·rw[h1] at co
  generalize idxT 0 (t.pre 0)=l at co ⊢
  cases co with
  | cons a b =>
   obtain⟨ρ',e,z,_⟩:=a;have e:ρ=ρ':=e;subst e;exact .inr ⟨_,_,_,rfl,z,h2⟩
inductive Runs:Nat→Te→Option Te→Prop
 | rest {n:Nat} {t:Te}:t.st=none→Runs n t (some t)
 | more {n:Nat} {t t':Te} {r:Option Te}:t.st=some t'→t'.size≤1000→t'.deep≤120→t'.bnd≤60→Runs n t' r→Runs (n+1) t r
 | large {n:Nat} {t t':Te}:t.st=some t'→¬ (t'.size≤1000∧t'.deep≤120)→t'.size≤20000→Runs (n+1) t none
 | tired {t t':Te}:t.st=some t'→Runs 0 t none
noncomputable def tw (s:Tm):Te:=.fn s (.two .use (.at 1) (.two .use (.at 1) (.at 0)))
noncomputable def dbT (s:Tm) (n:Nat) (t:Te):Te:=Nat.rec t (fun _ t=>.two .use (.fn (.nd .thn s s) (tw s)) t) n
noncomputable def uses (n:Nat):Te:=Nat.rec (.at 0) (fun _ t=>.two .use (.at 1) t) n
noncomputable def rst (s:Tm) (n:Nat):Te:=if n=0 then .at 0 else .fn s (uses (2 ^ n))
theorem Zq8 {q:Tm→Prop} {g:Nat→Nat→Te} (hg:∀ k f,(g k f).all q):∀ {t:Te} {f:Nat},t.all q→(t.mp g f).all q
 | .at k,f,_=>hg k f
 | .one u a ss,f,h=>⟨Zq8 hg h.1,h.2⟩
 | .two u a b,f,h=>⟨Zq8 hg h.1,Zq8 hg h.2⟩
 | .fn s a,f,h=>⟨h.1,Zq8 hg h.2⟩
 | .cs a b c,f,h=>⟨Zq8 hg h.1,Zq8 hg h.2.1,Zq8 hg h.2.2⟩
theorem Yo7 {q:Tm→Prop} {o t:Te} (ho:o.all q) (h:t.all q):(t.mp (putF o) 0).all q:=Zq8 (fun k f=>by
 unfold putF
 split
 ·exact Zq8 (g:=Zb5 k) (fun k2 f2=>show True from trivial) ho
 ·trivial) h
theorem Yz0 {q:Tm→Prop} {t:Te} (ht:t.turns=true) (h:t.all q):t.itself.all q:=by
 rcases Zw1 ht with ⟨a,b,ss,rfl⟩ | ⟨a,b,ss,rfl⟩ | ⟨st,b,o,rfl⟩ | ⟨a,ss,b,c,rfl⟩ | ⟨a,ss,b,c,rfl⟩
 ·exact h.1.1
 ·exact h.1.2
 ·exact Yo7 h.2 h.1.2
 ·exact Yo7 h.1.1 h.2.1
 ·exact Yo7 h.1.1 h.2.2
theorem Zk5 {q:Tm→Prop}:∀ {ρ:List Nat} {t:Te},t.okp ρ→t.all q→(t.tat ρ).all q
 | [],t,ho,h=>by rw[Ym8];exact Yz0 (Zi7 ho) h
 | i :: ρ,t,ho,h=>by
  rcases Zg2 ho with ⟨u,a,ss,rfl,rfl,ho⟩ | ⟨u,a,b,rfl,rfl,ho⟩ | ⟨u,a,b,rfl,rfl,ho⟩ | ⟨s,a,rfl,rfl,ho⟩ | ⟨a,b,c,rfl,rfl,ho⟩ | ⟨a,b,c,rfl,rfl,ho⟩ | ⟨a,b,c,rfl,rfl,ho⟩
  ·exact⟨Zk5 ho h.1,h.2⟩
  ·exact⟨Zk5 ho h.1,h.2⟩
  ·exact⟨h.1,Zk5 ho h.2⟩
  ·exact⟨h.1,Zk5 ho h.2⟩
  ·exact⟨Zk5 ho h.1,h.2⟩
  ·exact⟨h.1,Zk5 ho h.2.1,h.2.2⟩
  ·exact⟨h.1,h.2.1,Zk5 ho h.2.2⟩
theorem Xd2 {t t':Te} (h:t.st=some t'):∃ m r,idxT 0 (t.pre 0)=m :: r∧t.tpm m 0=t'∧∀ q:Tm→Prop,t.all q→t'.all q:=by
 have co:=Ze9 (t:=t) (f:=0) (n:=0) (π:=[]);rcases Ze5 t [] with ⟨h1,h2⟩ | ⟨ρ,r,h1,h2⟩
 ·rw[h] at h2;cases h2
 ·rw[h] at h2
  rw[h1] at co;generalize idxT 0 (t.pre 0)=l at co ⊢
  cases co with
  | cons a b =>
   obtain⟨ρ',e,z,_,_,ok⟩:=a;have e:ρ=ρ':=e;subst e;have e2:=Option.some.inj h2;exact⟨_,_,rfl,z.trans e2.symm,fun q hq=>e2▸Zk5 ok hq⟩
theorem Yj5 {n:Nat} {t:Te} {r:Option Te} (h:t.st=none) (R:Runs n t r):r=some t:=by
 cases R with
 | rest _=>rfl
 | more e=>rw[h] at e;cases e
 | large e=>rw[h] at e;cases e
 | tired e=>rw[h] at e;cases e
theorem Xd8 {n:Nat} {t t':Te} {r:Option Te} (h:t.st=some t') (R:Runs (n+1) t r):t'.size≤20000∧(t'.size≤1000∧t'.deep≤120→t'.bnd≤60∧Runs n t' r)∧(¬ (t'.size≤1000∧t'.deep≤120)→r=none):=by
 cases R with
 | rest e=>rw[h] at e;cases e
 | more e a b c d=>rw[h] at e;cases e;exact⟨by walk_at "o",fun _=>⟨c,d⟩,fun z=>absurd ⟨a,b⟩ z⟩
 | large e a b=>rw[h] at e;cases e;exact⟨b,fun z=>absurd z a,fun _=>rfl⟩
theorem Xn8 {t t':Te} {r:Option Te} (h:t.st=some t') (R:Runs 0 t r):r=none:=by
 cases R with
 | rest e=>rw[h] at e;cases e
 | tired e=>rfl
def Zo0 (K:W.Frag):Sp:=fun vs H Q _=>∃ (v:V) (t:Te),vs=[v]∧IsE K H v t∧t.size≤20000∧∀ H',Same H H'→Q (.int ((idxT 0 (t.pre 0)).length:Nat)) H'
structure OkB (K:W.Frag) (H:Hp) (v:V) (t:Te):Prop where
 e:IsE K H v t
 s:t.size≤1000
 b:t.bnd≤60
 a:t.all Tm.ok
def Zs3 (K:W.Frag) (tb:TBs) (aL:Addr):Sp:=fun vs H Q E=>∃ (v:V) (t:Te) (r:Option Te),vs=[v]∧OkB K H v t∧Tabs H tb∧Runs 150 t r ∧
 (∀ (t':Te) (x:V) (H':Hp),r=some t'→SameV (tb.map (·.1)) H H'→Tabs H' tb→IsE K H' x t'→Q x H') ∧
 (r=none→∀ e H1 H',SameV (tb.map (·.1)) H H1→Tabs H1 tb→Xtd H1 e (.ref aL) none H'→E (.ref e) none H')
def Zx3 (K:W.Frag):Sp:=fun vs H Q _=>∃ (n:Nat) (sv bv:V) (s:Tm),vs=[.int (n:Nat),sv,bv]∧n≤10∧IsT K H sv s∧IsE K H bv (.at 0)∧∀ r H',Same H H'→IsE K H' r (dbT s n (.at 0))→Q r H'
def Yt4 (K:W.Frag):Sp:=fun vs H Q _=>∃ (n:Nat) (sv bv:V) (s:Tm),vs=[.int (n:Nat),sv,bv]∧n≤10∧IsT K H sv s∧IsE K H bv (.at 0)∧∀ r H',Same H H'→IsE K H' r (rst s n)→Q r H'
theorem Yh4 {ws:List Str}:∀ n,(uses n).fine ws
 | 0=>trivial
 | n+1=>⟨trivial,Yh4 n⟩
theorem Xn9 {ws:List Str} {s:Tm} (h:okW ws s) (n:Nat):(rst s n).fine ws:=by
 unfold rst
 split
 ·trivial
 ·exact⟨h,Yh4 _⟩
theorem Wl1 (j:Nat):(List.replicate ((j:Nat):Int).toNat [V.int 1]).flatten=List.replicate j (V.int 1):=by
 rw[Int.toNat_natCast]
 induction j with
 | zero=>rfl
 | succ j ih=>rw[List.replicate_succ,List.flatten_cons,ih,List.replicate_succ];rfl
theorem Zi3 {a b:Nat}:∀ {t:Te} {f g:Nat},f≤g→(t.mp (Zb5 a) g).mp (Zb5 b) f=(t.mp (Zb5 b) f).mp (Zb5 a) (g+b)
 | .at k,f,g,h=>by
  show Te.at _=Te.at _
  congr 1
  show (if f≤(if g≤k then k+a else k) then (if g≤k then k+a else k)+b else (if g≤k then k+a else k))=(if g+b≤(if f≤k then k+b else k) then (if f≤k then k+b else k)+a else (if f≤k then k+b else k))
  by_cases c1:g≤k
  ·rw[if_pos c1,if_pos (show f≤k+a by walk_at "o"),if_pos (show f≤k by walk_at "o"),if_pos (show g+b≤k+b by walk_at "o")];walk_at "o"
  ·rw[if_neg c1]
   by_cases c2:f≤k
   ·rw[if_pos c2,if_neg (show ¬ g+b≤k+b by walk_at "o")]
   ·rw[if_neg c2,if_neg (show ¬ g+b≤k by walk_at "o")]
 | .one u a' ss,f,g,h=>by show Te.one u _ ss=Te.one u _ ss;rw[Zi3 h]
 | .two u a' b',f,g,h=>by show Te.two u _ _=Te.two u _ _;rw[Zi3 h,Zi3 h]
 | .fn s a',f,g,h=>by show Te.fn s _=Te.fn s _;rw[Zi3 (show f+1≤g+1 by walk_at "o"),show g+1+b=g+b+1 by walk_at "o"]
 | .cs a' b' c',f,g,h=>by show Te.cs _ _ _=Te.cs _ _ _;rw[Zi3 h,Zi3 (show f+1≤g+1 by walk_at "o"),Zi3 (show f+1≤g+1 by walk_at "o"),show g+1+b=g+b+1 by walk_at "o"]
theorem Zi0 {b f:Nat} {o:Te}:∀ {t:Te} {d:Nat},(t.mp (putF o) d).mp (Zb5 b) (f+d)=(t.mp (Zb5 b) (f+d+1)).mp (putF (o.mp (Zb5 b) f)) d
 | .at k,d=>by
  show (putF o k d).mp (Zb5 b) (f+d)=putF (o.mp (Zb5 b) f) (if f+d+1≤k then k+b else k) d;unfold putF
  by_cases c:k=d
  ·subst c
   rw[if_pos rfl,if_neg (show ¬ f+k+1≤k by walk_at "o"),if_pos rfl];exact (Zi3 (Nat.zero_le f)).symm
  ·rw[if_neg c]
   show Te.at (if f+d≤(if d < k then k - 1 else k) then _ else _)=_
   by_cases c2:f+d+1≤k
   ·rw[if_pos c2,if_neg (show ¬ k+b=d by walk_at "o"),if_pos (show d < k by walk_at "o"),if_pos (show f+d≤k - 1 by walk_at "o"),if_pos (show d < k+b by walk_at "o"),show k - 1+b=k+b - 1 by walk_at "o"]
   ·rw[if_neg c2,if_neg c]
    by_cases c3:d < k
    ·rw[if_pos c3,if_neg (show ¬ f+d≤k - 1 by walk_at "o")]
    ·rw[if_neg c3,if_neg (show ¬ f+d≤k by walk_at "o")]
 | .one u a' ss,d=>by show Te.one u _ ss=Te.one u _ ss;rw[Zi0]
 | .two u a' b',d=>by show Te.two u _ _=Te.two u _ _;rw[Zi0,Zi0]
 | .fn s a',d=>by show Te.fn s _=Te.fn s _;rw[show f+d+1=f+(d+1) by walk_at "o",Zi0]
 | .cs a' b' c',d=>by show Te.cs _ _ _=Te.cs _ _ _;rw[Zi0,show f+d+1=f+(d+1) by walk_at "o",Zi0,Zi0]
theorem Zh2 {o:Te}:∀ {t:Te} {d:Nat},(t.mp (Zb5 1) d).mp (putF o) d=t
 | .at k,d=>by
  show putF o (if d≤k then k+1 else k) d=.at k;unfold putF
  by_cases c:d≤k
  ·rw[if_pos c,if_neg (show ¬ k+1=d by walk_at "o"),if_pos (show d < k+1 by walk_at "o"),Nat.add_sub_cancel]
  ·rw[if_neg c,if_neg (show ¬ k=d by walk_at "o"),if_neg (show ¬ d < k by walk_at "o")]
 | .one u a' ss,d=>by show Te.one u _ ss=Te.one u _ ss;rw[Zh2]
 | .two u a' b',d=>by show Te.two u _ _=Te.two u _ _;rw[Zh2,Zh2]
 | .fn s a',d=>by show Te.fn s _=Te.fn s _;rw[Zh2]
 | .cs a' b' c',d=>by show Te.cs _ _ _=Te.cs _ _ _;rw[Zh2,Zh2,Zh2]
theorem Yc1 {b f:Nat} (t:Te):(t.mp (Zb5 b) f).turns=t.turns:=by
 cases t with
 | «at» k=>rfl
 | one u a ss=>cases a with
  | «at» k=>cases u<;>rfl
  | one v _ _=>cases u<;>cases v<;>rfl
  | two v _ _=>cases u<;>cases v<;>rfl
  | fn _ _=>cases u<;>rfl
  | cs _ _ _=>cases u<;>rfl
 | two u a c=>cases a with
  | «at» k=>cases u<;>rfl
  | one v _ _=>cases u<;>cases v<;>rfl
  | two v _ _=>cases u<;>cases v<;>rfl
  | fn _ _=>cases u<;>rfl
  | cs _ _ _=>cases u<;>rfl
 | fn s a=>rfl
 | cs a c d=>cases a with
  | «at» k=>rfl
  | one v _ _=>cases v<;>rfl
  | two v _ _=>cases v<;>rfl
  | fn _ _=>rfl
  | cs _ _ _=>rfl
theorem Yp6 {b f:Nat} {t:Te} (ht:t.turns=true):(t.mp (Zb5 b) f).itself=t.itself.mp (Zb5 b) f:=by
 rcases Zw1 ht with ⟨a,c,ss,rfl⟩ | ⟨a,c,ss,rfl⟩ | ⟨st,c,o,rfl⟩ | ⟨a,ss,c,d,rfl⟩ | ⟨a,ss,c,d,rfl⟩
 ·rfl
 ·rfl
 ·exact (Zi0 (d:=0)).symm
 ·exact (Zi0 (d:=0)).symm
 ·exact (Zi0 (d:=0)).symm
theorem Zg3 {b:Nat}:∀ {ρ:List Nat} {t:Te} {f:Nat},t.okp ρ→(t.mp (Zb5 b) f).okp ρ∧(t.mp (Zb5 b) f).tat ρ=(t.tat ρ).mp (Zb5 b) f
 | [],t,f,ho=>by
  have h:=Zi7 ho;refine⟨?_,by rw[Ym8,Ym8];exact Yp6 h⟩;have h2:(t.mp (Zb5 b) f).turns=true:=(Yc1 t).trans h;generalize t.mp (Zb5 b) f=u at h2
  cases u<;>exact h2
 | i :: ρ,t,f,ho=>by
  rcases Zg2 ho with ⟨u,a,ss,rfl,rfl,hk⟩ | ⟨u,a,c,rfl,rfl,hk⟩ | ⟨u,a,c,rfl,rfl,hk⟩ | ⟨s,a,rfl,rfl,hk⟩ | ⟨a,c,d,rfl,rfl,hk⟩ | ⟨a,c,d,rfl,rfl,hk⟩ | ⟨a,c,d,rfl,rfl,hk⟩
  ·obtain⟨h1,h2⟩:=Zg3 (b:=b) (f:=f) hk
   exact⟨h1,by show Te.one u _ ss=Te.one u _ ss;rw[h2]⟩
  ·obtain⟨h1,h2⟩:=Zg3 (b:=b) (f:=f) hk
   exact⟨h1,by show Te.two u _ _=Te.two u _ _;rw[h2]⟩
  ·obtain⟨h1,h2⟩:=Zg3 (b:=b) (f:=f) hk
   exact⟨h1,by show Te.two u _ _=Te.two u _ _;rw[h2]⟩
  ·obtain⟨h1,h2⟩:=Zg3 (b:=b) (f:=f+1) hk
   exact⟨h1,by show Te.fn s _=Te.fn s _;rw[h2]⟩
  ·obtain⟨h1,h2⟩:=Zg3 (b:=b) (f:=f) hk
   exact⟨h1,by show Te.cs _ _ _=Te.cs _ _ _;rw[h2]⟩
  ·obtain⟨h1,h2⟩:=Zg3 (b:=b) (f:=f+1) hk
   exact⟨h1,by show Te.cs _ _ _=Te.cs _ _ _;rw[h2]⟩
  ·obtain⟨h1,h2⟩:=Zg3 (b:=b) (f:=f+1) hk
   exact⟨h1,by show Te.cs _ _ _=Te.cs _ _ _;rw[h2]⟩
theorem Zr0 {b:Nat} {ρ:List Nat}:∀ {t:Te} {f:Nat},(t.mp (Zb5 b) f).okp ρ→t.okp ρ:=by
 induction ρ with
 | nil =>
  intro t f ho;have h:=Zi7 ho;rw[Yc1] at h
  cases t<;>exact h
 | cons i ρ ih =>
  intro t f ho
  cases t with
  | «at» k=>rcases Zg2 ho with ⟨_,_,_,e,_⟩ | ⟨_,_,_,e,_⟩ | ⟨_,_,_,e,_⟩ | ⟨_,_,e,_⟩ | ⟨_,_,_,e,_⟩ | ⟨_,_,_,e,_⟩ | ⟨_,_,_,e,_⟩<;>cases e
  | one u a ss=>rcases Zg2 ho with ⟨_,_,_,e,rfl,h⟩ | ⟨_,_,_,e,_⟩ | ⟨_,_,_,e,_⟩ | ⟨_,_,e,_⟩ | ⟨_,_,_,e,_⟩ | ⟨_,_,_,e,_⟩ | ⟨_,_,_,e,_⟩<;>cases e;exact ih h
  | two u a c=>rcases Zg2 ho with ⟨_,_,_,e,_⟩ | ⟨_,_,_,e,rfl,h⟩ | ⟨_,_,_,e,rfl,h⟩ | ⟨_,_,e,_⟩ | ⟨_,_,_,e,_⟩ | ⟨_,_,_,e,_⟩ | ⟨_,_,_,e,_⟩<;>cases e<;>exact ih h
  | fn s a=>rcases Zg2 ho with ⟨_,_,_,e,_⟩ | ⟨_,_,_,e,_⟩ | ⟨_,_,_,e,_⟩ | ⟨_,_,e,rfl,h⟩ | ⟨_,_,_,e,_⟩ | ⟨_,_,_,e,_⟩ | ⟨_,_,_,e,_⟩<;>cases e;exact ih h
  | cs a c d=>rcases Zg2 ho with ⟨_,_,_,e,_⟩ | ⟨_,_,_,e,_⟩ | ⟨_,_,_,e,_⟩ | ⟨_,_,e,_⟩ | ⟨_,_,_,e,rfl,h⟩ | ⟨_,_,_,e,rfl,h⟩ | ⟨_,_,_,e,rfl,h⟩<;>cases e<;>exact ih h
theorem Ys5 {t:Te} (h:t.turns=true):t.st=some t.itself:=by
 cases t with
 | «at» k=>cases h
 | one u a ss=>exact if_pos h
 | two u a b=>exact if_pos h
 | fn s a=>cases h
 | cs a b c=>exact if_pos h
theorem Zl7 {ρ:List Nat}:∀ {t:Te},t.okp ρ→t.st≠none:=by
 induction ρ with
 | nil=>intro t h;rw[Ys5 (Zi7 h)];exact fun z=>nomatch z
 | cons i ρ ih =>
  intro t h;rcases Zg2 h with ⟨u,a,ss,rfl,rfl,hk⟩ | ⟨u,a,c,rfl,rfl,hk⟩ | ⟨u,a,c,rfl,rfl,hk⟩ | ⟨s,a,rfl,rfl,hk⟩ | ⟨a,c,d,rfl,rfl,hk⟩ | ⟨a,c,d,rfl,rfl,hk⟩ | ⟨a,c,d,rfl,rfl,hk⟩
  all_goals
   obtain⟨k,ek⟩:=Option.ne_none_iff_exists'.mp (ih hk);unfold Te.st
  ·split
   ·exact fun z=>nomatch z
   ·rw[ek];exact fun z=>nomatch z
  ·split
   ·exact fun z=>nomatch z
   ·rw[ek];exact fun z=>nomatch z
  ·split
   ·exact fun z=>nomatch z
   ·cases a.st with
    | some a'=>exact fun z=>nomatch z
    | none=>rw[ek];exact fun z=>nomatch z
  ·rw[ek];exact fun z=>nomatch z
  ·split
   ·exact fun z=>nomatch z
   ·rw[ek];exact fun z=>nomatch z
  ·split
   ·exact fun z=>nomatch z
   ·cases a.st with
    | some a'=>exact fun z=>nomatch z
    | none=>rw[ek];exact fun z=>nomatch z
  ·split
   ·exact fun z=>nomatch z
   ·cases a.st with
    | some a'=>exact fun z=>nomatch z
    | none =>
     cases c.st with
     | some c'=>exact fun z=>nomatch z
     | none=>rw[ek];exact fun z=>nomatch z
def Goes (r:Te) (S D:Nat):Nat→Te→Prop
 | 0,t=>t.size≤S∧t.deep≤D∧t.st=none∧t=r
 | n+1,t=>t.size≤S∧t.deep≤D∧(t.st=none→t=r)∧∀ ρ,t.okp ρ→Goes r S D n (t.tat ρ)
theorem Goes.s {r:Te} {S D n:Nat} {t:Te} (h:Goes r S D n t):t.size≤S:=by cases n<;>exact h.1
theorem Goes.d {r:Te} {S D n:Nat} {t:Te} (h:Goes r S D n t):t.deep≤D:=by cases n<;>exact h.2.1
theorem Goes.r {r:Te} {S D n:Nat} {t:Te} (h:Goes r S D n t) (e:t.st=none):t=r:=by
 cases n with
 | zero=>exact h.2.2.2
 | succ n=>exact h.2.2.1 e
theorem Goes.mono {r:Te} {S D S' D':Nat} (hS:S≤S') (hD:D≤D'):∀ {n n':Nat} {t:Te},n≤n'→Goes r S D n t→Goes r S' D' n' t
 | 0,0,t,_,h=>⟨Nat.le_trans h.1 hS,Nat.le_trans h.2.1 hD,h.2.2⟩
 | 0,n'+1,t,_,h=>⟨Nat.le_trans h.1 hS,Nat.le_trans h.2.1 hD,fun _=>h.2.2.2,fun ρ o=>absurd h.2.2.1 (Zl7 o)⟩
 | n+1,0,t,l,_=>absurd l (Nat.not_succ_le_zero n)
 | n+1,n'+1,t,l,h=>⟨Nat.le_trans h.1 hS,Nat.le_trans h.2.1 hD,h.2.2.1,fun ρ o=>(h.2.2.2 ρ o).mono hS hD (Nat.le_of_succ_le_succ l)⟩
theorem Goes.step {r:Te} {S D n:Nat} {t:Te} {ρ:List Nat} (h:Goes r S D n t) (o:t.okp ρ):∃ m,n=m+1∧Goes r S D m (t.tat ρ):=by
 cases n with
 | zero=>exact absurd h.2.2.1 (Zl7 o)
 | succ m=>exact⟨m,rfl,h.2.2.2 ρ o⟩
theorem Zz6 {k S D:Nat} (hS:1≤S) (hD:1≤D):Goes (.at k) S D 0 (.at k):=⟨hS,hD,rfl,rfl⟩
theorem Goes.lift {r:Te} {S D b f:Nat}:∀ {n:Nat} {t:Te},Goes r S D n t→Goes (r.mp (Zb5 b) f) S D n (t.mp (Zb5 b) f):=by
 have sz:∀ {t:Te} {f:Nat},(t.mp (Zb5 b) f).size=t.size:=fun {t f}=>by
  induction t generalizing f with
  | «at» k=>rfl
  | one u a ss ih=>show 1+_=1+_;rw[ih]
  | two u a c ia ic=>show 1+_+_=1+_+_;rw[ia,ic]
  | fn s a ih=>show 1+_=1+_;rw[ih]
  | cs a c d ia ic id=>show 1+_+_+_=1+_+_+_;rw[ia,ic,id]
 have dp:∀ {t:Te} {f:Nat},(t.mp (Zb5 b) f).deep=t.deep:=fun {t f}=>by
  induction t generalizing f with
  | «at» k=>rfl
  | one u a ss ih=>show 1+_=1+_;rw[ih]
  | two u a c ia ic=>show 1+max _ _=1+max _ _;rw[ia,ic]
  | fn s a ih=>show 1+_=1+_;rw[ih]
  | cs a c d ia ic id=>show 1+max _ (max _ _)=1+max _ (max _ _);rw[ia,ic,id]
 have ns:∀ {t:Te},(t.mp (Zb5 b) f).st=none→t.st=none:=fun {t} h=>by
  rcases Ze5 t [] with ⟨_,e⟩ | ⟨ρ,_,_,e⟩
  ·exact e
  ·have co:=Ze9 (t:=t) (f:=0) (n:=0) (π:=[])
   obtain⟨ρ,o⟩:∃ ρ,t.okp ρ:=by
    rcases Ze5 t [] with ⟨_,e2⟩ | ⟨ρ',r',e1,_⟩
    ·rw[e2] at e;cases e
    ·rw[e1] at co
     generalize idxT 0 (t.pre 0)=l at co
     cases co with
     | cons a _=>obtain⟨ρ2,_,_,_,_,o⟩:=a;exact⟨ρ2,o⟩
   exact absurd h (Zl7 (Zg3 (b:=b) (f:=f) o).1)
 intro n
 induction n with
 | zero=>exact fun {t} h=>⟨by rw[sz];exact h.1,by rw[dp];exact h.2.1,by
   cases e:(t.mp (Zb5 b) f).st with
   | none=>rfl
   | some u =>
    rcases Ze5 (t.mp (Zb5 b) f) [] with ⟨_,e2⟩ | ⟨ρ',r',e1,_⟩
    ·rw[e2] at e;cases e
    ·have co:=Ze9 (t:=t.mp (Zb5 b) f) (f:=0) (n:=0) (π:=[])
     rw[e1] at co;generalize idxT 0 ((t.mp (Zb5 b) f).pre 0)=l at co
     cases co with
     | cons a _=>obtain⟨ρ2,_,_,_,_,o⟩:=a;exact absurd h.2.2.1 (Zl7 (Zr0 o)),by rw[h.2.2.2]⟩
 | succ n ih=>exact fun {t} h=>⟨by rw[sz];exact h.1,by rw[dp];exact h.2.1,fun e=>by rw[h.2.2.1 (ns e)],fun ρ o=>by
   have o2:=Zr0 o;rw[(Zg3 o2).2]
   exact ih (h.2.2.2 ρ o2)⟩
theorem Zh8 {k:Nat} {ρ:List Nat}:¬ (Te.at k).okp ρ:=fun h=>absurd rfl (Zl7 h)
theorem Zl0 {u:U5} {a:Te} {ss:List Tm} {i:Nat} {ρ:List Nat} (h:(Te.one u a ss).okp (i :: ρ)):i=1∧a.okp ρ:=by
 rcases Zg2 h with ⟨_,_,_,e,e1,hk⟩ | ⟨_,_,_,e,_⟩ | ⟨_,_,_,e,_⟩ | ⟨_,_,e,_⟩ | ⟨_,_,_,e,_⟩ | ⟨_,_,_,e,_⟩ | ⟨_,_,_,e,_⟩<;>cases e
 exact⟨e1,hk⟩
theorem Zf8 {u:U2} {a b:Te} {i:Nat} {ρ:List Nat} (h:(Te.two u a b).okp (i :: ρ)):(i=1∧a.okp ρ)∨(i=2∧b.okp ρ):=by
 rcases Zg2 h with ⟨_,_,_,e,_⟩ | ⟨_,_,_,e,e1,hk⟩ | ⟨_,_,_,e,e1,hk⟩ | ⟨_,_,e,_⟩ | ⟨_,_,_,e,_⟩ | ⟨_,_,_,e,_⟩ | ⟨_,_,_,e,_⟩<;>cases e
 ·exact .inl ⟨e1,hk⟩
 ·exact .inr ⟨e1,hk⟩
theorem Zm4 {s:Tm} {a:Te} {i:Nat} {ρ:List Nat} (h:(Te.fn s a).okp (i :: ρ)):i=2∧a.okp ρ:=by
 rcases Zg2 h with ⟨_,_,_,e,_⟩ | ⟨_,_,_,e,_⟩ | ⟨_,_,_,e,_⟩ | ⟨_,_,e,e1,hk⟩ | ⟨_,_,_,e,_⟩ | ⟨_,_,_,e,_⟩ | ⟨_,_,_,e,_⟩<;>cases e
 exact⟨e1,hk⟩
theorem Xf8 {a b c:Te} {i:Nat} {ρ:List Nat} (h:(Te.cs a b c).okp (i :: ρ)):(i=1∧a.okp ρ)∨(i=2∧b.okp ρ)∨(i=3∧c.okp ρ):=by
 rcases Zg2 h with ⟨_,_,_,e,_⟩ | ⟨_,_,_,e,_⟩ | ⟨_,_,_,e,_⟩ | ⟨_,_,e,_⟩ | ⟨_,_,_,e,e1,hk⟩ | ⟨_,_,_,e,e1,hk⟩ | ⟨_,_,_,e,e1,hk⟩<;>cases e
 ·exact .inl ⟨e1,hk⟩
 ·exact .inr (.inl ⟨e1,hk⟩)
 ·exact .inr (.inr ⟨e1,hk⟩)
theorem Zg6 {r t:Te} {S D n:Nat} (s:t.size≤S) (d:t.deep≤D) (e:t.st=none→t=r) (h:∀ ρ,t.okp ρ→Goes r S D n (t.tat ρ)):Goes r S D (n+1) t:=⟨s,d,e,h⟩
theorem Zh1 {t:Te} {P:Prop} (h:t.turns=true) (e:t.st=none):P:=by rw[Ys5 h] at e;cases e
theorem Zq4 {a b:Te}:¬ (Te.two .pair a b).okp []:=fun h=>absurd (show false=true from Zi7 h) (by decide)
theorem Zm8 {s:Tm} {a:Te}:¬ (Te.fn s a).okp []:=fun h=>absurd (show false=true from Zi7 h) (by decide)
section
variable {r c:Te} {S D S2 D2 S' D':Nat}
theorem Zz5 (hS:S+S2+2≤S') (hD:max D D2+2≤D'):∀ (N:Nat) {n m:Nat} {t o:Te},n+m=N→Goes r S D n t→Goes c S2 D2 m o→Goes r S' D' (N+1) (.one .left (.two .pair t o) []):=by
 intro N
 induction N using Nat.strongRecOn with
 | ind N ih =>
  intro n m t o e h g;refine Zg6 (by show 1+(1+t.size+o.size)≤S';have:=h.s;have:=g.s;walk_at "o") (by show 1+(1+max t.deep o.deep)≤D';have:=h.d;have:=g.d;walk_at "o") (Zh1 rfl) fun ρ ok=>?_
  match ρ,ok with
  | [],_=>exact h.mono (by walk_at "o") (by walk_at "o") (by walk_at "o")
  | [i],ok=>exact absurd (Zl0 ok).2 Zq4
  | i :: j :: ρ,ok =>
   obtain⟨rfl,ok⟩:=Zl0 ok;rcases Zf8 ok with ⟨rfl,k⟩ | ⟨rfl,k⟩
   ·obtain⟨n',rfl,h'⟩:=h.step k
    exact (ih (n'+m) (by walk_at "o") rfl h' g).mono (Nat.le_refl _) (Nat.le_refl _) (by walk_at "o")
   ·obtain⟨m',rfl,g'⟩:=g.step k
    exact (ih (n+m') (by walk_at "o") rfl h g').mono (Nat.le_refl _) (Nat.le_refl _) (by walk_at "o")
theorem Yz4 (hS:S+S2+2≤S') (hD:max D D2+2≤D'):∀ (N:Nat) {n m:Nat} {t o:Te},n+m=N→Goes r S D n t→Goes c S2 D2 m o→Goes r S' D' (N+1) (.one .right (.two .pair o t) []):=by
 intro N
 induction N using Nat.strongRecOn with
 | ind N ih =>
  intro n m t o e h g;refine Zg6 (by show 1+(1+o.size+t.size)≤S';have:=h.s;have:=g.s;walk_at "o") (by show 1+(1+max o.deep t.deep)≤D';have:=h.d;have:=g.d;walk_at "o") (Zh1 rfl) fun ρ ok=>?_
  match ρ,ok with
  | [],_=>exact h.mono (by walk_at "o") (by walk_at "o") (by walk_at "o")
  | [i],ok=>exact absurd (Zl0 ok).2 Zq4
  | i :: j :: ρ,ok =>
   obtain⟨rfl,ok⟩:=Zl0 ok;rcases Zf8 ok with ⟨rfl,k⟩ | ⟨rfl,k⟩
   ·obtain⟨m',rfl,g'⟩:=g.step k
    exact (ih (n+m') (by walk_at "o") rfl h g').mono (Nat.le_refl _) (Nat.le_refl _) (by walk_at "o")
   ·obtain⟨n',rfl,h'⟩:=h.step k
    exact (ih (n'+m) (by walk_at "o") rfl h' g).mono (Nat.le_refl _) (Nat.le_refl _) (by walk_at "o")
theorem Yk7 (hS:S+S2+1≤S') (hD:max D D2+1≤D'):∀ (N:Nat) {n m:Nat} {t o:Te},n+m=N→Goes r S D n t→Goes c S2 D2 m o→Goes (.two .pair r c) S' D' N (.two .pair t o):=by
 intro N
 induction N using Nat.strongRecOn with
 | ind N ih =>
  intro n m t o e h g
  have s:(Te.two .pair t o).size≤S':=by show 1+t.size+o.size≤S';have:=h.s;have:=g.s;walk_at "o"
  have d:(Te.two .pair t o).deep≤D':=by show 1+max t.deep o.deep≤D';have:=h.d;have:=g.d;walk_at "o"
  have rr:(Te.two .pair t o).st=none→Te.two .pair t o=.two .pair r c:=fun z=>by
   unfold Te.st at z;rw[if_neg (show ¬ (Te.two .pair t o).turns=true from by show ¬ false=true;decide)] at z
   cases ht:t.st with
   | some t'=>rw[ht] at z;cases z
   | none =>
    rw[ht] at z
    cases ho:o.st with
    | some o'=>rw[ho] at z;cases z
    | none=>rw[h.r ht,g.r ho]
  have go:∀ ρ,(Te.two .pair t o).okp ρ→∃ M,N=M+1∧Goes (.two .pair r c) S' D' M ((Te.two .pair t o).tat ρ):=fun ρ ok=>by
   match ρ,ok with
   | [],ok=>exact absurd ok Zq4
   | i :: ρ,ok =>
    rcases Zf8 ok with ⟨rfl,k⟩ | ⟨rfl,k⟩
    ·obtain⟨n',rfl,h'⟩:=h.step k
     exact⟨n'+m,by walk_at "o",ih (n'+m) (by walk_at "o") rfl h' g⟩
    ·obtain⟨m',rfl,g'⟩:=g.step k
     exact⟨n+m',by walk_at "o",ih (n+m') (by walk_at "o") rfl h g'⟩
  cases N with
  | zero =>
   have z:(Te.two .pair t o).st=none:=by
    cases e0:(Te.two .pair t o).st with
    | none=>rfl
    | some u =>
     rcases Ze5 (Te.two .pair t o) [] with ⟨_,e2⟩ | ⟨ρ',r',e1,_⟩
     ·rw[e2] at e0;cases e0
     ·have co:=Ze9 (t:=Te.two .pair t o) (f:=0) (n:=0) (π:=[])
      rw[e1] at co;generalize idxT 0 ((Te.two .pair t o).pre 0)=l at co
      cases co with
      | cons a _ =>
       obtain⟨ρ2,_,_,_,_,ok⟩:=a;obtain⟨M,z,_⟩:=go ρ2 ok;exact absurd z (by walk_at "o")
   exact⟨s,d,z,rr z⟩
  | succ N =>
   refine Zg6 s d rr fun ρ ok=>?_;obtain⟨M,e1,g1⟩:=go ρ ok;cases e1;exact g1
theorem Wm7 {s:Tm} {t:Te} (z:(Te.fn s t).st=none):t.st=none:=by
 cases h:t.st with
 | none=>rfl
 | some a=>unfold Te.st at z;rw[h] at z;cases z
theorem Xi9 {s:Tm} (hS:S+1≤S') (hD:D+1≤D'):∀ {n:Nat} {t:Te},Goes r S D n t→Goes (.fn s r) S' D' n (.fn s t)
 | 0,t,h=>⟨by show 1+t.size≤S';have:=h.s;walk_at "o",by show 1+t.deep≤D';have:=h.d;walk_at "o",by show (t.st).map _=none;rw[h.2.2.1];rfl,by rw[h.2.2.2]⟩
 | n+1,t,h=>Zg6 (by show 1+t.size≤S';have:=h.s;walk_at "o") (by show 1+t.deep≤D';have:=h.d;walk_at "o") (fun z=>by rw[h.r (Wm7 z)]) fun ρ ok=>by
   match ρ,ok with
   | [],ok=>exact absurd ok Zm8
   | i :: ρ,ok =>
    obtain⟨rfl,k⟩:=Zm4 ok;exact Xi9 hS hD (h.2.2.2 ρ k)
theorem Zr4 {s:Tm} (hS:S+3≤S') (hD:D+3≤D'):∀ {n:Nat} {t:Te},Goes r S D n t→Goes r S' D' (n+1) (.two .use (.fn s (.at 0)) t):=by
 intro n
 induction n with
 | zero =>
  intro t h;refine Zg6 (by show 1+(1+1)+t.size≤S';have:=h.s;walk_at "o") (by show 1+max (1+1) t.deep≤D';have:=h.d;walk_at "o") (Zh1 rfl) fun ρ ok=>?_
  match ρ,ok with
  | [],_ =>
   show Goes r S' D' 0 (t.mp (Zb5 0) 0);rw[Zz2];exact h.mono (by walk_at "o") (by walk_at "o") (by walk_at "o")
  | i :: ρ,ok =>
   rcases Zf8 ok with ⟨rfl,k⟩ | ⟨rfl,k⟩
   ·match ρ,k with
    | [],k=>exact absurd k Zm8
    | j :: ρ,k=>exact absurd (Zm4 k).2 Zh8
   ·obtain⟨_,z,_⟩:=h.step k;cases z
 | succ n ih =>
  intro t h;refine Zg6 (by show 1+(1+1)+t.size≤S';have:=h.s;walk_at "o") (by show 1+max (1+1) t.deep≤D';have:=h.d;walk_at "o") (Zh1 rfl) fun ρ ok=>?_
  match ρ,ok with
  | [],_ =>
   show Goes r S' D' (n+1) (t.mp (Zb5 0) 0);rw[Zz2];exact h.mono (by walk_at "o") (by walk_at "o") (by walk_at "o")
  | i :: ρ,ok =>
   rcases Zf8 ok with ⟨rfl,k⟩ | ⟨rfl,k⟩
   ·match ρ,k with
    | [],k=>exact absurd k Zm8
    | j :: ρ,k=>exact absurd (Zm4 k).2 Zh8
   ·obtain⟨_,e,h'⟩:=h.step k
    cases e;exact ih h'
end
theorem Zm2 {o:Te}:putF o 0 0=o:=by show (if 0=0 then o.mp (Zb5 0) 0 else _)=o;rw[if_pos rfl,Zz2]
theorem Te.deep_one:∀ t:Te,1≤t.deep
 | .at _=>Nat.le_refl _
 | .one _ _ _ | .two _ _ _ | .fn _ _ | .cs _ _ _=>Nat.le_add_right _ _
section
variable {r c:Te} {S D S2 D2 S' D':Nat}
theorem Yc3 {s:Tm} (hS:S+S2+2≤S') (hD:max D D2+2≤D'):∀ (N:Nat) {n m:Nat} {t o:Te},n+m=N→Goes r S D n t→Goes c S2 D2 m o→Goes r S' D' (N+1) (.two .use (.fn s (t.mp (Zb5 1) 0)) o):=by
 intro N
 induction N using Nat.strongRecOn with
 | ind N ih =>
  intro n m t o e h g;refine Zg6 (by show 1+(1+(t.mp (Zb5 1) 0).size)+o.size≤S';rw[Zg0];have:=h.s;have:=g.s;walk_at "o") (by show 1+max (1+(t.mp (Zb5 1) 0).deep) o.deep≤D';rw[Zf5];have:=Te.deep_one t;have:=h.d;have:=g.d;walk_at "o") (Zh1 rfl) fun ρ ok=>?_
  match ρ,ok with
  | [],_ =>
   show Goes r S' D' N ((t.mp (Zb5 1) 0).mp (putF o) 0);rw[Zh2];exact h.mono (by walk_at "o") (by walk_at "o") (by walk_at "o")
  | i :: ρ,ok =>
   rcases Zf8 ok with ⟨rfl,k⟩ | ⟨rfl,k⟩
   ·match ρ,k with
    | [],k=>exact absurd k Zm8
    | j :: ρ,k =>
     obtain⟨rfl,k⟩:=Zm4 k;have k2:=Zr0 k;obtain⟨n',rfl,h'⟩:=h.step k2;show Goes r S' D' N (.two .use (.fn s ((t.mp (Zb5 1) 0).tat ρ)) o);rw[(Zg3 k2).2];exact (ih (n'+m) (by walk_at "o") rfl h' g).mono (Nat.le_refl _) (Nat.le_refl _) (by walk_at "o")
   ·obtain⟨m',rfl,g'⟩:=g.step k
    exact (ih (n+m') (by walk_at "o") rfl h g').mono (Nat.le_refl _) (Nat.le_refl _) (by walk_at "o")
theorem Yq8 {s:Tm} (hS:S+S2+5≤S') (hD:max D D2+4≤D'):∀ (N:Nat) {n m:Nat} {t o:Te},n+m=N→Goes r S D n t→Goes c S2 D2 m o→Goes r S' D' (N+2) (.two .use (.fn s (.one .left (.two .pair (t.mp (Zb5 1) 0) (.at 0)) [])) o):=by
 intro N
 induction N using Nat.strongRecOn with
 | ind N ih =>
  intro n m t o e h g;refine Zg6 (by show 1+(1+(1+(1+(t.mp (Zb5 1) 0).size+1)))+o.size≤S';rw[Zg0];have:=h.s;have:=g.s;walk_at "o") (by show 1+max (1+(1+(1+max (t.mp (Zb5 1) 0).deep 1))) o.deep≤D';rw[Zf5];have:=Te.deep_one t;have:=h.d;have:=g.d;walk_at "o") (Zh1 rfl) fun ρ ok=>?_
  match ρ,ok with
  | [],_ =>
   show Goes r S' D' (N+1) (.one .left (.two .pair ((t.mp (Zb5 1) 0).mp (putF o) 0) (putF o 0 0)) []);rw[Zh2,Zm2];exact (Zz5 (S':=S') (D':=D') (by walk_at "o") (by walk_at "o") N e h g)
  | i :: ρ,ok =>
   rcases Zf8 ok with ⟨rfl,k⟩ | ⟨rfl,k⟩
   ·match ρ,k with
    | [],k=>exact absurd k Zm8
    | j :: ρ,k =>
     obtain⟨rfl,k⟩:=Zm4 k
     match ρ,k with
     | [],_=>exact Yc3 (S':=S') (D':=D') (by walk_at "o") (by walk_at "o") N e h g
     | [i],k=>exact absurd (Zl0 k).2 Zq4
     | i :: j :: ρ,k =>
      obtain⟨rfl,k⟩:=Zl0 k;rcases Zf8 k with ⟨rfl,k⟩ | ⟨rfl,k⟩
      ·have k2:=Zr0 k
       obtain⟨n',rfl,h'⟩:=h.step k2;show Goes r S' D' (N+1) (.two .use (.fn s (.one .left (.two .pair ((t.mp (Zb5 1) 0).tat ρ) (.at 0)) [])) o);rw[(Zg3 k2).2];exact (ih (n'+m) (by walk_at "o") rfl h' g).mono (Nat.le_refl _) (Nat.le_refl _) (by walk_at "o")
      ·exact absurd k Zh8
   ·obtain⟨m',rfl,g'⟩:=g.step k
    exact (ih (n+m') (by walk_at "o") rfl h g').mono (Nat.le_refl _) (Nat.le_refl _) (by walk_at "o")
theorem Yz6 {s:List Tm} (hS:S+S2+3≤S') (hD:max D D2+3≤D'):∀ (N:Nat) {n m:Nat} {t o:Te},n+m=N→Goes r S D n t→Goes c S2 D2 m o→Goes r S' D' (N+1) (.cs (.one .first o s) (t.mp (Zb5 1) 0) (.at 0)):=by
 intro N
 induction N using Nat.strongRecOn with
 | ind N ih =>
  intro n m t o e h g;refine Zg6 (by show 1+(1+o.size)+(t.mp (Zb5 1) 0).size+1≤S';rw[Zg0];have:=h.s;have:=g.s;walk_at "o") (by show 1+max (1+o.deep) (max (t.mp (Zb5 1) 0).deep 1)≤D';rw[Zf5];have:=Te.deep_one t;have:=h.d;have:=g.d;walk_at "o") (Zh1 rfl) fun ρ ok=>?_
  match ρ,ok with
  | [],_ =>
   show Goes r S' D' N ((t.mp (Zb5 1) 0).mp (putF o) 0);rw[Zh2];exact h.mono (by walk_at "o") (by walk_at "o") (by walk_at "o")
  | i :: ρ,ok =>
   rcases Xf8 ok with ⟨rfl,k⟩ | ⟨rfl,k⟩ | ⟨rfl,k⟩
   ·match ρ,k with
    | [],k=>exact absurd (show false=true from Zi7 k) (by decide)
    | j :: ρ,k =>
     obtain⟨rfl,k⟩:=Zl0 k;obtain⟨m',rfl,g'⟩:=g.step k;exact (ih (n+m') (by walk_at "o") rfl h g').mono (Nat.le_refl _) (Nat.le_refl _) (by walk_at "o")
   ·have k2:=Zr0 k
    obtain⟨n',rfl,h'⟩:=h.step k2;show Goes r S' D' N (.cs (.one .first o s) ((t.mp (Zb5 1) 0).tat ρ) (.at 0));rw[(Zg3 k2).2];exact (ih (n'+m) (by walk_at "o") rfl h' g).mono (Nat.le_refl _) (Nat.le_refl _) (by walk_at "o")
   ·exact absurd k Zh8
theorem Yq7 {s:List Tm} {b:Te} (hb:b.st=none) (bs:b.size≤S2) (bd:b.deep≤D2) (hS:S+S2+3≤S') (hD:max D D2+3≤D'):∀ (n:Nat) {t:Te},Goes r S D n t→Goes r S' D' (n+1) (.cs (.one .second t s) b (.at 0)):=by
 intro n
 induction n with
 | zero =>
  intro t h;refine Zg6 (by show 1+(1+t.size)+b.size+1≤S';have:=h.s;walk_at "o") (by show 1+max (1+t.deep) (max b.deep 1)≤D';have:=h.d;walk_at "o") (Zh1 rfl) fun ρ ok=>?_
  match ρ,ok with
  | [],_ =>
   show Goes r S' D' 0 (putF t 0 0);rw[Zm2];exact h.mono (by walk_at "o") (by walk_at "o") (by walk_at "o")
  | i :: ρ,ok =>
   rcases Xf8 ok with ⟨rfl,k⟩ | ⟨rfl,k⟩ | ⟨rfl,k⟩
   ·match ρ,k with
    | [],k=>exact absurd (show false=true from Zi7 k) (by decide)
    | j :: ρ,k =>
     obtain⟨rfl,k⟩:=Zl0 k;obtain⟨_,z,_⟩:=h.step k;cases z
   ·exact absurd hb (Zl7 k)
   ·exact absurd k Zh8
 | succ n ih =>
  intro t h;refine Zg6 (by show 1+(1+t.size)+b.size+1≤S';have:=h.s;walk_at "o") (by show 1+max (1+t.deep) (max b.deep 1)≤D';have:=h.d;walk_at "o") (Zh1 rfl) fun ρ ok=>?_
  match ρ,ok with
  | [],_ =>
   show Goes r S' D' (n+1) (putF t 0 0);rw[Zm2];exact h.mono (by walk_at "o") (by walk_at "o") (by walk_at "o")
  | i :: ρ,ok =>
   rcases Xf8 ok with ⟨rfl,k⟩ | ⟨rfl,k⟩ | ⟨rfl,k⟩
   ·match ρ,k with
    | [],k=>exact absurd (show false=true from Zi7 k) (by decide)
    | j :: ρ,k =>
     obtain⟨rfl,k⟩:=Zl0 k;obtain⟨_,e,h'⟩:=h.step k;cases e;exact ih h'
   ·exact absurd hb (Zl7 k)
   ·exact absurd k Zh8
end
section
variable {r:Te} {S D S' D':Nat}
theorem Xi8 {s s2:Tm} (hS:S+6≤S') (hD:D+4≤D'):∀ (n:Nat) {t:Te},Goes r S D n t→Goes r S' D' (n+2) (.two .use (.two .use (.fn s (.at 0)) (.fn s2 (.at 0))) t):=by
  have key:∀ (n:Nat) {t:Te},Goes r S D n t→(∀ ρ,t.okp ρ→∃ m,n=m+1∧Goes r S' D' (m+2) (.two .use (.two .use (.fn s (.at 0)) (.fn s2 (.at 0))) (t.tat ρ)))→Goes r S' D' (n+2) (.two .use (.two .use (.fn s (.at 0)) (.fn s2 (.at 0))) t):=fun n {t} h hi=>by
    refine Zg6 (by show 1+(1+(1+1)+(1+1))+t.size≤S';have:=h.s;walk_at "o") (by show 1+max (1+max (1+1) (1+1)) t.deep≤D';have:=h.d;have:=Te.deep_one t;walk_at "o") (fun z=>?_) fun ρ ok=>?_
    · exact absurd z (Zl7 (t:=.two .use (.two .use (.fn s (.at 0)) (.fn s2 (.at 0))) t) (ρ:=[1]) rfl)
    match ρ,ok with
    | [],k=>exact absurd (show false=true from Zi7 k) (by decide)
    | i :: ρ,ok =>
      rcases Zf8 ok with ⟨rfl,k⟩ | ⟨rfl,k⟩
      · match ρ,k with
        | [],_ =>
          show Goes r S' D' (n+1) (.two .use (putF (.fn s2 (.at 0)) 0 0) t);rw[Zm2];exact Zr4 (by walk_at "o") (by walk_at "o") h
        | j :: ρ,k =>
          rcases Zf8 k with ⟨rfl,k⟩ | ⟨rfl,k⟩
          · match ρ,k with
            | [],k=>exact absurd k Zm8
            | _ :: ρ,k=>exact absurd (Zm4 k).2 Zh8
          · match ρ,k with
            | [],k=>exact absurd k Zm8
            | _ :: ρ,k=>exact absurd (Zm4 k).2 Zh8
      · obtain⟨m,rfl,g⟩:=hi ρ k
        exact g
  intro n
  induction n with
  | zero=>intro t h;exact key 0 h fun ρ k=>by obtain⟨_,z,_⟩:=h.step k;cases z
  | succ n ih=>intro t h;exact key (n+1) h fun ρ k=>by
                   obtain⟨_,e,h'⟩:=h.step k;cases e;exact⟨n,rfl,ih h'⟩
theorem Yz5 {s s2:Tm} (hS:S+6≤S') (hD:D+4≤D'):∀ (n:Nat) {t:Te},Goes r S D n t→Goes r S' D' (n+2) (.two .use (.fn s (.two .use (.fn s2 (.at 0)) (.at 0))) t):=by
  have key:∀ (n:Nat) {t:Te},Goes r S D n t→(∀ ρ,t.okp ρ→∃ m,n=m+1∧Goes r S' D' (m+2) (.two .use (.fn s (.two .use (.fn s2 (.at 0)) (.at 0))) (t.tat ρ)))→Goes r S' D' (n+2) (.two .use (.fn s (.two .use (.fn s2 (.at 0)) (.at 0))) t):=fun n {t} h hi=>by
    refine Zg6 (by show 1+(1+(1+(1+1)+1))+t.size≤S';have:=h.s;walk_at "o") (by show 1+max (1+(1+max (1+1) 1)) t.deep≤D';have:=h.d;have:=Te.deep_one t;walk_at "o") (Zh1 rfl) fun ρ ok=>?_
    match ρ,ok with
    | [],_ =>
      show Goes r S' D' (n+1) (.two .use (.fn s2 (putF t 0 1)) (putF t 0 0));rw[Zm2];exact Zr4 (by walk_at "o") (by walk_at "o") h
    | i :: ρ,ok =>
      rcases Zf8 ok with ⟨rfl,k⟩ | ⟨rfl,k⟩
      · match ρ,k with
        | [],k=>exact absurd k Zm8
        | j :: ρ,k =>
          obtain⟨rfl,k⟩:=Zm4 k
          match ρ,k with
          | [],_ =>
            show Goes r S' D' (n+1) (.two .use (.fn s (putF (.at 0) 0 0)) t);rw[Zm2];exact Zr4 (by walk_at "o") (by walk_at "o") h
          | j :: ρ,k =>
            rcases Zf8 k with ⟨rfl,k3⟩ | ⟨rfl,k3⟩
            · match ρ,k3 with
              | [],k3=>exact absurd k3 Zm8
              | _ :: ρ,k3=>exact absurd (Zm4 k3).2 Zh8
            · exact absurd k3 Zh8
      · obtain⟨m,rfl,g⟩:=hi ρ k
        exact g
  intro n
  induction n with
  | zero=>intro t h;exact key 0 h fun ρ k=>by obtain⟨_,z,_⟩:=h.step k;cases z
  | succ n ih=>intro t h;exact key (n+1) h fun ρ k=>by
                   obtain⟨_,e,h'⟩:=h.step k;cases e;exact⟨n,rfl,ih h'⟩
theorem Yz3 {s:Tm} (hS:S+S+4≤S') (hD:D+3≤D'):∀ (n:Nat) {t:Te},Goes r S D n t→Goes (.two .pair r r) S' D' (2*n+1) (.two .use (.fn s (.two .pair (.at 0) (.at 0))) t):=by
  have key:∀ (n:Nat) {t:Te},Goes r S D n t→(∀ ρ,t.okp ρ→∃ m,n=m+1∧Goes (.two .pair r r) S' D' (2*m+1) (.two .use (.fn s (.two .pair (.at 0) (.at 0))) (t.tat ρ)))→Goes (.two .pair r r) S' D' (2*n+1) (.two .use (.fn s (.two .pair (.at 0) (.at 0))) t):=fun n {t} h hi=>by
    refine Zg6 (by show 1+(1+(1+1+1))+t.size≤S';have:=h.s;have:=size_pos t;walk_at "o") (by show 1+max (1+(1+max 1 1)) t.deep≤D';have:=h.d;have:=Te.deep_one t;walk_at "o") (Zh1 rfl) fun ρ ok=>?_
    match ρ,ok with
    | [],_ =>
      show Goes (.two .pair r r) S' D' (2*n) (.two .pair (putF t 0 0) (putF t 0 0));rw[Zm2];exact Yk7 (by walk_at "o") (by walk_at "o") (2*n) (by walk_at "o") h h
    | i :: ρ,ok =>
      rcases Zf8 ok with ⟨rfl,k⟩ | ⟨rfl,k⟩
      · match ρ,k with
        | [],k=>exact absurd k Zm8
        | j :: ρ,k =>
          obtain⟨rfl,k⟩:=Zm4 k
          match ρ,k with
          | [],k=>exact absurd k Zq4
          | j :: ρ,k =>
            rcases Zf8 k with ⟨rfl,k⟩ | ⟨rfl,k⟩<;>exact absurd k Zh8
      · obtain⟨m,rfl,g⟩:=hi ρ k
        exact g.mono (Nat.le_refl _) (Nat.le_refl _) (by walk_at "o")
  intro n
  induction n with
  | zero=>intro t h;exact key 0 h fun ρ k=>by obtain⟨_,z,_⟩:=h.step k;cases z
  | succ n ih=>intro t h;exact key (n+1) h fun ρ k=>by
                   obtain⟨_,e,h'⟩:=h.step k;cases e;exact⟨n,rfl,ih h'⟩
end
inductive Dt where
 | base | dbl (a:Dt) | lam (c:Dt) | nil | app (a c:Dt)
noncomputable def Dt.n:Dt→Nat
 | .base=>1 | .dbl a=>2*a.n | .lam c=>c.n | .nil=>0 | .app a c=>a.n+c.n
noncomputable def Dt.ok:Bool→Dt→Bool
 | true,.base=>true
 | true,.dbl a=>a.ok true
 | true,.lam c=>c.ok false&&Nat.ble 1 c.n
 | false,.nil=>true
 | false,.app a c=>a.ok true&&c.ok false
 | _,_=>false
noncomputable def Dt.R (h g:Tm):Dt→Nat→Te
 | .base,d=>.at d
 | .dbl a,d=>.two .use (.fn h (.fn g (.two .use (.at 1) (.two .use (.at 1) (.at 0))))) (a.R h g d)
 | .lam c,d=>.fn g (c.R h g (d+1))
 | .nil,_=>.at 0
 | .app a c,d=>.two .use (a.R h g d) (c.R h g d)
noncomputable def Dt.join:Dt→Dt→Dt
 | .nil,x=>x
 | .app a c,x=>.app a (c.join x)
 | t,_=>t
noncomputable def Dt.m:Dt→Nat
 | .base=>0 | .dbl a=>2+2*a.m | .lam c=>1+c.m | .nil=>0 | .app a c=>a.m+c.m
noncomputable def Dt.w:Dt→Nat
 | .base=>1 | .dbl a=>8+2*a.w | .lam c=>1+c.w | .nil=>1 | .app a c=>1+a.w+c.w
noncomputable def Dt.v:Dt→Nat
 | .base=>0 | .dbl a=>4+a.v | .lam c=>2+c.v | .nil=>0 | .app a c=>max a.v c.v
variable {h g:Tm}
theorem Dt.lamk {c:Dt} (k:(Dt.lam c).ok true=true):c.ok false=true∧1≤c.n:=⟨((Bool.and_eq_true _ _).mp k).1,Nat.le_of_ble_eq_true ((Bool.and_eq_true _ _).mp k).2⟩
theorem Dt.lamm {c:Dt} (k:c.ok false=true) (l:1≤c.n):(Dt.lam c).ok true=true:=(Bool.and_eq_true _ _).mpr ⟨k,Nat.ble_eq_true_of_le l⟩
theorem Dt.n_pos:∀ {a:Dt},a.ok true=true→1≤a.n
 | .base,_=>Nat.le_refl _
 | .dbl a,k=>by have:1≤a.n:=Dt.n_pos (a:=a) k;show 1≤2*a.n;walk_at "o"
 | .lam c,k=>(Dt.lamk k).2
theorem Dt.lift:∀ {a:Dt} {s:Bool} {d f:Nat},a.ok s=true→f≤d→(s=false→1≤f)→(a.R h g d).mp (Zb5 1) f=a.R h g (d+1)
 | .base,_,d,f,_,l,_=>by show Te.at (if f≤d then d+1 else d)=.at (d+1);rw[if_pos l]
 | .dbl a,true,d,f,k,l,_=>by
   show Te.two .use (.fn h (.fn g (.two .use (.at (if f+1+1≤1 then 1+1 else 1)) (.two .use (.at (if f+1+1≤1 then 1+1 else 1)) (.at (if f+1+1≤0 then 0+1 else 0)))))) ((a.R h g d).mp (Zb5 1) f)=.two .use (.fn h (.fn g (.two .use (.at 1) (.two .use (.at 1) (.at 0))))) (a.R h g (d+1));rw[if_neg (by walk_at "o"),if_neg (by walk_at "o"),Dt.lift (a:=a) (s:=true) k l (fun z=>nomatch z)]
 | .lam c,true,d,f,k,l,_=>by
   show Te.fn g ((c.R h g (d+1)).mp (Zb5 1) (f+1))=.fn g (c.R h g (d+1+1));rw[Dt.lift (a:=c) (s:=false) (Dt.lamk k).1 (Nat.succ_le_succ l) (fun _=>Nat.le_add_left _ _)]
 | .nil,false,d,f,_,_,z=>by show Te.at (if f≤0 then 0+1 else 0)=.at 0;rw[if_neg (by have:=z rfl;walk_at "o")]
 | .app a c,false,d,f,k,l,z=>by
   have k:=(Bool.and_eq_true _ _).mp k;show Te.two .use ((a.R h g d).mp (Zb5 1) f) ((c.R h g d).mp (Zb5 1) f)=.two .use (a.R h g (d+1)) (c.R h g (d+1));rw[Dt.lift (a:=a) (s:=true) k.1 l (fun z=>nomatch z),Dt.lift (a:=c) (s:=false) k.2 l z]
theorem Dt.splice {x:Te} {y:Dt} {d:Nat} (e:x=y.R h g d):∀ {c:Dt},c.ok false=true→(c.R h g (d+1)).mp (putF x) 0=(c.join y).R h g d
 | .nil,_=>by show putF x 0 0=_;rw[Zm2];exact e
 | .app a c,k=>by
   have k:=(Bool.and_eq_true _ _).mp k;show Te.two .use ((a.R h g (d+1)).mp (putF x) 0) ((c.R h g (d+1)).mp (putF x) 0)=.two .use (a.R h g d) ((c.join y).R h g d);rw[← Dt.lift (a:=a) (s:=true) (f:=0) k.1 (Nat.zero_le _) (fun z=>nomatch z),Zh2,Dt.splice e k.2]
theorem Dt.join_ok {y:Dt} (hy:y.ok false=true):∀ {c:Dt},c.ok false=true→(c.join y).ok false=true∧(c.join y).m=c.m+y.m∧(c.join y).n=c.n+y.n∧(c.join y).w≤c.w+y.w∧(c.join y).v≤max c.v y.v
 | .nil,_=>⟨hy,(Nat.zero_add _).symm,(Nat.zero_add _).symm,Nat.le_add_left _ _,Nat.le_max_right _ _⟩
 | .app a c,k=>by
   have k:=(Bool.and_eq_true _ _).mp k;obtain⟨i1,i2,i3,i4,i6⟩:=Dt.join_ok hy k.2;exact⟨(Bool.and_eq_true _ _).mpr ⟨k.1,i1⟩,by show a.m+(c.join y).m=a.m+c.m+y.m;walk_at "o",by show a.n+(c.join y).n=a.n+c.n+y.n;walk_at "o",by show 1+a.w+(c.join y).w≤1+a.w+c.w+y.w;walk_at "o",by show max a.v (c.join y).v≤max (max a.v c.v) y.v;walk_at "o"⟩
theorem Dt.turn:∀ {a:Dt} {s:Bool} {d:Nat} {ρ:List Nat},a.ok s=true→(a.R h g d).okp ρ→∃ a':Dt,(a.R h g d).tat ρ=a'.R h g d∧a'.ok s=true∧a'.m+1≤a.m∧a'.n=a.n∧a'.w≤a.w∧a'.v≤a.v∧(s=true→a'≠.base)∧(∀ c,a=.lam c→∃ c',a'=.lam c')
 | .base,_,d,ρ,_,o=>absurd o Zh8
 | .nil,_,d,ρ,_,o=>absurd o Zh8
 | .dbl a,true,d,[],k,o=>⟨.lam (.app a (.app a .nil)),by
    show Te.fn g (.two .use (putF (a.R h g d) 1 1) (.two .use (putF (a.R h g d) 1 1) (putF (a.R h g d) 0 1)))=.fn g (.two .use (a.R h g (d+1)) (.two .use (a.R h g (d+1)) (.at 0)))
    have e1:putF (a.R h g d) 1 1=a.R h g (d+1):=by
     show (if 1=1 then (a.R h g d).mp (Zb5 1) 0 else _)=_;rw[if_pos rfl,Dt.lift (a:=a) (s:=true) (show a.ok true=true from k) (Nat.zero_le _) (fun z=>nomatch z)]
    rw[e1];rfl,
   Dt.lamm (by show (a.ok true&&(a.ok true&&true))=true;rw[show a.ok true=true from k];rfl) (by have:1≤a.n:=Dt.n_pos k;show 1≤a.n+(a.n+0);walk_at "o"),
   by show 1+(a.m+(a.m+0))+1≤2+2*a.m;walk_at "o",by show a.n+(a.n+0)=2*a.n;walk_at "o",by show 1+(1+a.w+(1+a.w+1))≤8+2*a.w;walk_at "o",by show 2+max a.v (max a.v 0)≤4+a.v;walk_at "o",(fun _ z=>nomatch z),fun _ z=>nomatch z⟩
 | .dbl a,true,d,i :: ρ,k,o=>by
   rcases Zf8 o with ⟨rfl,o⟩ | ⟨rfl,o⟩
   ·exact absurd (show (Te.fn h (.fn g (.two .use (.at 1) (.two .use (.at 1) (.at 0))))).st=none from rfl) (Zl7 o)
   ·obtain⟨a',e,i1,i2,i3,i4,i6,_⟩:=Dt.turn (a:=a) (s:=true) k o
    exact⟨.dbl a',by show Te.two .use _ ((a.R h g d).tat ρ)=_;rw[e];rfl,i1,by show 2+2*a'.m+1≤2+2*a.m;walk_at "o",by show 2*a'.n=2*a.n;walk_at "o",by show 8+2*a'.w≤8+2*a.w;walk_at "o",by show 4+a'.v≤4+a.v;walk_at "o",(fun _ z=>nomatch z),fun _ z=>nomatch z⟩
 | .lam c,true,d,[],k,o=>absurd o Zm8
 | .lam c,true,d,i :: ρ,k,o=>by
   obtain⟨rfl,o⟩:=Zm4 o;obtain⟨k,kn⟩:=Dt.lamk k;obtain⟨c',e,i1,i2,i3,i4,i6,_⟩:=Dt.turn (a:=c) (s:=false) k o;exact⟨.lam c',by show Te.fn g ((c.R h g (d+1)).tat ρ)=_;rw[e];rfl,Dt.lamm i1 (by rw[i3];exact kn),by show 1+c'.m+1≤1+c.m;walk_at "o",i3,by show 1+c'.w≤1+c.w;walk_at "o",by show 2+c'.v≤2+c.v;walk_at "o",(fun _ z=>nomatch z),fun _ _=>⟨c',rfl⟩⟩
 | .app .base c,false,d,[],k,o=>absurd (show false=true from Zi7 o) (by decide)
 | .app (.dbl a) c,false,d,[],k,o=>absurd (show false=true from Zi7 o) (by decide)
 | .app (.lam b) c,false,d,[],k,o=>by
   have k:=(Bool.and_eq_true _ _).mp k;obtain⟨i1,i2,i3,i4,i6⟩:=Dt.join_ok k.2 (c:=b) (Dt.lamk k.1).1;exact⟨b.join c,Dt.splice rfl (Dt.lamk k.1).1,i1,by show _≤1+b.m+c.m;walk_at "o",i3,by show _≤1+(1+b.w)+c.w;walk_at "o",by show _≤max (2+b.v) c.v;walk_at "o",(fun z=>nomatch z),fun _ z=>nomatch z⟩
 | .app .nil c,false,d,[],k,o=>by cases k
 | .app (.app _ _) c,false,d,[],k,o=>by cases k
 | .app a c,false,d,i :: ρ,k,o=>by
   have k:=(Bool.and_eq_true _ _).mp k;rcases Zf8 o with ⟨rfl,o⟩ | ⟨rfl,o⟩
   ·obtain⟨a',e,i1,i2,i3,i4,i6,_⟩:=Dt.turn (a:=a) (s:=true) k.1 o
    exact⟨.app a' c,by show Te.two .use ((a.R h g d).tat ρ) _=_;rw[e];rfl,(Bool.and_eq_true _ _).mpr ⟨i1,k.2⟩,by show a'.m+c.m+1≤a.m+c.m;walk_at "o",by show a'.n+c.n=a.n+c.n;walk_at "o",by show 1+a'.w+c.w≤1+a.w+c.w;walk_at "o",by show max a'.v c.v≤max a.v c.v;walk_at "o",(fun z=>nomatch z),fun _ z=>nomatch z⟩
   ·obtain⟨c',e,i1,i2,i3,i4,i6,_⟩:=Dt.turn (a:=c) (s:=false) k.2 o
    exact⟨.app a c',by show Te.two .use _ ((c.R h g d).tat ρ)=_;rw[e];rfl,(Bool.and_eq_true _ _).mpr ⟨k.1,i1⟩,by show a.m+c'.m+1≤a.m+c.m;walk_at "o",by show a.n+c'.n=a.n+c.n;walk_at "o",by show 1+a.w+c'.w≤1+a.w+c.w;walk_at "o",by show max a.v c'.v≤max a.v c.v;walk_at "o",(fun z=>nomatch z),fun _ z=>nomatch z⟩
theorem Wa9 {t:Te} (h:t.st≠none):∃ ρ,t.okp ρ:=by
 rcases Ze5 t [] with ⟨_,e2⟩ | ⟨ρ',r',e1,_⟩
 ·exact absurd e2 h
 ·have co:=Ze9 (t:=t) (f:=0) (n:=0) (π:=[])
  rw[e1] at co;generalize idxT 0 (t.pre 0)=l at co
  cases co with
  | cons a _=>obtain⟨ρ2,_,_,_,_,ok⟩:=a;exact⟨ρ2,ok⟩
noncomputable def Dt.bs:Nat→Dt
 | 0=>.nil
 | n+1=>.app .base (Dt.bs n)
variable {h g:Tm}
theorem Dt.size:∀ {a:Dt} {s:Bool} {d:Nat},a.ok s=true→(a.R h g d).size≤a.w
 | .base,_,d,_=>Nat.le_refl _
 | .nil,_,d,_=>Nat.le_refl _
 | .dbl a,true,d,k=>by
   have i:(a.R h g d).size≤a.w:=Dt.size (a:=a) (s:=true) k;show 1+(1+(1+(1+1+(1+1+1))))+(a.R h g d).size≤8+2*a.w;walk_at "o"
 | .lam c,true,d,k=>by
   have i:(c.R h g (d+1)).size≤c.w:=Dt.size (a:=c) (s:=false) (Dt.lamk k).1;show 1+(c.R h g (d+1)).size≤1+c.w;walk_at "o"
 | .app a c,false,d,k=>by
   have k:=(Bool.and_eq_true _ _).mp k;have i:(a.R h g d).size≤a.w:=Dt.size (a:=a) (s:=true) k.1;have j:(c.R h g d).size≤c.w:=Dt.size (a:=c) (s:=false) k.2;show 1+(a.R h g d).size+(c.R h g d).size≤1+a.w+c.w;walk_at "o"
theorem Dt.rests {d:Nat}:∀ {c:Dt},c.ok false=true→(∀ ρ,¬ (c.R h g d).okp ρ)→c=Dt.bs c.n
 | .nil,_,_=>rfl
 | .app .base c,k,z=>by
   have i:c=Dt.bs c.n:=Dt.rests (c:=c) (((Bool.and_eq_true _ _).mp k).2) (fun ρ o=>z (2 :: ρ) o);show Dt.app .base c=Dt.bs (1+c.n);rw[Nat.add_comm 1];show Dt.app .base c=.app .base (Dt.bs c.n);rw[← i]
 | .app (.dbl a) c,k,z=>absurd (show ((Dt.app (.dbl a) c).R h g d).okp [1] from rfl) (z _)
 | .app (.lam b) c,k,z=>absurd (show ((Dt.app (.lam b) c).R h g d).okp [] from rfl) (z _)
 | .app .nil c,k,_=>by cases k
 | .app (.app _ _) c,k,_=>by cases k
theorem Dt.deep:∀ {a:Dt} {s:Bool} {d:Nat},a.ok s=true→(a.R h g d).deep≤a.n+a.v+(if s then 0 else 1)∧(s=true→1≤a.n)
 | .base,_,d,_=>⟨Nat.le_add_right 1 _,fun _=>Nat.le_refl _⟩
 | .nil,false,d,_=>⟨Nat.le_refl _,fun z=>nomatch z⟩
 | .nil,true,d,k=>nomatch k
 | .dbl a,true,d,k=>by
   obtain⟨i,p⟩:(a.R h g d).deep≤a.n+a.v+0∧_:=Dt.deep (a:=a) (s:=true) k;have:=p rfl;exact⟨by show 1+max (1+(1+(1+max 1 (1+max 1 1)))) (a.R h g d).deep≤2*a.n+(4+a.v)+0;walk_at "o",fun _=>by show 1≤2*a.n;walk_at "o"⟩
 | .lam c,true,d,k=>by
   obtain⟨i,_⟩:(c.R h g (d+1)).deep≤c.n+c.v+1∧_:=Dt.deep (a:=c) (s:=false) (Dt.lamk k).1;exact⟨by show 1+(c.R h g (d+1)).deep≤c.n+(2+c.v)+0;walk_at "o",fun _=>(Dt.lamk k).2⟩
 | .app a c,false,d,k=>by
   have k:=(Bool.and_eq_true _ _).mp k;obtain⟨i,p⟩:(a.R h g d).deep≤a.n+a.v+0∧_:=Dt.deep (a:=a) (s:=true) k.1;have:=p rfl;obtain⟨j,_⟩:(c.R h g d).deep≤c.n+c.v+1∧_:=Dt.deep (a:=c) (s:=false) k.2;exact⟨by show 1+max (a.R h g d).deep (c.R h g d).deep≤a.n+c.n+max a.v c.v+1;walk_at "o",fun z=>nomatch z⟩
theorem Xq1 {d S D:Nat}:∀ {N:Nat} {a:Dt},a.ok true=true→a≠.base→a.m≤N+1→a.w≤S→a.n+a.v≤D→Goes ((Dt.lam (Dt.bs a.n)).R h g d) S D N (a.R h g d):=by
 intro N
 induction N with
 | zero =>
  intro a k nb l w dd;have s:(a.R h g d).size≤S:=Nat.le_trans (Dt.size k) w;have de:(a.R h g d).deep≤D:=Nat.le_trans (Dt.deep k).1 dd
  have no:∀ ρ,¬ (a.R h g d).okp ρ:=fun ρ o=>by
   obtain⟨a',_,i1,i2,_,_,_,i5,_⟩:=Dt.turn k o;have:=i5 rfl
   cases a' with
   | base=>exact this rfl
   | dbl b=>have:2+2*b.m+1≤a.m:=i2;walk_at "o"
   | lam c=>have:1+c.m+1≤a.m:=i2;walk_at "o"
   | nil=>cases i1
   | app b c=>cases i1
  refine⟨s,de,?_,?_⟩
  ·cases e:(a.R h g d).st with
   | none=>rfl
   | some u=>obtain⟨ρ,o⟩:=Wa9 (t:=a.R h g d) (by rw[e];exact fun z=>nomatch z);exact absurd o (no ρ)
  ·cases a with
   | base=>exact absurd rfl nb
   | dbl b=>have:2+2*b.m≤0+1:=l;walk_at "o"
   | lam c =>
    have e:=Dt.rests (h:=h) (g:=g) (d:=d+1) (c:=c) (Dt.lamk k).1 (fun ρ o=>no (2 :: ρ) o);show (Dt.lam c).R h g d=(Dt.lam (Dt.bs c.n)).R h g d;rw[← e]
   | nil=>cases k
   | app b c=>cases k
 | succ N ih =>
  intro a k nb l w dd;have s:(a.R h g d).size≤S:=Nat.le_trans (Dt.size k) w;have de:(a.R h g d).deep≤D:=Nat.le_trans (Dt.deep k).1 dd;refine Zg6 s de (fun z=>?_) fun ρ o=>?_
  ·cases a with
   | base=>exact absurd rfl nb
   | dbl b=>exact absurd z (Zl7 (t:=(Dt.dbl b).R h g d) (ρ:=[]) rfl)
   | lam c =>
    have e:=Dt.rests (h:=h) (g:=g) (d:=d+1) (c:=c) (Dt.lamk k).1 (fun ρ o=>absurd z (Zl7 (t:=(Dt.lam c).R h g d) (ρ:=2 :: ρ) o));show (Dt.lam c).R h g d=(Dt.lam (Dt.bs c.n)).R h g d;rw[← e]
   | nil=>cases k
   | app b c=>cases k
  ·obtain⟨a',e,i1,i2,i3,i4,i6,i5,_⟩:=Dt.turn k o
   rw[e,← i3];exact ih i1 (i5 rfl) (by walk_at "o") (Nat.le_trans i4 w) (by walk_at "o")
theorem Wb7 {t t':Te} (h:t.st=some t'):∃ ρ,t.okp ρ∧t'=t.tat ρ:=by
 rcases Ze5 t [] with ⟨_,e2⟩ | ⟨ρ,r,e1,e2⟩
 ·rw[e2] at h;cases h
 ·have co:=Ze9 (t:=t) (f:=0) (n:=0) (π:=[])
  rw[e1] at co;generalize idxT 0 (t.pre 0)=l at co
  cases co with
  | cons a _ =>
   obtain⟨ρ2,e,_,_,_,ok⟩:=a;have e:ρ=ρ2:=e;subst e;exact⟨ρ,ok,by rw[h] at e2;exact Option.some.inj e2⟩
theorem Yk6 {r:Te} {S D:Nat} (hS:S≤1000) (hD:D≤60):∀ {M n:Nat} {t:Te},n≤M→Goes r S D n t→Runs M t (some r)
 | 0,0,t,_,h=>by rw[← h.2.2.2];exact .rest h.2.2.1
 | 0,n+1,t,l,_=>absurd l (Nat.not_succ_le_zero n)
 | M+1,n,t,l,h=>by
  cases e:t.st with
  | none=>rw[← h.r e];exact .rest e
  | some t' =>
   obtain⟨ρ,ok,rfl⟩:=Wb7 e;obtain⟨m,rfl,g⟩:=h.step ok;exact .more e (Nat.le_trans g.s hS) (Nat.le_trans g.d (by walk_at "o")) (Nat.le_trans (Zi1 _) (Nat.le_trans g.d hD)) (Yk6 hS hD (Nat.le_of_succ_le_succ l) g)
def Oth (o:Te):Prop:=∃ j,o=.at j∨o=.one .left (.two .pair (.at j) (.at j)) []
theorem Zq5 {o:Te} (h:Oth o):∃ c,Goes c 4 3 1 o:=by
 obtain⟨j,rfl | rfl⟩:=h
 ·exact⟨.at j,(Zz6 (by decide) (by decide)).mono (Nat.le_refl _) (Nat.le_refl _) (by decide)⟩
 ·exact⟨.at j,Zz5 (S:=1) (D:=1) (S2:=1) (D2:=1) (by decide) (by decide) 0 rfl (Zz6 (by decide) (by decide)) (Zz6 (k:=j) (by decide) (by decide))⟩
def Wrps (t u:Te):Prop:=∀ (r:Te) (S D n:Nat),3≤D→Goes r S D n t→Goes r (S+9) (D+4) (n+3) u
variable {t o:Te}
theorem wr0 (ho:Oth o):Wrps t (.one .left (.two .pair t o) []):=fun r S D n l h=>by
 obtain⟨c,g⟩:=Zq5 ho;exact (Zz5 (S':=S+9) (D':=D+4) (by walk_at "o") (by walk_at "o") _ rfl h g).mono (Nat.le_refl _) (Nat.le_refl _) (by walk_at "o")
theorem wr1 (ho:Oth o):Wrps t (.one .right (.two .pair o t) []):=fun r S D n l h=>by
 obtain⟨c,g⟩:=Zq5 ho;exact (Yz4 (S':=S+9) (D':=D+4) (by walk_at "o") (by walk_at "o") _ rfl h g).mono (Nat.le_refl _) (Nat.le_refl _) (by walk_at "o")
theorem wr2 {s:Tm}:Wrps t (.two .use (.fn s (.at 0)) t):=fun r S D n l h =>
 (Zr4 (S':=S+9) (D':=D+4) (by walk_at "o") (by walk_at "o") h).mono (Nat.le_refl _) (Nat.le_refl _) (by walk_at "o")
theorem wr3 {s:Tm} (ho:Oth o):Wrps t (.two .use (.fn s (t.mp (Zb5 1) 0)) o):=fun r S D n l h=>by
 obtain⟨c,g⟩:=Zq5 ho;exact (Yc3 (S':=S+9) (D':=D+4) (by walk_at "o") (by walk_at "o") _ rfl h g).mono (Nat.le_refl _) (Nat.le_refl _) (by walk_at "o")
theorem wr4 {s:Tm} (ho:Oth o):Wrps t (.two .use (.fn s (.one .left (.two .pair (t.mp (Zb5 1) 0) (.at 0)) [])) o):=fun r S D n l h=>by
 obtain⟨c,g⟩:=Zq5 ho;exact (Yq8 (S':=S+9) (D':=D+4) (by walk_at "o") (by walk_at "o") _ rfl h g).mono (Nat.le_refl _) (Nat.le_refl _) (by walk_at "o")
theorem wr5 {s:List Tm} (ho:Oth o):Wrps t (.cs (.one .first o s) (t.mp (Zb5 1) 0) (.at 0)):=fun r S D n l h=>by
 obtain⟨c,g⟩:=Zq5 ho;exact (Yz6 (S':=S+9) (D':=D+4) (by walk_at "o") (by walk_at "o") _ rfl h g).mono (Nat.le_refl _) (Nat.le_refl _) (by walk_at "o")
theorem wr6 {s:List Tm} {k:Nat}:Wrps t (.cs (.one .second t s) (.at k) (.at 0)):=fun r S D n l h =>
 (Yq7 (S2:=1) (D2:=1) (S':=S+9) (D':=D+4) rfl (Nat.le_refl _) (Nat.le_refl _) (by walk_at "o") (by walk_at "o") n h).mono (Nat.le_refl _) (Nat.le_refl _) (by walk_at "o")
theorem wr7 {s s2:Tm}:Wrps t (.two .use (.two .use (.fn s (.at 0)) (.fn s2 (.at 0))) t):=fun r S D n l h =>
 (Xi8 (S':=S+9) (D':=D+4) (by walk_at "o") (by walk_at "o") n h).mono (Nat.le_refl _) (Nat.le_refl _) (by walk_at "o")
theorem wr8 {s s2:Tm}:Wrps t (.two .use (.fn s (.two .use (.fn s2 (.at 0)) (.at 0))) t):=fun r S D n l h =>
 (Yz5 (S':=S+9) (D':=D+4) (by walk_at "o") (by walk_at "o") n h).mono (Nat.le_refl _) (Nat.le_refl _) (by walk_at "o")
def Wn (k j:Nat) (t:Te):Prop:=Goes (.at k) (1+9*j) (3+4*j) (3*j) t
theorem Xu7 {k:Nat}:Wn k 0 (.at k):=Zz6 (by decide) (by decide)
theorem Xu5 {k j:Nat} {t u:Te} (h:Wn k j t) (w:Wrps t u):Wn k (j+1) u:=(w _ _ _ _ (Nat.le_add_right _ _) h).mono (by walk_at "o") (by walk_at "o") (by walk_at "o")
def Ym6 (t r:Te):Prop:=Goes r 300 56 100 t
theorem Xl2 {k j:Nat} {t:Te} (l:j≤12) (h:Wn k j t):Ym6 t (.at k):=Goes.mono (by walk_at "o") (by walk_at "o") (by walk_at "o") h
theorem Yz9 {k j k2 j2:Nat} {t u:Te} (l:j≤12) (l2:j2≤12) (h:Wn k j t) (h2:Wn k2 j2 u):Ym6 (.two .pair t u) (.two .pair (.at k) (.at k2)) :=
 (Yk7 (S':=300) (D':=56) (by walk_at "o") (by walk_at "o") _ rfl h h2).mono (Nat.le_refl _) (Nat.le_refl _) (by walk_at "o")
theorem Yr6 {k j:Nat} {s:Tm} {t:Te} (l:j≤12) (h:Wn k j t):Ym6 (.two .use (.fn s (.two .pair (.at 0) (.at 0))) t) (.two .pair (.at k) (.at k)) :=
 (Yz3 (S':=300) (D':=56) (by walk_at "o") (by walk_at "o") _ h).mono (Nat.le_refl _) (Nat.le_refl _) (by walk_at "o")
noncomputable def dblD:Nat→Dt
 | 0=>.base
 | n+1=>.dbl (dblD n)
noncomputable def dblT (h g:Tm):Nat→Te
 | 0=>.at 0
 | n+1=>.two .use (.fn h (.fn g (.two .use (.at 1) (.two .use (.at 1) (.at 0))))) (dblT h g n)
theorem Wj8 {h g:Tm}:∀ n:Nat,dblT h g n=(dblD n).R h g 0
 | 0=>rfl
 | n+1=>by show Te.two .use _ (dblT h g n)=.two .use _ ((dblD n).R h g 0);rw[Wj8 n]
theorem Xt8:∀ n:Nat,(dblD n).ok true=true
 | 0=>rfl
 | n+1=>Xt8 n
noncomputable def useT:Nat→Te
 | 0=>.at 0
 | n+1=>.two .use (.at 1) (useT n)
theorem Wb0 {h g:Tm}:∀ n:Nat,(Dt.bs n).R h g 1=useT n
 | 0=>rfl
 | n+1=>by show Te.two .use (.at 1) ((Dt.bs n).R h g 1)=.two .use (.at 1) (useT n);rw[Wb0 n]
noncomputable def Xw2 (g:Tm):Nat→Te
 | 0=>.at 0
 | n+1=>.fn g (useT (2 ^ (n+1)))
theorem Xl3 {h g:Tm}:∀ {n:Nat},n < 5→Ym6 (dblT h g n) (Xw2 g n)
 | 0,_=>(Zz6 (S:=1) (D:=1) (by decide) (by decide)).mono (by decide) (by decide) (by decide)
 | n+1,l=>by
   have key:∀ n,n < 4→(dblD (n+1)).m≤99+1∧(dblD (n+1)).w≤300∧(dblD (n+1)).n+(dblD (n+1)).v≤56∧(dblD (n+1)).n=2 ^ (n+1):=by decide
   obtain⟨a,b,c,d⟩:=key n (by walk_at "o");have e:=Xq1 (h:=h) (g:=g) (d:=0) (S:=300) (D:=56) (N:=99) (a:=dblD (n+1)) (Xt8 (n+1)) (fun z=>nomatch z) a b c;rw[← Wj8,d] at e
   have e2:(Dt.lam (Dt.bs (2 ^ (n+1)))).R h g 0=Xw2 g (n+1):=by show Te.fn g ((Dt.bs (2 ^ (n+1))).R h g 1)=_;rw[Wb0];rfl
   rw[e2] at e;exact e.mono (Nat.le_refl _) (Nat.le_refl _) (by decide)
theorem Xr0 {s:Tm} {t r:Te} (h:Ym6 t r):Goes (.fn s (r.mp (Zb5 1) 0)) 301 57 100 (.fn s (t.mp (Zb5 1) 0)):=Xi9 (by decide) (by decide) h.lift
end Ken
namespace L2
open PySem PySem.Spec PyProof.Rows
end L2
namespace Ken
open PySem L2
theorem Yw7 (s:Tm):∀ n,dbT s n (.at 0)=dblT (.nd .thn s s) s n
 | 0=>rfl
 | n+1=>by show Te.two .use _ (dbT s n (.at 0))=.two .use _ (dblT (.nd .thn s s) s n);rw[Yw7 s n];rfl
theorem Yh3:∀ n,uses n=useT n
 | 0=>rfl
 | n+1=>by show Te.two .use (.at 1) (uses n)=.two .use (.at 1) (useT n);rw[Yh3 n]
theorem Yj6 (s:Tm):∀ n,rst s n=Xw2 s n
 | 0=>rfl
 | n+1=>by unfold rst;rw[if_neg (by walk_at "o"),Yh3];rfl
theorem Yh5:∀ n,(useT n).deep=n+1
 | 0=>rfl
 | n+1=>by show 1+max 1 (useT n).deep=n+1+1;rw[Yh5 n];walk_at "o"
theorem Xe1 {s:Tm}:∀ n,n < 5→(rst s n).deep≤60
 | 0,_=>by show 1≤60;decide
 | n+1,h=>by
  rw[Yj6];show 1+(useT (2 ^ (n+1))).deep≤60;rw[Yh5];have:2 ^ (n+1)≤2 ^ 4:=Nat.pow_le_pow_right (by decide) (by walk_at "o");walk_at "o"
theorem Yx8 {s:Tm} {n:Nat} (h:n < 5):Ym6 (dbT s n (.at 0)) (rst s n):=by
 rw[Yj6,Yw7];exact Xl3 h
def okV (ws:List Str) (s:Tm):Prop:=s.inW ws∧s.parts≤25
theorem okV.w {ws:List Str} {s:Tm} (h:okV ws s):okW ws s:=⟨h.1,Nat.le_trans h.2 (by decide)⟩
theorem okV.th {ws:List Str} {s:Tm} (h:okV ws s):okW ws (.nd .thn s s):=⟨⟨h.1,h.1⟩,by show 1+s.parts+s.parts≤60;have:=h.2;walk_at "o"⟩
theorem Yw6 {ws:List Str} {s:Tm} (h:okV ws s):∀ n,(dbT s n (.at 0)).fine ws
 | 0=>trivial
 | n+1=>⟨⟨h.th,h.w,trivial,trivial,trivial⟩,Yw6 h n⟩
structure GvV (K:W.Frag) (H:Hp) (ws:List Str) (ga:Addr) (gs:List V) (ts:List Tm):Prop where
 g:H ga=some (.lst gs)
 p:Paired (IsT K H) gs ts
 o:∀ s∈ts,okV ws s
 n:1≤gs.length
 m:gs.length≤5
theorem GvV.keep {K:W.Frag} {H H':Hp} {ws:List Str} {ga:Addr} {gs:List V} {ts:List Tm} (h:GvV K H ws ga gs ts) (e:Same H H'):GvV K H' ws ga gs ts :=
 ⟨e _ _ h.g,Paired.mapP h.p fun _ _ z=>IsT.keep z e.keepT,h.o,h.n,h.m⟩
theorem GvV.at {K:W.Frag} {H:Hp} {ws:List Str} {ga:Addr} {gs:List V} {ts:List Tm} (h:GvV K H ws ga gs ts) {k:Nat} (hk:k < gs.length):∃ v s,gs[k]?=some v∧IsT K H v s∧okV ws s:=by
 obtain⟨v,hv⟩:∃ v,gs[k]?=some v:=⟨_,List.getElem?_eq_getElem hk⟩;obtain⟨s,hs,z⟩:=Ze3 h.p hv;exact⟨v,s,hv,z,h.o s (List.mem_of_getElem? hs)⟩
def Yb4 (K:W.Frag):Sp:=fun vs H Q _=>∃ (sa wa:Addr) (ns:List Int) (ws:List Str),vs=[.ref sa,.ref wa]∧SqL K H sa (ns.map V.int)∧ns.length≤63∧SqL K H wa (ws.map V.str)∧Xa8 ws∧∀ (r:Addr) (H':Hp) (gs:List V) (ts:List Tm),Same H H'→H' r=some (.lst gs)→Paired (IsT K H') gs ts→(∀ s∈ts,okV ws s)→ts.length≤4→Q (.ref r) H'
def Zk1 (K:W.Frag) (n:Nat):Sp:=fun vs H Q _=>∃ (v:V) (t:Te) (b f:Nat) (ws:List Str),vs=[v,.int (b:Nat),.int (f:Nat)]∧IsE K H v t∧t.fine ws∧t.deep≤n∧∀ (r:V) (H':Hp),Same H H'→IsE K H' r (t.mp (Zb5 b) f)→Q r H'
def Zx1 (K:W.Frag):Sp:=fun vs H Q _=>∃ (tv bv sv:V) (c:Int) (ga:Addr) (t:Te) (k:Nat) (s:Tm) (ws:List Str) (gs:List V) (ts:List Tm),vs=[tv,bv,sv,.int c,.ref ga]∧0≤c∧IsE K H tv t∧t.fine ws∧t.deep≤60∧IsE K H bv (.at k)∧IsT K H sv s∧okV ws s∧GvV K H ws ga gs ts ∧
 ∀ (r:V) (H':Hp) (u:Te),Same H H'→IsE K H' r u→u.fine ws→Wrps t u→Q r H'
def Xd3 (K:W.Frag):Sp:=fun vs H Q _=>∃ (sa ga:Addr) (ns:List Int) (j:Nat) (ws:List Str) (gs:List V) (ts:List Tm),vs=[.ref sa,.int (j:Nat),.ref ga]∧SqL K H sa (ns.map V.int)∧ns.length≤63∧j≤100∧GvV K H ws ga gs ts ∧
 ∀ (l:Addr) (H':Hp) (tv bv sv:V) (t:Te) (k m:Nat) (s:Tm),Same H H'→H' l=some (.lst [tv,bv,sv])→IsE K H' tv t→t.fine ws→m≤12→Wn k m t→IsE K H' bv (.at k)→IsT K H' sv s→okV ws s→Q (.ref l) H'
def Yi6 (K:W.Frag):Sp:=fun vs H Q _=>∃ (sa ga:Addr) (ns:List Int) (ws:List Str) (gs:List V) (ts:List Tm),vs=[.ref sa,.ref ga]∧SqL K H sa (ns.map V.int)∧ns.length≤63∧GvV K H ws ga gs ts ∧
 ∀ (l:Addr) (H':Hp) (tv rv:V) (t r:Te),Same H H'→H' l=some (.lst [tv,rv])→IsE K H' tv t→IsE K H' rv r→t.fine ws→r.fine ws→r.deep≤60→Ym6 t r→Q (.ref l) H'
def Yd8 (K:W.Frag) (tb:TBs):Sp:=fun vs H Q _=>∃ (a:Addr) (ns:List Int),vs=[.ref a]∧SqL K H a (ns.map V.int)∧ns.length≤63∧Tabs H tb∧∀ H',Q (.bl true) H'
theorem Xu6 {k j:Nat} {t:Te} (h:Wn k j t) (l:j≤12):t.deep≤60:=Nat.le_trans h.d (by walk_at "o")
end Ken
namespace L2
open PySem PySem.Spec PyProof.Rows
section
variable {P:Program} {w:World} {A:Around} {E:Value→Shared→Prop}
theorem Xn1 {it l:Addr} {its:Array Value} (n0:l≠it) (k:Nat):∀ (j:Nat) (s:Shared) (Q:List Value→Shared→Prop),s.heap.IsListIter it l j→s.heap.IsList l its→j+k≤its.size →
  (∀ g,g.IsListIter it l (j+k)→Heap.SameBut it s.heap g→Q ((its.toList.drop j).take k) { s with heap:=g })→wpAny (model P w) A (draw (.ref it) k) Q E s:=by
 induction k with
 | zero=>exact fun j s Q a _ _ q=>(show wpAny (model P w) A (pure []) Q E s from wpAny_pure (by simpa using q s.heap a (Heap.SameBut.refl ..)))
 | succ k ih =>
  intro j s Q a b c q
  have d:j < its.size:=by walk_at "o"
  have e:its.toList.drop j=its[j] :: its.toList.drop (j+1):=by simp[List.drop_eq_getElem_cons,d]
  show wpAny (model P w) A (pyNext (.ref it) >>= _) Q E s;refine wpAny_bind (wpAny_pyNext_list_item a b (x:=its[j]) (by simp[d]) fun g a' sb=>wpAny_bind (wpAny_holding (ih (j+1) _ _ a' (b.extBut sb.extBut n0) (by walk_at "o") fun g2 a2 sb2=>wpAny_pure ?_)));have z:=q g2 (by rw[show j+(k+1)=j+1+k by walk_at "o"];exact a2) (sb.trans sb2);rw[e,List.take_succ_cons] at z;exact z
theorem Xb2 {s:Shared} {l:Addr} {its:Array Value} {Q:List Value→Shared→Prop} (hh:A.handled=none) (b:s.heap.IsList l its) (q:∀ g,Heap.ExtBut s.heap.objs.size s.heap g→Q its.toList { s with heap:=g }):wpAny (model P w) A (unpackItems (.ref l) its.size none) Q E s:=by
 have n0:l≠s.heap.objs.size:=by
  obtain⟨o,ho,_⟩:=id b;exact Nat.ne_of_lt (Heap.lt_size ho)
 have all:(its.toList.drop 0).take its.size=its.toList:=by rw[List.drop_zero,List.take_of_length_le (by simp)]
 unfold unpackItems notIterableAtAll;refine wpAny_bind (wpAny_bind (wpAny_specialOf b.typeIs F.slot_list_iter.lookup (wpAny_pure ?_)));rw[if_neg Bool.false_ne_true];refine wpAny_bind (wpAny_holding (wpAny_pyIter_list b (wpAny_bind (wpAny_holding (Xn1 n0 its.size 0 _ _ ⟨_,Heap.get?_push_size _ rfl,rfl,rfl⟩ (b.push _) (by walk_at "o") fun g a' sb=>?_)))));rw[all,if_neg (by simp)];refine wpAny_bind (wpAny_holding (wpAny_pyNext_list_end hh a' ((b.push _).extBut sb.extBut n0) (by simp) fun g2 sb2=>?_));rw[if_neg (by simp)];exact wpAny_pure (q g2 fun c o hc e=>sb2 c o hc (sb.extBut c o hc (Heap.get?_push_of_some _ e)))
end
section
variable {X:Cx} {pos:Pos}
def gLst (K:W.Frag) (n:Nat) (t:TGs):TG:=fun v σ H Q=>∃ a xs,v=.ref a∧SqL K H a xs∧xs.length=n∧t xs σ H Q
theorem Xe9 {es:List Expr} {k:Nat} {t:TGs} {n:Nat} (hc:X.calm=true) (h:PGs X es t)
  (hn:(assignEach es X.env).length=n:=by rfl) (hst:(assignEach es X.env).findIdx? (·.1)=none:=by rfl):PG X (.Tuple es k pos) (gLst X.K n t):=by with_unfolding_all
 intro pins s σ H v u Q I r hw;obtain⟨a,xs,rfl,hq,hl,hw⟩:=hw;cases r;obtain⟨its,rv,p,hz⟩:=I.list hq
 have lz:(assignEach es X.env).length=its.toArray.size:=by rw[hn,← hl,rv.length];simp
 rw[PyProof.Rows.assign_Tuple];refine wpAny_bind (wpAny_standAt ?_);unfold unpack;rw[lz,hst];refine wpAny_bind (wpAny_holding (Xb2 (I.ok.hd hc) p.isList fun g sb=>?_));have J:Inv X pins σ H { s with heap:=g }:=I.kept (t':=s.toks) fun b o e=>sb b o (Nat.ne_of_lt (Heap.lt_size e)) e;exact h pins _ σ H xs _ Q J (by simpa using rv) hw
end
structure Cl (P:Program) (w:World) (K:W.Frag) (mg:Str→Option Value) (base:Heap) (k:Nat) (x:Str) (ps:List Str) (sp:Sp):Prop where
 ex:∃ (f:Addr) (fd:FuncData),FnOk P w K mg base CX0 k f fd ps sp∧mg x=some (.ref f)∧W.keepIn K (.ref f)=true∧Binds K fd ps []
section
variable {P:Program} {w:World} {K:W.Frag} {mg:Str→Option Value} {base:Heap} {j k:Nat} {x:Str} {ps:List Str} {sp:Sp}
theorem Cl.of {f:Addr} {fd:FuncData} (G:FnOk P w K mg base CX0 k f fd ps sp) (m:mg x=some (.ref f)) (kp:W.keepIn K (.ref f)=true) (b:Binds K fd ps []):Cl P w K mg base k x ps sp:=⟨⟨f,fd,G,m,kp,b⟩⟩
theorem Cl.up (C:Cl P w K mg base j x ps sp) (h:j≤k):Cl P w K mg base k x ps sp:=by
 obtain⟨f,fd,G,r⟩:=C.ex;exact⟨⟨f,fd,G.mono h,r⟩⟩
end
section
variable {X:Cx}
theorem Zd1 {k:Nat} {x:Str} {ps:List Str} {sp:Sp} {e:Expr} {es:List Expr} {t:TA} {p pos:Pos} (C:Cl X.prog X.w X.K X.mg X.base k x ps sp) (hr:Room k X.A) (ha:PA X (e :: es) t) (hg:Gl X x:=by exact rfl)
  (hdb:(x == ("__debug__":Str))=false:=by decide) (he:starEach (e :: es) X.env=(false,eval e X.env) :: starEach es X.env:=by rfl) (hpl:(backTo pos (starEach es X.env)).any (·.1)=false:=by rfl) :
  PE X (.Call (.Name x p) (e :: es) [] pos) (Ya6 sp [] E0 t):=by
 obtain⟨f,fd,G,m,kp,b⟩:=C.ex;exact Zo3 G hr hg m kp b .nil Xp2 ha hdb he hpl
end
abbrev pq0:List Str:=["_law_cell_here","_law_k"]
abbrev pq2:List Str:=["_law_cell_here","_law_size","_law_words_here"]
abbrev pq3:List Str:=["_law_cell_here","_law_words_here"]
abbrev pq5:List Str:=["_law_found","_law_term","_law_by","_law_own"]
abbrev pq7:List Str:=["_law_many","_law_shape","_law_base"]
abbrev pq9:List Str:=["_law_script","_law_k"]
abbrev pq14:List Str:=["_law_term","_law_by","_law_own"]
abbrev pq17:List Str:=["piece","inner"]
abbrev pq18:List Str:=["pieces","of_piece"]
abbrev pq21:List Str:=["term","number"]
abbrev pq24:List Str:=["term"]
abbrev KpI (K:W.Frag) (f:Addr):Prop:=W.keepIn K (.ref f)=true
abbrev MgI (mg:Str→Option Value) (x:Str) (f:Addr):Prop:=mg x=some (.ref f)
abbrev Fk0 (P:Program) (w:World) (K:W.Frag) (mg:Str→Option Value) (base:Heap):Nat→Addr→FuncData→List Str→Sp→Prop:=FnOk P w K mg base CX0
section
variable {X:Cx}
theorem pcl {k:Nat} {f:Addr} {fd:FuncData} {ps:List Str} {sp:Sp} {x:Str} {e:Expr} {es:List Expr} {t:TA} {p pos:Pos} (G:FnOk X.prog X.w X.K X.mg X.base CX0 k f fd ps sp) (hr:Room k X.A) (hm:X.mg x=some (.ref f)) (hk:W.keepIn X.K (.ref f)=true) (hb:Binds X.K fd ps []) (ha:PA X (e :: es) t) (hg:Gl X x:=by exact rfl)
  (hdb:(x == ("__debug__":Str))=false:=by decide) (he:starEach (e :: es) X.env=(false,eval e X.env) :: starEach es X.env:=by rfl) (hpl:(backTo pos (starEach es X.env)).any (·.1)=false:=by rfl) :
  PE X (.Call (.Name x p) (e :: es) [] pos) (Ya6 sp [] E0 t):=Zo3 G hr hg hm hk hb .nil Xp2 ha hdb he hpl
theorem pxt {a b:Expr} {ta tb:TE} {pos:Pos} (ha:PE X a ta) (hb:PE X b tb) (hs:Ys1 b:=by exact fun _ _=>rfl):PE X (.Subscript a b pos) (tOp (rIxT X.K) ta tb):=Xw8 Wi7 ha hb hs
theorem pxl {a b:Expr} {ta tb:TE} {pos:Pos} (ha:PE X a ta) (hb:PE X b tb) (hs:Ys1 b:=by exact fun _ _=>rfl):PE X (.Subscript a b pos) (tOp (rIxL X.K) ta tb):=Xw8 Xy6 ha hb hs
theorem pst (i:Nat) {x:Str} {e:Expr} {te:TE} {pos' pos:Pos} (hN:X.N.Nodup) (he:PE X e te) (hi:X.N[i]?=some x:=by exact rfl) (hx:Loc X.env.scope x:=by exact Or.inl rfl) (hs:swapsWith e (some (.Name x pos')) pos.line X.env=pure false:=by rfl) (hf:X.fn x=true∨X.env.scope.names.lookup x=some .local:=by first | exact .inl rfl | exact .inr rfl | assumption) :
  PS X (.Assign [.Name x pos'] e pos) (tAsg te (Zv1 i)):=Zu1 hN hi hx he hs hf
theorem ptc {a b:Expr} {ta tb:TE} {pos:Pos} {op:CmpOp} {r:R2} (ho:OpR X (compareOp op) r) (ha:PE X a ta) (hb:PE X b tb) (h:op≠.In:=by decide) (h2:op≠.NotIn:=by decide):PT X (.Compare a [op] [b] pos) (Ya5 (tOp r ta tb)):=Yo8 ho ha hb (Zy5 _ h h2)
end
theorem scm {N ps:List Str} {sc:Scope} (h:(decide (sc.kind=.function)&&(!sc.isCoroutine&&(!sc.isGenerator&&(decide N.Nodup&&(decide (N.take ps.length=ps)&&(ps.all (fun x=>decide (sc.names.lookup x=some .local∨sc.names.lookup x=some .cell))&&sc.names.all fun y=>decide (y.2≠.free)))))))=true):FnScope N ps sc:=by
 simp only[Bool.and_eq_true,decide_eq_true_eq,List.all_eq_true,Bool.not_eq_true'] at h;exact⟨h.1,h.2.1,h.2.2.1,h.2.2.2.1,h.2.2.2.2.1,h.2.2.2.2.2.1,h.2.2.2.2.2.2⟩
def varM:Option (Option V)→Hp→VK→Prop
 | some (some v),H,Q=>Q v H
 | _,_,_=>False
def Yh8 (i:Nat):TE:=fun σ H Q=>varM σ[i]? H Q
theorem Zk0 {v:V} {H:Hp} {Q:VK}:varM (some (some v)) H Q=Q v H:=rfl
theorem Xu8 {o:Option (Option V)} {H:Hp} {Q:VK}:varM o H Q=∃ v,o=some (some v)∧Q v H:=propext ⟨fun h=>by
 unfold varM at h
 split at h
 ·exact⟨_,rfl,h⟩
 ·exact h.elim,fun⟨v,e,h⟩=>by rw[e];exact h⟩
theorem Xn5:Yh8=tVar:=by
 funext i σ H Q
 exact Xu8
def bM:V→Hp→(Bool→Hp→Prop)→Prop
 | .bl c,H,Q=>Q c H
 | _,_,_=>False
theorem Xa6 {c:Bool} {H:Hp} {Q:Bool→Hp→Prop}:bM (.bl c) H Q=Q c H:=rfl
theorem Xr3 {x:V} {H:Hp} {Q:Bool→Hp→Prop}:bM x H Q=∃ k,x=.bl k∧Q k H:=propext ⟨fun h=>by
 unfold bM at h
 split at h
 ·exact⟨_,rfl,h⟩
 ·exact h.elim,fun⟨v,e,h⟩=>by rw[e];exact h⟩
def Zp1 (t:TE):TT:=fun σ H Q=>t σ H fun x H1=>bM x H1 Q
theorem Yh9:Zp1=Ya5:=by
 funext t σ H Q
 show t σ H (fun x H1=>bM x H1 Q)=t σ H _
 congr 1
 funext x H1
 exact Xr3
def rI0M (g:Int→Int→V):R2
 | .int i,.int j,H,Q=>Q (g i j) H
 | _,_,_,_=>False
theorem Zn3 {g:Int→Int→V} {i j:Int} {H:Hp} {Q:VK}:rI0M g (.int i) (.int j) H Q=Q (g i j) H:=rfl
theorem Ye5 {g:Int→Int→V} {x y:V} {H:Hp} {Q:VK}:rI0M g x y H Q=∃ i j,x=.int i∧y=.int j∧Q (g i j) H:=propext ⟨fun h=>by
 unfold rI0M at h
 split at h
 ·exact⟨_,_,rfl,rfl,h⟩
 ·exact h.elim,fun⟨i,j,e,f,h⟩=>by rw[e,f];exact h⟩
theorem Zs5:rI0M=rI0:=by
 funext g x y H Q
 exact Ye5
def rIM (C:Int→Int→Prop) (g:Int→Int→V):R2
 | .int i,.int j,H,Q=>C i j∧Q (g i j) H
 | _,_,_,_=>False
theorem Zs4 {C:Int→Int→Prop} {g:Int→Int→V} {i j:Int} {H:Hp} {Q:VK}:rIM C g (.int i) (.int j) H Q=(C i j∧Q (g i j) H):=rfl
theorem Yu0 {C:Int→Int→Prop} {g:Int→Int→V} {x y:V} {H:Hp} {Q:VK}:rIM C g x y H Q=∃ i j,x=.int i∧y=.int j∧C i j∧Q (g i j) H:=propext ⟨fun h=>by
 unfold rIM at h
 split at h
 ·exact⟨_,_,rfl,rfl,h⟩
 ·exact h.elim,fun⟨i,j,e,f,h⟩=>by rw[e,f];exact h⟩
theorem Xe3:rIM=rI:=by
 funext C g x y H Q
 exact Yu0
section
variable {X:Cx}
theorem pvM (i:Nat) {x:Str} {pos:Pos} (hN:X.N[i]?=some x:=by rfl) (hv:Vis X.env.scope x:=by first | exact Or.inl rfl | exact Or.inr (Or.inl rfl) | exact Or.inr (Or.inr rfl)) (hd:(x == ("__debug__":Str))=false:=by decide)
  (hcd:(x == ("__classdict__":Str))=false:=by decide):PE X (.Name x pos) (Yh8 i):=Xn5▸Xf1 hN hv hd hcd
theorem ptcM {a b:Expr} {ta tb:TE} {pos:Pos} {op:CmpOp} {r:R2} (ho:OpR X (compareOp op) r) (ha:PE X a ta) (hb:PE X b tb) (h:op≠.In:=by decide) (h2:op≠.NotIn:=by decide):PT X (.Compare a [op] [b] pos) (Zp1 (tOp r ta tb)):=Yh9▸Yo8 ho ha hb (Zy5 _ h h2)
theorem Ye6 {a b:Expr} {ta tb:TE} {pos:Pos} {op:CmpOp} {r:R2} (ho:OpR X (compareOp op) r) (ha:PE X a ta) (hb:PE X b tb) (hm:behindInMarks op b=false):PT X (.Compare a [op] [b] pos) (Zp1 (tOp r ta tb)):=Yh9▸Yo8 ho ha hb hm
theorem Zd3:OpR X (binaryOp .Add) (rI0M fun i j=>.int (i+j)):=Zs5▸Wf0
theorem Zo5:OpR X (binaryOp .Sub) (rI0M fun i j=>.int (i - j)):=Zs5▸We6
theorem Zt0:OpR X (binaryOp .Mult) (rIM CMul fun i j=>.int (i*j)):=Xe3▸We7
theorem Ze6:OpR X (binaryOp .FloorDiv) (rIM CDiv fun i j=>.int (i / j)):=Xe3▸Xx2
theorem Zd0:OpR X (binaryOp .Mod) (rIM (fun _ j=>0 < j) fun i j=>.int (i % j)):=Xe3▸We8
theorem Yv0:OpR X (compareOp .Lt) (rI0M fun i j=>.bl (decide (i < j))):=Zs5▸Wl8
theorem We9:OpR X (compareOp .LtE) (rI0M fun i j=>.bl (decide (i≤j))):=Zs5▸Wl9
theorem Yv1:OpR X (compareOp .Gt) (rI0M fun i j=>.bl (decide (j < i))):=Zs5▸Wm0
theorem Yv2:OpR X (compareOp .GtE) (rI0M fun i j=>.bl (decide (j≤i))):=Zs5▸Wm1
end
section
variable {α β:Type} {a b:α} {l m:List α} {n:Nat}
theorem zmc {f:α→β}:(a :: l).map f=f a :: l.map f:=rfl
theorem zmn {f:α→β}:([]:List α).map f=[]:=rfl
theorem zlc:(a :: l).length=l.length+1:=rfl
theorem zln:([]:List α).length=0:=rfl
theorem zca:(a :: l)++m=a :: (l++m):=rfl
theorem zna:[]++m=m:=rfl
theorem zrs:List.replicate (n+1) a=a :: List.replicate n a:=rfl
theorem zrz:List.replicate 0 a=[]:=rfl
theorem zg0:(a :: l)[0]?=some a:=rfl
theorem zgs:(a :: l)[n+1]?=l[n]?:=rfl
theorem zgn:([]:List α)[n]?=none:=rfl
theorem zs0:(a :: l).set 0 b=b :: l:=rfl
theorem zss:(a :: l).set (n+1) b=a :: l.set n b:=rfl
theorem zjs {x:Option α}:(some x).join=x:=rfl
theorem zjn:(none:Option (Option α)).join=none:=rfl
end
end L2
namespace KLaw
noncomputable abbrev pg:=PySem.Challenge.pw_ken_k55_same_whichever_first
open PySem L2 Ken
noncomputable def ask:Hd.Ask:=⟨[28,29,30,31,32,33,34,35,36,37,38,39,40,41,42,43,21,23,6,7,8,9,14,15,11,12,22,25,24,26,44],[],[],[],[Str.ofString "len",Str.ofString "range",Str.ofString "max",Str.ofString "isinstance",Str.ofString "tuple",Str.ofString "int",Str.ofString "bool",Str.ofString "enumerate",Str.ofString "reversed",Str.ofString "list",Str.ofString "zip",Str.ofString "sorted"]⟩
noncomputable def cask:Hd.ClsAsk:=⟨[1,2,3],[(2,1),(3,1)],[]⟩
noncomputable def mask:Hd.MoreAsk:=⟨[],[(Str.ofString "MOST_PARTS",1000),(Str.ofString "MOST_DEEP",120),(Str.ofString "MOST_STEPS",150)]⟩
noncomputable def tas:List Nat:=[9,14,15,12,25]
noncomputable def q:Program:=W.view pg [1,2,3,5,6,7,8,9,11,12,14,15,17,18,19,20,21,22,23,24,25,26,28,29,30,31,32,33,34,35,36,37,38,39,40,41,42,43,44]
noncomputable def loose:List Str:=[Str.ofString "INNER",Str.ofString "TURNING"]
open PySem.W.Fast
theorem h1 (w:World):(fun os=>Hd.pre pg w os)=fun os=>Hd.preTo pg w os:=by
 rw[hdPre_eq,hdPreTo_eq]
 kernel_rfl
theorem h2 (w:World):(fun os=>Hd.blk pg w os)=fun os=>Hd.blkTo pg w os:=by
 rw[hdBlk_eq,hdBlkTo_eq]
 kernel_rfl
theorem h3fA (w:World):(fun os=>Hd.evA pg 1979 ⟨253,0,273,63⟩ (World.withFollow w "special-get-raises" false) os)=fun _=>Hd.evATo pg ⟨253,0,273,63⟩:=by
 rw[hdEvA_eq]
 kernel_rfl
theorem h3fB (w:World):(fun os=>Hd.evB pg q loose [] 1979 ⟨253,0,273,63⟩ (World.withFollow w "special-get-raises" false) os)=fun _=>Hd.evBTo q:=by
 rw[hdEvB_eq]
 kernel_rfl
theorem h3fD (w:World):(fun os=>Hd.evD pg q loose [] 1979 ⟨253,0,273,63⟩ (World.withFollow w "special-get-raises" false) os)=fun _=>Hd.evDTo q loose:=by
 rw[hdEvD_eq,hdEvDTo_eq]
 kernel_rfl
theorem h3fC (w:World):(fun os=>Hd.evC pg (Hd.obs9 pg ask cask mask tas) 1979 ⟨253,0,273,63⟩ (World.withFollow w "special-get-raises" false) os)=fun _=>Hd.evCTo (Hd.val9 pg ask mask) (World.withFollow w "special-get-raises" false):=by
 rw[hdEvC_eq,hdObs9_eq,hdVal9_eq]
 kernel_rfl
theorem h3f (w:World):(fun os=>Hd.ev pg q loose [] (Hd.obs9 pg ask cask mask tas) 1979 ⟨253,0,273,63⟩ (World.withFollow w "special-get-raises" false) os)=fun _=>Hd.evTo pg q loose (Hd.val9 pg ask mask) ⟨253,0,273,63⟩ (World.withFollow w "special-get-raises" false) :=
 Hd.ev_of (h3fA w) (h3fB w) (h3fD w) (h3fC w)
theorem h3tA (w:World):(fun os=>Hd.evA pg 1979 ⟨253,0,273,63⟩ (World.withFollow w "special-get-raises" true) os)=fun _=>Hd.evATo pg ⟨253,0,273,63⟩:=by
 rw[hdEvA_eq]
 kernel_rfl
theorem h3tB (w:World):(fun os=>Hd.evB pg q loose [] 1979 ⟨253,0,273,63⟩ (World.withFollow w "special-get-raises" true) os)=fun _=>Hd.evBTo q:=by
 rw[hdEvB_eq]
 kernel_rfl
theorem h3tD (w:World):(fun os=>Hd.evD pg q loose [] 1979 ⟨253,0,273,63⟩ (World.withFollow w "special-get-raises" true) os)=fun _=>Hd.evDTo q loose:=by
 rw[hdEvD_eq,hdEvDTo_eq]
 kernel_rfl
theorem h3tC (w:World):(fun os=>Hd.evC pg (Hd.obs9 pg ask cask mask tas) 1979 ⟨253,0,273,63⟩ (World.withFollow w "special-get-raises" true) os)=fun _=>Hd.evCTo (Hd.val9 pg ask mask) (World.withFollow w "special-get-raises" true):=by
 rw[hdEvC_eq,hdObs9_eq,hdVal9_eq]
 kernel_rfl
theorem h3t (w:World):(fun os=>Hd.ev pg q loose [] (Hd.obs9 pg ask cask mask tas) 1979 ⟨253,0,273,63⟩ (World.withFollow w "special-get-raises" true) os)=fun _=>Hd.evTo pg q loose (Hd.val9 pg ask mask) ⟨253,0,273,63⟩ (World.withFollow w "special-get-raises" true) :=
 Hd.ev_of (h3tA w) (h3tB w) (h3tD w) (h3tC w)
theorem h3 (w:World):(fun os=>Hd.ev pg q loose [] (Hd.obs9 pg ask cask mask tas) 1979 ⟨253,0,273,63⟩ w os)=fun _=>Hd.evTo pg q loose (Hd.val9 pg ask mask) ⟨253,0,273,63⟩ w :=
 W.byRow2 "special-get-raises" (P:=fun w=>(fun os=>Hd.ev pg q loose [] (Hd.obs9 pg ask cask mask tas) 1979 ⟨253,0,273,63⟩ w os)=fun _=>Hd.evTo pg q loose (Hd.val9 pg ask mask) ⟨253,0,273,63⟩ w) h3f h3t w
theorem lft:W.LeftO pg q loose (fun s=>W.xlAt q [] s&&W.recOk [] s) (Hd.hook9 pg ask cask mask tas).obs (Hd.hook9 pg ask cask mask tas).val 4082 :=
 Hd.left (by kernel_rfl) rfl (fun s=>by kernel_rfl) h1 h2 h3 rfl
theorem Zt1:Hd.nm (Hd.stAt pg 9)="changed":=by kernel_rfl
theorem Yx5 (K:W.Frag):(Hd.tabs pg tas K).getD 0 0=Hd.tabAt K "changed":=congrArg (Hd.tabAt K) Zt1
theorem Yx3 (K:W.Frag):Hd.tabAt K "changed"∈Hd.tabs pg tas K:=Zt1▸(.head _)
theorem Zy8:Hd.nm (Hd.stAt pg 14)="lifted":=by kernel_rfl
theorem Xc5 (K:W.Frag):(Hd.tabs pg tas K).getD 1 0=Hd.tabAt K "lifted":=congrArg (Hd.tabAt K) Zy8
theorem Xc3 (K:W.Frag):Hd.tabAt K "lifted"∈Hd.tabs pg tas K:=Zy8▸(.tail _ (.head _))
theorem Xg1:Hd.nm (Hd.stAt pg 15)="put":=by kernel_rfl
theorem Wb4 (K:W.Frag):(Hd.tabs pg tas K).getD 2 0=Hd.tabAt K "put":=congrArg (Hd.tabAt K) Xg1
theorem Wb3 (K:W.Frag):Hd.tabAt K "put"∈Hd.tabs pg tas K:=Xg1▸(.tail _ (.tail _ (.head _)))
theorem Zm7:Hd.nm (Hd.stAt pg 12)="term_deep":=by kernel_rfl
theorem Yh7 (K:W.Frag):(Hd.tabs pg tas K).getD 3 0=Hd.tabAt K "term_deep":=congrArg (Hd.tabAt K) Zm7
theorem Yh6 (K:W.Frag):Hd.tabAt K "term_deep"∈Hd.tabs pg tas K:=Zm7▸(.tail _ (.tail _ (.tail _ (.head _))))
theorem Zy7:Hd.nm (Hd.stAt pg 25)="turned":=by kernel_rfl
theorem Xc4 (K:W.Frag):(Hd.tabs pg tas K).getD 4 0=Hd.tabAt K "turned":=congrArg (Hd.tabAt K) Zy7
theorem Xc2 (K:W.Frag):Hd.tabAt K "turned"∈Hd.tabs pg tas K:=Zy7▸(.tail _ (.tail _ (.tail _ (.tail _ (.head _)))))
local macro_rules | `(tactic| walk_at "1")=>`(tactic| ((try dsimp only[Zw5,tKIn,Yn1,Yo6,rSlT,Yq3,Yq4,Yq1,Yp8,tFi,Yi0,Zt7,tIf,Zw4,Yd4,Yp7,kApp,kPut,tSeq,tAsg,Zv1,tVar,tC,tOp,rI0,rI,rU,tUn,tRet,tIfS,Ya5,tB,Xc7,Yi1,tNil,tCB,Ya6,tTup,tLst,Xv6,tAnd,tOr,tNot,Yn3,Yn0,tBM,tBM0,Zo1,rPop,rIxL,rIxT,rIxS,rCat,rEq,rNe,Yo5,tSl,rSlL,Ym9,Zn9,Yn2,tFs,tFc,tF0,tKD,rIsi,rEqD,Zw3,rIn,Yo4,gSub,Yq6,gTup,gLst,Xj2,gNil,Yq2,Yq5,iTup,L2.start,capt,zmc,zmn,zlc,zln,zca,zna,zrs,zrz,Nat.reduceAdd,Nat.reduceSub,Nat.add_zero,Nat.sub_zero,zg0,zgs,zgn,zs0,zss,zjs,zjn,Yc7,Zt5,Yy3,Zk4,Yc6,Zn5,Xa2,Xa3,Yh8,Zk0,Zp1,Xa6,Zn3,Zs4]);(try simp only[Zw5,tKIn,Yn1,Yo6,rSlT,Yq3,Yq4,Yq1,Yp8,tFi,Yi0,Zt7,tIf,Zw4,Yd4,Yp7,kApp,kPut,tSeq,tAsg,Zv1,tVar,tC,tOp,rI0,rI,rU,tUn,tRet,tIfS,Ya5,tB,Xc7,Yi1,tNil,tCB,Ya6,tTup,tLst,Xv6,tAnd,tOr,tNot,Yn3,Yn0,tBM,tBM0,Zo1,rPop,rIxL,rIxT,rIxS,rCat,rEq,rNe,Yo5,tSl,rSlL,Ym9,Zn9,Yn2,tFs,tFc,tF0,tKD,rIsi,rEqD,Zw3,rIn,Yo4,gSub,Yq6,gTup,gLst,Xj2,gNil,Yq2,Yq5,iTup,L2.start,capt,zmc,zmn,zlc,zln,zca,zna,zrs,zrz,Nat.reduceAdd,Nat.reduceSub,Nat.add_zero,Nat.sub_zero,zg0,zgs,zgn,zs0,zss,zjs,zjn,Yc7,Zt5,Yy3,Zk4,Yc6,Zn5,Xa2,Xa3,Yh8,Zk0,Zp1,Xa6,Zn3,Zs4,List.append_nil,Nat.zero_add,Option.some.injEq,V.int.injEq,V.str.injEq,V.ref.injEq,V.bl.injEq,V.ty.injEq,List.cons.injEq,and_true,true_and,exists_eq_left',exists_eq_left,exists_and_left,exists_eq,exists_eq',and_assoc,Ye3,Ye2,Yo1,decide_eq_true_eq,Xr3,Ye5,Yu0])))
local macro_rules | `(tactic| walk_at "2")=>`(tactic| ((try dsimp only[Zw5,tKIn,Yn1,Yo6,rSlT,Yq3,Yq4,Yq1,Yp8,tFi,Yi0,Zt7,tIf,Zw4,Yd4,Yp7,kApp,kPut,tFor,tLC,tVar,tC,tOp,rI0,rI,rU,tUn,Ya5,tB,Yi1,tNil,tCB,Ya6,tTup,tLst,tAnd,tOr,tNot,Yn3,Yn0,tBM,tBM0,Zo1,rPop,rIxL,rIxT,rIxS,rCat,rEq,rNe,Yo5,tSl,rSlL,Ym9,Zn9,Yn2,tFs,tFc,tF0,tKD,rIsi,rEqD,Zw3,rIn,Yo4,Yq6,Yq2,Yq5,iTup,L2.start,capt,zmc,zmn,zlc,zln,zca,zna,zrs,zrz,Nat.reduceAdd,Nat.reduceSub,Nat.add_zero,Nat.sub_zero,zg0,zgs,zgn,zs0,zss,zjs,zjn,Yc7,Zt5,Yy3,Zk4,Yc6,Zn5,Xa2,Xa3,Yh8,Zk0,Zp1,Xa6,Zn3,Zs4]);(try simp only[Zw5,tKIn,Yn1,Yo6,rSlT,Yq3,Yq4,Yq1,Yp8,tFi,Yi0,Zt7,tIf,Zw4,Yd4,Yp7,kApp,kPut,tFor,tLC,tVar,tC,tOp,rI0,rI,rU,tUn,Ya5,tB,Yi1,tNil,tCB,Ya6,tTup,tLst,tAnd,tOr,tNot,Yn3,Yn0,tBM,tBM0,Zo1,rPop,rIxL,rIxT,rIxS,rCat,rEq,rNe,Yo5,tSl,rSlL,Ym9,Zn9,Yn2,tFs,tFc,tF0,tKD,rIsi,rEqD,Zw3,rIn,Yo4,Yq6,Yq2,Yq5,iTup,L2.start,capt,zmc,zmn,zlc,zln,zca,zna,zrs,zrz,Nat.reduceAdd,Nat.reduceSub,Nat.add_zero,Nat.sub_zero,zg0,zgs,zgn,zs0,zss,zjs,zjn,Yc7,Zt5,Yy3,Zk4,Yc6,Zn5,Xa2,Xa3,Yh8,Zk0,Zp1,Xa6,Zn3,Zs4,List.append_nil,Nat.zero_add,Option.some.injEq,V.int.injEq,V.str.injEq,V.ref.injEq,V.bl.injEq,V.ty.injEq,List.cons.injEq,and_true,true_and,exists_eq_left',exists_eq_left,exists_and_left,exists_eq,exists_eq',and_assoc,Ye3,Ye2,Yo1,decide_eq_true_eq,Xr3,Ye5,Yu0])))
local macro_rules | `(tactic| walk_at "3")=>`(tactic| ((try dsimp only[Zw5,tKIn,Yn1,Yo6,rSlT,Yq3,Yq4,Yq1,Yp8,tFi,Zt7,tIf,Zw4,Yd4,Yp7,kApp,kPut,Zv1,tVar,tC,tOp,rI0,rI,rU,tUn,tIfS,Ya5,tB,Xc7,Yi1,tNil,tCB,Ya6,tTup,tLst,tAnd,tOr,tNot,Yn3,Yn0,tBM,tBM0,Zo1,rPop,rIxL,rIxT,rIxS,rCat,rEq,rNe,Yo5,tSl,rSlL,Ym9,Zn9,Yn2,tFs,tFc,tF0,tKD,rIsi,rEqD,Zw3,rIn,Yo4,gSub,Yq6,gTup,gLst,Xj2,gNil,Yq2,Yq5,iTup,L2.start,capt,zmc,zmn,zlc,zln,zca,zna,zrs,zrz,Nat.reduceAdd,Nat.reduceSub,Nat.add_zero,Nat.sub_zero,zg0,zgs,zgn,zs0,zss,zjs,zjn,Yc7,Zt5,Yy3,Zk4,Yc6,Zn5,Xa2,Xa3,Yh8,Zk0,Zp1,Xa6,Zn3,Zs4]);(try simp only[Zw5,tKIn,Yn1,Yo6,rSlT,Yq3,Yq4,Yq1,Yp8,tFi,Zt7,tIf,Zw4,Yd4,Yp7,kApp,kPut,Zv1,tVar,tC,tOp,rI0,rI,rU,tUn,tIfS,Ya5,tB,Xc7,Yi1,tNil,tCB,Ya6,tTup,tLst,tAnd,tOr,tNot,Yn3,Yn0,tBM,tBM0,Zo1,rPop,rIxL,rIxT,rIxS,rCat,rEq,rNe,Yo5,tSl,rSlL,Ym9,Zn9,Yn2,tFs,tFc,tF0,tKD,rIsi,rEqD,Zw3,rIn,Yo4,gSub,Yq6,gTup,gLst,Xj2,gNil,Yq2,Yq5,iTup,L2.start,capt,zmc,zmn,zlc,zln,zca,zna,zrs,zrz,Nat.reduceAdd,Nat.reduceSub,Nat.add_zero,Nat.sub_zero,zg0,zgs,zgn,zs0,zss,zjs,zjn,Yc7,Zt5,Yy3,Zk4,Yc6,Zn5,Xa2,Xa3,Yh8,Zk0,Zp1,Xa6,Zn3,Zs4,List.append_nil,Nat.zero_add,Option.some.injEq,V.int.injEq,V.str.injEq,V.ref.injEq,V.bl.injEq,V.ty.injEq,List.cons.injEq,and_true,true_and,exists_eq_left',exists_eq_left,exists_and_left,exists_eq,exists_eq',and_assoc,Ye3,Ye2,Yo1,decide_eq_true_eq,Xr3,Ye5,Yu0])))
noncomputable def top (i:Nat):Stmt:=pg.main.body.getD i (.Pass ⟨0,0,0,0⟩)
theorem sc_ao0:FnScope ["_law_cell_here","_law_k","_law_first"] ["_law_cell_here","_law_k"] (Za3 (top 28)):=scm (by decide +kernel)
theorem sc_af0:FnScope ["_law_script","_law_k","_law_cell_here"] ["_law_script","_law_k"] (Za3 (top 29)):=scm (by decide +kernel)
theorem sc_at0:FnScope ["_law_cell_here","_law_many","_law_some","_law_size","_law_at","_law_start"] ["_law_cell_here","_law_many"] (Za3 (top 30)):=scm (by decide +kernel)
theorem Wc8:FnScope ["_law_cell_here","_law_words_here"] ["_law_cell_here","_law_words_here"] (Za3 (top 31)):=scm (by decide +kernel)
theorem sc_as0:FnScope ["_law_cell_here","_law_size","_law_words_here","_law_rest","_law_few","_law_one_here","_law_other"] ["_law_cell_here","_law_size","_law_words_here"] (Za3 (top 32)):=scm (by decide +kernel)
section
variable {P:Program} {w:World} {K:W.Frag} {mg:Str→Option Value} {base:Heap}
theorem Xs9 {k:Nat} {f_ao0:Addr} {fd_ao0:FuncData} (F_ao0:Fun K "_law_mix" "_law_mix" (top 28) f_ao0 fd_ao0):Fk0 P w K mg base (k+1) f_ao0 fd_ao0 pq0 Zp6:=by
 refine F_ao0.ok sc_ao0 (fun vs H Q E h=>?_) (fun cdv A outer s H vs Q E hr h=>?_)
 ·obtain⟨c,k,rfl,_⟩:=h
  rfl
 obtain⟨c,k,rfl,h0,h1,q⟩:=h
 refine⟨_,(Za4 (pst 2 sc_ao0.nd (Zb8 Zd0 (Zb8 Zt0 (Zb8 Zd3 (pvM 0) Za2) (Zb8 Zd3 Za2 (Zb8 Zt0 Za2 (pvM 1)))) Za2))
 (Za7 (Zb2 (Zb8 Zd0 (Zb8 Zd3 (Zb8 Zd3 (Zb8 Zt0 (Zb8 Ze6 (pvM 2) Za2) Za2) (Zb8 Zt0 (pvM 2) (Zb8 Zd3 (Zb8 Zt0 (pvM 1) (pvM 1)) Za2))) (pvM 1)) Za2)))),?_⟩
 walk_at "1";have a0:0≤(c+1)*(48271+118*k) % 2147483629:=Int.emod_nonneg _ (by decide);have a1:(c+1)*(48271+118*k) % 2147483629 < 2147483629:=Int.emod_lt_of_pos _ (by decide);refine⟨Yf8 (by decide) (by decide),Yj9 (by walk_at "o") (by walk_at "o"),by decide,⟨by decide,by decide⟩,Yj9 (by decide) (by decide),Yf8 (by walk_at "o") (by walk_at "o"),Yf8 (by walk_at "o") (by walk_at "o"),by decide,?_⟩;exact q
theorem Wh6 {k:Nat} {f_af0:Addr} {fd_af0:FuncData} (F_af0:Fun K "_law_cell" "_law_cell" (top 29) f_af0 fd_af0) (C__law_mix:Cl P w K mg base k "_law_mix" pq0 (Zp6)) (m_len:mg "len"=none):Fk0 P w K mg base (k+1) f_af0 fd_af0 pq9 (Zx5 K):=by
 refine F_af0.ok sc_af0 (fun vs H Q E h=>?_) (fun cdv A outer s H vs Q E hr h=>?_)
 ·obtain⟨a,ns,k,rfl,_⟩:=h
  rfl
 obtain⟨a,ns,j,rfl,hS,h63,h0,h1,q⟩:=h
 refine⟨_,(Za4 (pst 2 sc_af0.nd Za2)
 (Za4 (Zd7 (ptcM (Yv0) (pvM 1) (Zd2 Zc3 (by exact rfl) m_len Zf0 (Za0 (pvM 0) Za1)))
  (Za7 (pst 2 sc_af0.nd (Zb8 Zd0 (pxl (pvM 0) (pvM 1)) Za2)))
  Zb4)
 (Za7 (Zb2 (Zd1 C__law_mix hr (Za0 (pvM 2) (Za0 (Zb8 Zd3 (pvM 1) Za2) Za1))))))),?_⟩
 walk_at "1";refine⟨_,.inl hS,?_⟩;rw[List.length_map];have e:cellOf ns j=mix (if j < (ns.length:Int) then (ns[j.toNat]?.getD 0) % 2147483647 else 0) (j+101):=rfl;refine ite2 (fun c=>?_) (fun c=>?_)
 ·rw[if_pos c] at e
  have hj:j.toNat < ns.length:=by walk_at "o"
  refine⟨_,hS,V.int (ns[j.toNat]),?_,_,rfl,by decide,?_⟩
  ·have ej:j=((j.toNat:Nat):Int):=by walk_at "o"
   have q:atI (ns.map V.int) ((j.toNat:Nat):Int)=some (.int ns[j.toNat]):=Zb9 (by rw[List.getElem?_map,List.getElem?_eq_getElem hj]<;>rfl);rw[← ej] at q;exact q
  ·rw[List.getElem?_eq_getElem hj] at e
   rw[e] at q;exact⟨_,_,rfl,by walk_at "o",by walk_at "o",q⟩
 ·rw[if_neg c] at e
  rw[e] at q;exact⟨_,_,rfl,by walk_at "o",by walk_at "o",q⟩
theorem Xt0 {k:Nat} {f_am0:Addr} {fd_am0:FuncData} (F_am0:Fun K "_law_leaf" "_law_leaf" (top 31) f_am0 fd_am0) (m_len:mg "len"=none):Fk0 P w K mg base (k+1) f_am0 fd_am0 pq3 (Yn5 K):=by
 refine F_am0.ok Wc8 (fun vs H Q E h=>?_) (fun cdv A outer s H vs Q E hr h=>?_)
 ·obtain⟨a,ns,k,rfl,_⟩:=h
  rfl
 obtain⟨c,wa,ws,rfl,hS,hw,q⟩:=h
 refine⟨_,(Za4 (Zd7 (ptcM (Zf2) (Zb8 Zd0 (pvM 0) Za2) Za2)
  (Za7 (Zb2 (Zb1 (Za0 Za8 Za1))))
  Zb4)
 (Za7 (Zb2 (Zb1 (Za0 Za8 (Za0 (pxl (pvM 1) (Zb8 Zd0 (Zb8 Ze6 (pvM 0) Za2) (Zd2 Zc3 (by exact rfl) m_len Zf0 (Za0 (pvM 1) Za1)))) Za1)))))),?_⟩
 walk_at "1";refine⟨by decide,ite2 (fun _=>?_) (fun _=>?_)⟩
 ·exact⟨by decide,fun p hp=>q _ _ _ (Za6 hp _) (Yv7 ws hp)⟩
 ·have hl:((ws.map V.str).length:Int)=ws.length:=by rw[List.length_map]
  have h2:=hw.1;refine⟨⟨by decide,by decide⟩,_,.inl hS,by rw[hl];walk_at "o",_,hS,?_⟩;rw[hl];obtain⟨v,hv,e⟩:=Wa3 (xs:=ws.map V.str) (i:=c / 6 % (ws.length:Int)) (Int.emod_nonneg _ (by walk_at "o")) (by rw[hl];exact Int.emod_lt_of_pos _ (by walk_at "o"));obtain⟨x,hx,rfl⟩:=List.mem_map.mp hv;exact⟨_,e,by decide,fun p hp=>q _ _ _ (Za6 hp _) (Xp3 hx hp)⟩
theorem Wg5 {k n:Nat} {f_as0:Addr} {fd_as0:FuncData} (F_as0:Fun K "_law_statement" "_law_statement" (top 32) f_as0 fd_as0) (G_as0:Fk0 P w K mg base k f_as0 fd_as0 pq2 (Zp5 K n)) (m_as0:MgI mg "_law_statement" f_as0) (k_as0:KpI K f_as0) (b_as0:Binds K fd_as0 pq2 []) (C__law_mix:Cl P w K mg base k "_law_mix" pq0 (Zp6)) (C__law_leaf:Cl P w K mg base k "_law_leaf" pq3 (Yn5 K)):Fk0 P w K mg base (k+1) f_as0 fd_as0 pq2 (Zp5 K (n+1)):=by
 refine F_as0.ok sc_as0 (fun vs H Q E h=>?_) (fun cdv A outer s H vs Q E hr h=>?_)
 ·obtain⟨c,size,wa,ws,rfl,_⟩:=h
  rfl
 obtain⟨c,size,wa,ws,rfl,hc0,h0,h1,hn,hS,hw,q⟩:=h
 refine⟨_,(Za4 (Zd7 (ptcM (Yv0) (pvM 1) Za2)
  (Za7 (Zb2 (Zd1 C__law_leaf hr (Za0 (Zb8 Ze6 (pvM 0) Za2) (Za0 (pvM 2) Za1)))))
  Zb4)
 (Za4 (Zd7 ((Xs1 (ptcM (Yv0) (pvM 1) Za2) (Xe4 (ptcM (Zf2) (Zb8 Zd0 (Zb8 Ze6 (pvM 0) Za2) Za2) Za2)))).pt
  (Za7 (Zb2 (Zb1 (Za0 Za8 (Za0 (pcl G_as0 hr m_as0 k_as0 b_as0 (Za0 (Zd1 C__law_mix hr (Za0 (pvM 0) (Za0 Za2 Za1))) (Za0 (Zb8 Zo5 (pvM 1) Za2) (Za0 (pvM 2) Za1)))) (Za0 (Zb1 (Za0 Za8 Za1)) Za1))))))
  Zb4)
 (Za4 (pst 3 sc_as0.nd (Zb8 Zo5 (pvM 1) Za2))
 (Za4 (pst 4 sc_as0.nd (Zb8 Zd3 Za2 (Zb8 Zd0 (Zd1 C__law_mix hr (Za0 (pvM 0) (Za0 Za2 Za1))) (Zb8 Zo5 (pvM 3) Za2))))
 (Za4 (Zd7 (ptcM (Yv2) (pvM 1) Za2)
  (Za7 (pst 4 sc_as0.nd (Zb8 Zd3 (Zb8 Ze6 (pvM 3) Za2) (Zb8 Zd0 (Zd1 C__law_mix hr (Za0 (pvM 0) (Za0 Za2 Za1))) (Zb8 Ze6 (pvM 3) Za2)))))
  Zb4)
 (Za4 (pst 5 sc_as0.nd (pcl G_as0 hr m_as0 k_as0 b_as0 (Za0 (Zd1 C__law_mix hr (Za0 (pvM 0) (Za0 Za2 Za1))) (Za0 (pvM 4) (Za0 (pvM 2) Za1)))))
 (Za4 (pst 6 sc_as0.nd (pcl G_as0 hr m_as0 k_as0 b_as0 (Za0 (Zd1 C__law_mix hr (Za0 (pvM 0) (Za0 Za2 Za1))) (Za0 (Zb8 Zo5 (pvM 3) (pvM 4)) (Za0 (pvM 2) Za1)))))
 (Za7 (Zb2 (Zb1 (Za0 (pxl (Zf9 (Za0 Za8 (Za0 Za8 (Za0 Za8 (Za0 Za8 Za1))))) (Zb8 Zd0 (pvM 0) Za2)) (Za0 (pvM 5) (Za0 (pvM 6) Za1))))))))))))),?_⟩
 walk_at "1";have h2:=hw.1
 have tail:∀ (few:Int),1≤few→few≤size - 2→rk few < rk size→rk (size - 1 - few) < rk size →
   Zp6 [V.int c,V.int 3] H (fun x H1=>Zp5 K n [x,V.int few,V.ref wa] H1 (fun x H1=>Zp6 [V.int c,V.int 4] H1 (fun x_1 H1=>Zp5 K n [x_1,V.int (size - 1 - few),V.ref wa] H1 (fun x_2 H1 =>
    4≤sizeLine∧∀ (p:Addr),H1 p=none→(0:Int) < 4∧∃ x_3,SqL K (upd H1 p (.lst [V.str "both",V.str "one",V.str "then",V.str "then"])) p x_3∧∃ x_4,atI x_3 (c % 4)=some x_4∧3≤sizeLine ∧
     ∀ (p_1:Addr),upd H1 p (.lst [V.str "both",V.str "one",V.str "then",V.str "then"]) p_1=none→Q (V.ref p_1) (upd (upd H1 p (.lst [V.str "both",V.str "one",V.str "then",V.str "then"])) p_1 (.tup [x_4,x,x_2]))) E0) E0) E0) E0:=by
  intro few f1 f2 r1 r2;refine⟨_,_,rfl,by decide,by decide,?_⟩;refine⟨_,_,_,ws,rfl,Zy9 _ _,by walk_at "o",by walk_at "o",by walk_at "o",hS,hw,fun x H1 a e1 m1=>?_⟩;refine⟨_,_,rfl,by decide,by decide,?_⟩;refine⟨_,_,_,ws,rfl,Zy9 _ _,by walk_at "o",by walk_at "o",by walk_at "o",e1.seq hS,hw,fun y H2 b e2 m2=>?_⟩;refine⟨by decide,fun p hp=>⟨by decide,_,.inl (.inl Za5),_,Wk4 (Int.emod_nonneg _ (by decide)) (Int.emod_lt_of_pos _ (by decide)),by decide,fun p1 hp1=>?_⟩⟩;have k3:KeepT K H2 (upd H2 p (.lst [V.str "both",V.str "one",V.str "then",V.str "then"])):=Zd4 hp;have m1':=m1.mono (e2.keepT.trans k3) (Nat.le_refl _) (Nat.le_refl _);have m2':=m2.mono k3 (Nat.le_refl _) (Nat.le_refl _);refine q _ _ _ (((e1.trans e2).trans (Za6 hp _)).trans (Za6 hp1 _)) ((Xg7 m1' m2' hp1).mono (KeepT.refl _) (by walk_at "o") (by walk_at "o"))
 refine ite2 (fun c3=>?_) (fun c3=>?_)
 ·exact⟨⟨by decide,by decide⟩,_,_,ws,rfl,hS,hw,fun r H' t e m=>q r H' t e (m.mono (KeepT.refl _) (by walk_at "o") (by walk_at "o"))⟩
 have d4:CDiv c 4:=⟨by decide,by decide⟩;have b4:CDiv (size - 1) 4:=⟨by decide,by decide⟩;have b2:CDiv (size - 1) 2:=⟨by decide,by decide⟩
 have small:size < 40→∀ m:Int,rk (1+m % (size - 1 - 1)) < rk size∧rk (size - 1 - (1+m % (size - 1 - 1))) < rk size∧1≤1+m % (size - 1 - 1)∧1+m % (size - 1 - 1)≤size - 2:=fun c40 m=>by
  have b0:=Int.emod_nonneg m (show size - 1 - 1≠0 by walk_at "o");have b1:=Int.emod_lt_of_pos m (show 0 < size - 1 - 1 by walk_at "o");exact⟨Xd9 (by walk_at "o") c40 (by walk_at "o"),Xd9 (by walk_at "o") c40 (by walk_at "o"),by walk_at "o",by walk_at "o"⟩
 refine ite2 (fun c40=>?_) (fun c40=>?_)
 ·refine⟨d4,by decide,ite2 (fun c0=>?_) (fun c0=>?_)⟩
  ·refine⟨_,_,rfl,by decide,by decide,?_⟩
   have r0:=Wd3 (by walk_at "o") c40;refine⟨_,_,_,ws,rfl,Zy9 _ _,by walk_at "o",by walk_at "o",by walk_at "o",hS,hw,fun x H1 a e1 m1=>?_⟩;refine⟨by decide,fun p hp=>⟨by decide,fun p1 hp1=>?_⟩⟩;have m1':=m1.mono (Zd4 (o:=.tup [V.str "low"]) hp) (Nat.le_refl _) (Nat.le_refl _);refine q _ _ _ ((e1.trans (Za6 hp _)).trans (Za6 hp1 _)) ((Xg7 (k:=.thn) m1' (Yv7 ws hp) hp1).mono (KeepT.refl _) (by walk_at "o") (by walk_at "o"))
  ·refine⟨_,_,rfl,by decide,by decide,_,rfl,by walk_at "o",ite2 (fun c41=>by walk_at "o") (fun c41=>?_)⟩
   obtain⟨r1,r2,f1,f2⟩:=small c40 (mix c 2);exact tail _ f1 f2 r1 r2
 ·refine⟨_,_,rfl,by decide,by decide,_,rfl,by walk_at "o",ite2 (fun c41=>?_) (fun c41=>by walk_at "o")⟩
  refine⟨b4,_,_,rfl,by decide,by decide,b2,_,rfl,by walk_at "o",?_⟩;have g0:=Int.emod_nonneg (mix c 2) (show (size - 1) / 2≠0 by walk_at "o");have g1:=Int.emod_lt_of_pos (mix c 2) (show 0 < (size - 1) / 2 by walk_at "o");exact tail _ (by walk_at "o") (by walk_at "o") (Xs0 (by walk_at "o") h1 (by walk_at "o")) (Xs0 (by walk_at "o") h1 (by walk_at "o"))
theorem Xn6 {f:Addr} {fd:FuncData} {ps:List Str} {k:Nat}:Fk0 P w K mg base k f fd ps (Zp5 K 0):=by
 have no:∀ vs H Q E,¬ Zp5 K 0 vs H Q E:=fun vs H Q E h=>by
  obtain⟨c,size,wa,ws,_,_,_,_,hn,_⟩:=h;exact absurd hn (Nat.not_lt_zero _)
 exact⟨fun vs H Q E h=>absurd h (no vs H Q E),fun A outer s H args us vs Q E _ _ _ _ h=>absurd h (no vs H Q E)⟩
theorem Xm4 {f_as0:Addr} {fd_as0:FuncData} (F_as0:Fun K "_law_statement" "_law_statement" (top 32) f_as0 fd_as0) (m_as0:MgI mg "_law_statement" f_as0) (b_as0:Binds K fd_as0 pq2 [])
  {f_ao0:Addr}{fd_ao0:FuncData}(G_ao0:∀ k,Fk0 P w K mg base (k+1) f_ao0 fd_ao0 pq0 Zp6)(m_ao0:MgI mg "_law_mix" f_ao0)(k_ao0:KpI K f_ao0)(b_ao0:Binds K fd_ao0 pq0 [])
  {f_am0:Addr}{fd_am0:FuncData}(G_am0:∀ k,Fk0 P w K mg base (k+1) f_am0 fd_am0 pq3 (Yn5 K))(m_am0:MgI mg "_law_leaf" f_am0)(k_am0:KpI K f_am0)(b_am0:Binds K fd_am0 pq3 []) :
  ∀ n:Nat,Fk0 P w K mg base (n+1) f_as0 fd_as0 pq2 (Zp5 K n)
 | 0=>Xn6
 | n+1=>Wg5 F_as0 (Xm4 F_as0 m_as0 b_as0 G_ao0 m_ao0 k_ao0 b_ao0 G_am0 m_am0 k_am0 b_am0 n) m_as0 F_as0.kp b_as0 (.of (G_ao0 n) m_ao0 k_ao0 b_ao0) (.of (G_am0 n) m_am0 k_am0 b_am0)
theorem sc_al0:FnScope ["_law_found","_law_term","_law_by","_law_own","_law_k","_law_front"] ["_law_found","_law_term","_law_by","_law_own"] (Za3 (top 41)):=scm (by decide +kernel)
theorem Wh0 {k n:Nat} {f_al0:Addr} {fd_al0:FuncData} (F_al0:Fun K "_law_is_lifted" "_law_is_lifted" (top 41) f_al0 fd_al0) (G_al0:Fk0 P w K mg base k f_al0 fd_al0 pq5 (Zj0 K n)) (m_al0:MgI mg "_law_is_lifted" f_al0) (k_al0:KpI K f_al0) (b_al0:Binds K fd_al0 pq5 []) (C__law_inner_of:Cl P w K mg base k "_law_inner_of" ["_law_term"] (Zx2 K)) (C__law_shaped:Cl P w K mg base k "_law_shaped" ["_law_found","_law_term"] (Zs2 K)) (C__law_is_at:Cl P w K mg base k "_law_is_at" ["_law_found","_law_number"] (Xd4 K)) (m_int:mg "int"=none):Fk0 P w K mg base (k+1) f_al0 fd_al0 pq5 (Zj0 K (n+1)):=by
 refine F_al0.ok sc_al0 (fun vs H Q E h=>?_) (fun cdv A outer s H vs Q E hr h=>?_)
 ·obtain⟨x,y,t,b,f,ws,rfl,_⟩:=h
  rfl
 obtain⟨x,y,t,b,f,ws,rfl,hX,hY,hf,hw,hd,q⟩:=h;obtain⟨px,xs,rfl,hsx,hdx⟩:=isE_view.mp hX;obtain⟨py,ys,rfl,hsy,hdy⟩:=isE_view.mp hY;have hy0:atI ys 0=some (.str t.tag):=Zb9 (Zl1 hdy)
 refine⟨_,(Za4 (Zd7 (ptcM (Zf2) (pxt (pvM 1) Za2) Za8)
  (Za7 (Zb2 (Zd1 C__law_is_at hr (Za0 (pvM 0) (Za0 (pxl (Zf9 (Za0 (pxt (pvM 1) Za2) (Za0 (Zb8 Zd3 (pxt (pvM 1) Za2) (pvM 2)) Za1))) (Zq2 Yl7 (by exact rfl) m_int Yg9 (Za0 (Zs8 (Yv2) (pxt (pvM 1) Za2) (pvM 3) (Zy5 _)) Za1))) Za1)))))
  Zb4)
 (Za4 (Zd7 (Zu0 (Zt9 (Zd1 C__law_shaped hr (Za0 (pvM 0) (Za0 (pvM 1) Za1)))))
  (Za7 (Zb2 Yf4))
  Zb4)
 (Za4 (Zm3 PassesOwn.never rfl (Yo9 (Zd1 C__law_inner_of hr (Za0 (pvM 1) Za1))) (Zy2 rfl (Zc6 (Zc2 (i:=4) sc_al0.nd rfl (Or.inl rfl)) (Zc6 (Zc2 (i:=5) sc_al0.nd rfl (Or.inl rfl)) Zi6)))
  (Za7 (Zd7 (Zu0 (Zt9 (pcl G_al0 hr m_al0 k_al0 b_al0 (Za0 (pxt (pvM 0) (pvM 4)) (Za0 (pxt (pvM 1) (pvM 4)) (Za0 (pvM 2) (Za0 (Zb8 Zd3 (pvM 3) (pvM 5)) Za1)))))))
  (Za7 (Zb2 Yf4))
  Zb4)))
 (Za7 (Zb2 Yf4))))),?_⟩
 by_cases ca:∃ k0,t=.at k0
 ·obtain⟨k0,rfl⟩:=ca
  obtain⟨p,e,hs⟩:=isE_atV.mp hY;cases e;walk_at "1";refine⟨_,hs,_,rfl,rfl,?_⟩;rw[if_pos (by rfl)];refine⟨_,hs,_,rfl,_,hs,_,rfl,_,rfl,by decide,fun p2 h2=>?_⟩;have s2:=Za6 h2 (.lst [.int (k0:Nat),.int ((k0:Int)+b)]);refine⟨_,s2.sqt hs,_,rfl,_,rfl,.inr ⟨_,SqL.of Za5,?_⟩⟩;have eX:IsE K H (.ref px) (.at (if f≤k0 then k0+b else k0)):=hX
  by_cases c:f≤k0
  ·rw[if_pos (by walk_at "o")]
   rw[if_pos c] at eX;exact⟨_,rfl,_,k0+b,rfl,IsE.keep eX s2.keepT,q _ s2⟩
  ·rw[if_neg (by walk_at "o")]
   rw[if_neg c] at eX;exact⟨_,rfl,_,k0,rfl,IsE.keep eX s2.keepT,q _ s2⟩
 ·have nat:∀ k0,t≠.at k0:=fun k0 z=>ca ⟨k0,z⟩
  refine sqt (fun σ' H'=>σ'=[some (.ref px),some (.ref py),some (.int (b:Nat)),some (.int (f:Nat)),none,none]∧H'=H) ?_ ?_
  ·intro C hC
   walk_at "1";refine⟨_,hsy,_,hy0,rfl,?_⟩;rw[if_neg (fun z=>ca (Xr7 (V.str.inj z)))];exact hC _ _ ⟨rfl,rfl⟩
  rintro σ1 H1 ⟨rfl,rfl⟩;refine sqt (fun σ' H'=>σ'=[some (.ref px),some (.ref py),some (.int (b:Nat)),some (.int (f:Nat)),none,none]∧Same H1 H') ?_ ?_
  ·intro C hC
   walk_at "1";refine⟨_,_,t,(Zh7 (t,f)).map (mpP (Zb5 b)),ws,rfl,?_,hY,by rw[List.length_map,Zr1],hf.top,hw,fun H' e=>?_⟩
   ·rw[← Xg4 (Zb5 b) (t,f) nat];exact hX
   ·exact⟨true,rfl,hC _ _ ⟨rfl,e⟩⟩
  rintro σ2 H2 ⟨rfl,e2⟩;refine sqt (fun σ' H'=>∃ x4 x5,σ'=[some (.ref px),some (.ref py),some (.int (b:Nat)),some (.int (f:Nat)),x4,x5]∧Same H1 H') ?_ ?_
  ·intro C hC
   walk_at "2";refine⟨_,t,rfl,IsE.keep hY e2.keepT,fun r H3 us e3 f3 h3 hu=>⟨r,rfl,⟨us,SqL.of h3⟩,?_⟩⟩;refine Xj7 (D:={ nx:=C,rt:=Q }) (xs:=us) (fun i σ' H'=>∃ x4 x5,σ'=[some (.ref px),some (.ref py),some (.int (b:Nat)),some (.int (f:Nat)),x4,x5]∧Same H3 H') ⟨none,none,rfl,Same.refl _⟩ (fun i σ' H' _ ⟨x4,x5,_,e⟩=>SqL.of (e _ _ h3)) (fun i u σ' H' hx ⟨x4,x5,e0,e⟩ N hN=>?_) (fun σ' H' ⟨x4,x5,e0,e⟩=>hC _ _ ⟨x4,x5,e0,(e2.trans e3).trans e⟩);subst e0;obtain⟨⟨pl,mo⟩,hr',bb,rfl,hsb⟩:=Ze3 hu hx;obtain⟨kd,g1,g2,g3⟩:=Wm3 (F:=Zb5 b) (f:=f) nat hr';obtain⟨ux,hux,dux⟩:=Zh5 hdx g3;obtain⟨uy,huy,duy⟩:=Zh5 hdy g2;have ko:=Wh8 hf g1;have eA:=(e2.trans e3).trans e;walk_at "1";refine⟨_,e.sqt hsb,rfl,_,_,rfl,_,_,rfl,rfl,?_⟩;refine⟨_,_,rfl,eA.sqt hsx,ux,Zb9 hux,_,_,rfl,eA.sqt hsy,uy,Zb9 huy,_,rfl,_,_,kd,b,f+mo,ws,rfl,IsE.keep dux eA.keepT,IsE.keep duy eA.keepT,ko.1,hw,by walk_at "o",fun H4 e4=>⟨true,rfl,hN _ _ ⟨_,_,rfl,e.trans e4⟩⟩⟩
  rintro σ3 H3 ⟨x4,x5,rfl,e3⟩;walk_at "1";exact q _ e3
theorem Yk0 {f:Addr} {fd:FuncData} {ps:List Str} {k:Nat} (hl:ps.length=4):Fk0 P w K mg base k f fd ps (Zj0 K 0):=by
 refine⟨fun vs H Q E h=>?_,fun A outer s H args us vs Q E hr e0 hb r hsp=>?_⟩
 ·obtain⟨x,y,t,b,f,ws,rfl,_⟩:=h
  exact hl.symm
 ·obtain⟨x,y,t,b,f,ws,_,_,_,_,_,hd,_⟩:=hsp
  exact absurd hd (by cases t<;>simp[Te.deep]<;>walk_at "o")
theorem Xm6 {k:Nat} {f_al0:Addr} {fd_al0:FuncData} (F_al0:Fun K "_law_is_lifted" "_law_is_lifted" (top 41) f_al0 fd_al0) (m_al0:MgI mg "_law_is_lifted" f_al0) (b_al0:Binds K fd_al0 pq5 []) (C__law_inner_of:Cl P w K mg base k "_law_inner_of" ["_law_term"] (Zx2 K)) (C__law_shaped:Cl P w K mg base k "_law_shaped" ["_law_found","_law_term"] (Zs2 K)) (C__law_is_at:Cl P w K mg base k "_law_is_at" ["_law_found","_law_number"] (Xd4 K)) (m_int:mg "int"=none) :
  ∀ n,Fk0 P w K mg base (k+n) f_al0 fd_al0 pq5 (Zj0 K n)
 | 0=>Yk0 rfl
 | n+1=>Wh0 (k:=k+n) F_al0 (Xm6 F_al0 m_al0 b_al0 C__law_inner_of C__law_shaped C__law_is_at m_int n) m_al0 F_al0.kp b_al0
   (C__law_inner_of.up (Nat.le_add_right _ _)) (C__law_shaped.up (Nat.le_add_right _ _)) (C__law_is_at.up (Nat.le_add_right _ _)) m_int
theorem sc_bc0:FnScope ["term","found","waiting","piece","front","place","more"] ["term"] (Za3 (top 6)):=scm (by decide +kernel)
noncomputable def sumE (ts:List Pf):Nat:=(ts.map fun p=>p.1.size).sum
theorem Zw6 (t:Pf) (ts:List Pf):sumE (t :: ts)=t.1.size+sumE ts:=by unfold sumE;rw[List.map_cons,List.sum_cons]
theorem Ys8 (a b:List Pf):sumE (a++b)=sumE a+sumE b:=by unfold sumE;rw[List.map_append,List.sum_append]
theorem Yi2 (p:Pf):sumE (Zh7 p)+1=p.1.size:=by
 obtain⟨t,f⟩:=p
 cases t<;>simp[sumE,Zh7,Te.kids,Te.size]<;>walk_at "o"
theorem size_pos (t:Te):1≤t.size:=by cases t<;>simp[Te.size]<;>walk_at "o"
theorem Yv8:∀ ts:List Pf,ts.length≤sumE ts
 | []=>Nat.le_refl _
 | t :: ts=>by
  rw[Zw6,List.length_cons];have:=Yv8 ts;have:=size_pos t.1;walk_at "o"
theorem Yp1 {K:W.Frag} {H H':Hp} (k:KeepT K H H') {us:List V} {ts:List Pf} (h:Paired (IsPf K H) us ts):Paired (IsPf K H') us ts:=Paired.mapP h fun _ _ z=>z.keep k
theorem Xf9 {k:Nat} {f_bc0:Addr} {fd_bc0:FuncData} (F_bc0:Fun K "standing" "standing" (top 6) f_bc0 fd_bc0) {aINNER:Addr} {aT:Nat→Addr} (m_aa0:MgI mg "INNER" aINNER) (D_INNER:KDict K w aINNER (innV aT)) (hI:Inn K aT) (m_reversed:mg "reversed"=none):Fk0 P w K mg base (k+1) f_bc0 fd_bc0 pq24 (Zf4 K):=by
 refine F_bc0.ok sc_bc0 (fun vs H Q E h=>?_) (fun cdv A outer s H vs Q E hr h=>?_)
 ·obtain⟨v,t,rfl,_⟩:=h
  rfl
 obtain⟨v,t,rfl,hT,hz,q⟩:=h
 refine⟨_,(Za4 (pst 1 sc_bc0.nd (Zf9 Za1))
 (Za4 (pst 2 sc_bc0.nd (Zf9 (Za0 (Zb1 (Za0 (pv 0) (Za0 Za2 Za1))) Za1)))
 (Za4 (Xo7 PassesOwn.never (Xo5 (pv 2) (fun _=>rfl))
  (Za4 (Yb7 (Xs5 F.plainAttrs_list F.slot_list_pop F.type_list_pop Xt1 (pv 2)) (Zy2 rfl (Zc6 (Zc2 (i:=3) sc_bc0.nd rfl (Or.inl rfl)) (Zc6 (Zc2 (i:=4) sc_bc0.nd rfl (Or.inl rfl)) Zi6))))
 (Za4 (Zx9 (Xf3 F.plainAttrs_list F.slot_list_append F.type_list_append Zj3 (pv 1) (Za0 (Zb1 (Za0 (pv 3) (Za0 (pv 4) Za1))) Za1)))
 (Za7 (Zm3 PassesOwn.never rfl (Xw4 rfl m_reversed (Za0 (Zv6 D_INNER rfl m_aa0 (pxt (pv 3) Za2)) Za1)) (Zy2 rfl (Zc6 (Zc2 (i:=5) sc_bc0.nd rfl (Or.inl rfl)) (Zc6 (Zc2 (i:=6) sc_bc0.nd rfl (Or.inl rfl)) Zi6)))
  (Za7 (Zx9 (Xf3 F.plainAttrs_list F.slot_list_append F.type_list_append Zj3 (pv 2) (Za0 (Zb1 (Za0 (pxt (pv 3) (pv 5)) (Za0 (Zb8 Zd3 (pv 4) (pv 6)) Za1))) Za1)))))))))
 (Za7 (Zb2 (pv 1)))))),?_⟩
 refine sqt (fun σ' H'=>∃ lt,σ'=[some v,some (.ref lt),none,none,none,none,none]∧Same H H'∧H lt=none∧H' lt=some (.lst [])) ?_ ?_
 ·intro C hC
  walk_at "1";exact⟨by decide,fun p hp=>hC _ _ ⟨p,rfl,Za6 hp _,hp,Za5⟩⟩
 rintro σ1 H1 ⟨lt,rfl,e1,f1,h1⟩;refine sqt (fun σ' H'=>∃ lw u,σ'=[some v,some (.ref lt),some (.ref lw),none,none,none,none]∧Same H H'∧H' lt=some (.lst [])∧H lw=none∧lw≠lt∧H' lw=some (.lst [u])∧IsPf K H' u (t,0)) ?_ ?_
 ·intro C hC
  walk_at "1";refine⟨by decide,fun p hp=>⟨by decide,fun p2 hp2=>?_⟩⟩;have hp2':H1 p2=none:=(Za6 hp _).free hp2;refine hC _ _ ⟨p2,_,rfl,(e1.trans (Za6 hp _)).trans (Za6 hp2 _),?_,e1.free hp2',(fun z=>by rw[z,h1] at hp2';cases hp2'),Za5,?_⟩
  ·rw[Zb0 (Za9 h1 hp2'),Zb0 (Za9 h1 hp)];exact h1
  ·refine (isPf.mpr ⟨p,v,rfl,.inl (.inl Za5),hT.keep ((e1.trans (Za6 hp _)).keepT)⟩:IsPf K _ (.ref p) (t,0)).keep (Zd4 hp2)
 rintro σ2 H2 ⟨lw,u0,rfl,e2,h2,f2,hne,h3,hu0⟩;refine sqt (fun σ' H'=>∃ us x3 x4 x5 x6,σ'=[some v,some (.ref lt),some (.ref lw),x3,x4,x5,x6]∧Same H H'∧H' lt=some (.lst us)∧Paired (IsPf K H') us (t.pre 0)) ?_ ?_
 ·intro C hC
  refine⟨fun m σ' H'=>∃ st ts us ds x3 x4 x5 x6,m=sumE ts∧σ'=[some v,some (.ref lt),some (.ref lw),x3,x4,x5,x6]∧Same H H'∧H' lt=some (.lst us)∧H' lw=some (.lst st.reverse)∧Paired (IsPf K H') st ts∧Paired (IsPf K H') us ds∧ds++ts.flatMap preP=t.pre 0∧us.length+sumE ts≤20000,
   ⟨_,[u0],[(t,0)],[],[],none,none,none,none,rfl,rfl,e2,h2,h3,.cons hu0 .nil,.nil,?_,?_⟩,?_⟩
  ·show []++(t.pre 0++[])=t.pre 0
   simp
  ·show 0+(t.size+0)≤20000
   walk_at "o"
  rintro m σ1 H1 ⟨st,ts,us,ds,x3,x4,x5,x6,rfl,rfl,e1,h1,h2,hd,hu,ht,hn⟩;refine⟨_,rfl,!st.reverse.isEmpty,.inl ⟨_,SqL.of h2,rfl⟩,?_⟩
  cases hd with
  | nil =>
   rw[if_neg (by decide)];rw[List.flatMap_nil,List.append_nil] at ht;rw[ht] at hu;exact hC _ _ ⟨us,_,_,_,_,rfl,e1,h1,hu⟩
  | @cons u i st is hi hst =>
   have hrev:(u :: st).reverse=st.reverse++[u]:=List.reverse_cons;rw[if_pos (by rw[hrev];simp)];refine opq fun N hN=>?_;rw[hrev] at h2;have ne1:lt≠lw:=Ne.symm hne;obtain⟨p0,x0,rfl,hs0,hx0⟩:=isPf.mp hi;obtain⟨tp,fp⟩:=i;have k1:KeepT K H1 (upd H1 lw (.lst st.reverse)):=Zh4 h2
   have h1':upd H1 lw (.lst st.reverse) lt=some (.lst us):=by rw[Zb0 ne1];exact h1
   rw[Zw6] at hn;have pp:=size_pos tp;refine sqt (fun σ' H'=>σ'=[some v,some (.ref lt),some (.ref lw),some x0,some (.int (fp:Nat)),x5,x6]∧H'=upd H1 lw (.lst st.reverse)) ?_ ?_
   ·intro C' hC'
    walk_at "1";refine⟨.inl ⟨rfl,_,SqL.of h2⟩,_,h2,.ref p0,by simp,?_⟩;rw[List.dropLast_concat];exact⟨p0,rfl,_,k1 _ _ hs0,rfl,_,_,rfl,_,_,rfl,rfl,hC' _ _ ⟨rfl,rfl⟩⟩
   rintro σ2 H2' ⟨rfl,rfl⟩;refine sqt (fun σ' H'=>σ'=[some v,some (.ref lt),some (.ref lw),some x0,some (.int (fp:Nat)),x5,x6]∧Same H H'∧KeepT K H1 H'∧H' lw=some (.lst st.reverse)∧∃ u',H' lt=some (.lst (us++[u']))∧IsPf K H' u' (tp,fp)) ?_ ?_
   ·intro C' hC'
    walk_at "1";refine⟨.inl ⟨rfl,_,SqL.of h1'⟩,by decide,fun p hp=>?_⟩;have n1:=Za9 h1' hp;refine⟨_,by rw[Zb0 n1];exact h1',Zk6 (by walk_at "o"),hC' _ _ ⟨rfl,?_,?_,?_,_,Za5,?_⟩⟩
    ·exact ((e1.write f2).trans (Za6 hp _)).write f1
    ·exact (k1.trans (Zd4 hp)).trans (Zh4 (by rw[Zb0 n1];exact h1'))
    ·rw[Zb0 hne,Zb0 (Za9 Za5 hp),Za5]
    ·exact (isPf.mpr ⟨p,x0,rfl,.inl (.inl Za5),hx0.keep (k1.trans (Zd4 hp))⟩:IsPf K _ (.ref p) (tp,fp)).keep (Zh4 (by rw[Zb0 n1];exact h1'))
   rintro σ3 H3 ⟨rfl,e3,k3,hw3,u',ht3,hu'⟩;obtain⟨pt,xs,rfl,hs,hd⟩:=isE_view.mp (hx0.keep k3);obtain⟨ai,la,ri⟩:=Xi3 hI tp;obtain⟨ys,hys,hyl,hyr⟩:=ri.sq H3;walk_at "2";refine⟨_,hs,_,Zb9 (Zl1 hd),tp.tag,rfl,_,la,ai,rfl,ys,hys,?_⟩
   have lk:ys.length=(Zh7 (tp,fp)).length:=by rw[hyl,tp.inn_len,Zr1]
   have lk3:ys.length≤3:=by rw[hyl];cases tp<;>simp[Te.inn,Te.plc,Te.kids]
   refine Xq4 (D:={ nx:=N,rt:=Q }) (xs:=ys) (fun i σ' H'=>∃ x5 x6 ws,σ'=[some v,some (.ref lt),some (.ref lw),some (.ref pt),some (.int (fp:Nat)),x5,x6]∧Same H H'∧KeepT K H3 H'∧H' lt=some (.lst (us++[u']))∧H' lw=some (.lst (st.reverse++ws))∧ws.length=i∧Paired (IsPf K H') ws ((Zh7 (tp,fp)).drop (ys.length - i)).reverse)
    ⟨x5,x6,[],rfl,e3,KeepT.refl _,ht3,by rw[List.append_nil];exact hw3,rfl,?_⟩ (fun i σ' H' _ ⟨x5,x6,ws,_,_,kk,_⟩=>kk _ _ hys) (fun i x σ' H' hi hx hI'=>?_) (fun σ' H' hI'=>?_)
   ·rw[Nat.sub_zero,lk,List.drop_length];exact .nil
   ·obtain⟨y5,y6,ws,rfl,e4,k4,h4,h5,hl,hp⟩:=hI'
    obtain⟨⟨pl,mo⟩,hr⟩:∃ r,tp.inn[ys.length - 1 - i]?=some r:=⟨_,List.getElem?_eq_getElem (by rw[← hyl];walk_at "o")⟩;obtain⟨b,eb,sb⟩:=hyr _ _ _ hr;rw[hx] at eb;cases eb;obtain⟨kd,hk,hit,_,_,_⟩:=Te.inn_at hr;obtain⟨ux,hux,dux⟩:=Zh5 hd hit;have hkp:(Zh7 (tp,fp))[ys.length - 1 - i]?=some (kd,fp+mo):=Xh1 hk;walk_at "1";refine⟨_,k4 _ _ sb,rfl,_,_,rfl,_,_,rfl,rfl,.inl ⟨rfl,_,SqL.of h5⟩,_,_,rfl,k4 _ _ hs,ux,Zb9 hux,_,rfl,by decide,fun p hp'=>?_⟩;have n5:=Za9 h5 hp'
    have h5':upd H' p (.tup [ux,.int ((fp:Int)+mo)]) lw=some (.lst (st.reverse++ws)):=by rw[Zb0 n5];exact h5
    have kA:=Zd4 (K:=K) (o:=.tup [ux,.int ((fp:Int)+mo)]) hp';have kB:=Zh4 (K:=K) (o:=.lst (st.reverse++ws++[.ref p])) h5';have l3:=Paired.length hst;have l4:=Yv8 is;refine⟨_,h5',Zk6 ?_,(e4.trans (Za6 hp' _)).write f2,(k4.trans kA).trans kB,?_,ws++[.ref p],?_,?_,?_⟩
    ·rw[List.length_append,List.length_reverse];walk_at "o"
    ·rw[Zb0 ne1,Zb0 (Za9 h4 hp')];exact h4
    ·rw[Za5,List.append_assoc]
    ·rw[List.length_append,hl];rfl
    ·have e:(Zh7 (tp,fp)).drop (ys.length - (i+1))=(kd,fp+mo) :: (Zh7 (tp,fp)).drop (ys.length - i):=by
      have h':ys.length - (i+1)=ys.length - 1 - i:=by walk_at "o"
      rw[h',List.drop_eq_getElem_cons (by rw[← lk];walk_at "o"),show ys.length - 1 - i+1=ys.length - i by walk_at "o"]
      congr 1
      have:=List.getElem?_eq_getElem (l:=Zh7 (tp,fp)) (i:=ys.length - 1 - i) (by rw[← lk];walk_at "o");rw[hkp] at this;exact (Option.some.inj this).symm
     rw[e,List.reverse_cons];refine Zg8 (Yp1 (kA.trans kB) hp) (.cons ?_ .nil);exact IsPf.keep (p:=(kd,fp+mo)) (isPf.mpr ⟨p,ux,rfl,.inl (.inl Za5),IsE.keep (t:=kd) dux (k4.trans kA)⟩) kB
   ·obtain⟨y5,y6,ws,rfl,e4,k4,h4,h5,hl,hp⟩:=hI'
    rw[Nat.sub_self,List.drop_zero] at hp;refine hN _ _ ⟨sumE (Zh7 (tp,fp)++is),?_,ws.reverse++st,Zh7 (tp,fp)++is,us++[u'],ds++[(tp,fp)],_,_,_,_,rfl,rfl,e4,h4,?_,?_,?_,?_,?_⟩
    ·rw[Ys8,Zw6]
     have:=Yi2 (tp,fp);have e:(tp,fp).1.size=tp.size:=rfl;walk_at "o"
    ·rw[List.reverse_append,List.reverse_reverse];exact h5
    ·refine Zg8 ?_ (Yp1 (k3.trans k4) hst)
     have:=Zs9 hp
     rwa [List.reverse_reverse] at this
    ·exact Zg8 (Yp1 (k3.trans k4) hu) (.cons (hu'.keep k4) .nil)
    ·rw[← ht,List.flatMap_append,List.flatMap_cons,Zo2 (tp,fp)];simp
    ·rw[List.length_append,List.length_singleton,Ys8]
     have:=Yi2 (tp,fp);have e:(tp,fp).1.size=tp.size:=rfl;rw[e] at hn;walk_at "o"
 rintro σ3 H3 ⟨us,x3,x4,x5,x6,rfl,e3,h3',hu⟩;walk_at "1";exact q _ _ _ e3 f1 h3' hu
theorem sc_be0:FnScope ["pieces","of_piece","told","number","inner"] ["pieces","of_piece"] (Za3 (top 7)):=scm (by decide +kernel)
theorem Yi7 {α β:Type} {F:α→β→Prop}:∀ {l:List α} {m ks:List β},Paired F l (m++ks)→∃ l1 l2,l=l1++l2∧Paired F l1 m∧Paired F l2 ks
 | l,[],ks,h=>⟨[],l,rfl,.nil,h⟩
 | _,z :: m,ks,h=>by
  cases h with
  | cons hx t =>
   obtain⟨l1,l2,rfl,h1,h2⟩:=Yi7 t;exact⟨_ :: l1,l2,rfl,.cons hx h1,h2⟩
theorem Zm5 {k:Nat} {tb:TBs} {J:Hp→Prop} (hJ:∀ H H',SameV (tb.map (·.1)) H H'→J H→J H') {R:RPn} (hR:∀ H H' n p v,KeepT K H H'→R H n p v→R H' n p v) {p0:Pf} {ps_of_piece:List Str} {f_be0:Addr} {fd_be0:FuncData} (F_be0:Fun K "term_folded" "term_folded" (top 7) f_be0 fd_be0) {aINNER:Addr} {aT:Nat→Addr} (m_aa0:MgI mg "INNER" aINNER) (D_INNER:KDict K w aINNER (innV aT)) (hI:Inn K aT) (m_reversed:mg "reversed"=none) (m_range:mg "range"=none) (m_len:mg "len"=none)
  {f_ba0:Addr}{fd_ba0:FuncData}(G_ba0:Fk0 P w K mg base k f_ba0 fd_ba0 ps_of_piece (Yn4 tb J R p0))(k_ba0:KpI K f_ba0)(b_ba0:Binds K fd_ba0 ps_of_piece []):Fk0 P w K mg base (k+1) f_be0 fd_be0 pq18 (Zw9 K tb J R p0 f_ba0):=by
 refine F_be0.ok sc_be0 (fun vs H Q E h=>?_) (fun cdv A outer s H vs Q E hr h=>?_)
 ·obtain⟨l,us,rfl,_⟩:=h
  rfl
 obtain⟨lp,us,rfl,j0,t0,hS,hU,hz,q⟩:=h;have hpm:∀ {H4 H5:Hp} {us:List V} {fs:List (Nat×Pf)},KeepT K H4 H5→Paired (fun u s=>R H4 s.1 s.2 u) us fs→Paired (fun u s=>R H5 s.1 s.2 u) us fs:=fun k z=>Paired.mapP z fun _ _ y=>hR _ _ _ _ _ k y;have lu:=Paired.length hU
 have lz:us.length≤20000:=by rw[lu];unfold preP;rw[Ze2];exact hz
 refine⟨_,(Za4 (Zu1 (i:=2) sc_be0.nd rfl (Or.inr rfl) (Zf9 Za1))
 (Za4 (Zm3 PassesOwn.never rfl (Xw5 rfl m_reversed rfl m_range (Za0 (Zd2 Zc3 (by exact rfl) m_len Zf0 (Za0 (pvM 0) Za1)) Za1)) (Zc2 (i:=3) sc_be0.nd rfl (Or.inl rfl))
  (Za4 (Ye7 (i:=4) sc_be0.nd rfl (Or.inl rfl) (blkC (N':=["place","told"]) (nt:=1) (ci:=[2]) ["pieces","of_piece","told","number","inner"] (Za3 (top 7)) rfl rfl (by decide +kernel) rfl (by decide +kernel) (by decide +kernel) rfl (by decide +kernel)) rfl (Wd7 (Zv6 D_INNER rfl m_aa0 (pxt (pxt (pxl (pvM 0) (pvM 3)) Za2) Za2))) (fun _ _ _ _=>(Zc2 (i:=0) (show (["place","told"]:List Str).Nodup from by decide +kernel) rfl (Or.inl rfl))) (fun _ _ _ _=>(Xx0 (K:=K) rfl F.plainAttrs_list F.slot_list_pop F.type_list_pop Xt1 (pvM 1))) rfl)
 (Za7 (Zx9 (Xf3 F.plainAttrs_list F.slot_list_append F.type_list_append Zj3 (pvM 2) (Za0 (Yu5 (i:=1) G_ba0 hr rfl (Or.inl rfl) k_ba0 b_ba0 .nil Xp2 (Za0 (pvM 3) (Za0 (pvM 4) Za1))) Za1))))))
 (Za7 (Zb2 (pxl (pvM 2) Za2))))),?_⟩
 refine sqt (fun σ' H'=>∃ l,σ'=[some (.ref lp),some (.ref f_ba0),some (.ref l),none,none]∧Same H H'∧H l=none∧H' l=some (.lst [])) ?_ ?_
 ·intro C hC
  walk_at "1";exact⟨by decide,fun l hl=>hC _ _ ⟨l,rfl,Za6 hl _,hl,Za5⟩⟩
 rintro σ1 H1 ⟨l,rfl,e1,f1,h1⟩;refine sqt (fun σ' H'=>∃ x3 x4 u,σ'=[some (.ref lp),some (.ref f_ba0),some (.ref l),x3,x4]∧SameV (tb.map (·.1)) H H'∧Tabs H' tb∧H' l=some (.lst [u])∧R H' 0 p0 u) ?_ ?_
 ·intro C hC
  walk_at "2";refine⟨_,.inl (e1.seq hS),us.length,rfl,by walk_at "o",?_⟩;refine Xj8 (D:={ nx:=C,rt:=Q }) (lo:=(us.length:Int) - 1) (n:=us.length) (fun i σ' H'=>∃ x3 x4 ts fs,σ'=[some (.ref lp),some (.ref f_ba0),some (.ref l),x3,x4]∧SameV (tb.map (·.1)) H H'∧Tabs H' tb∧H' l=some (.lst ts)∧Paired (fun u s=>R H' s.1 s.2 u) ts (numP (us.length - i) fs).reverse∧fs.flatMap preP=(preP p0).drop (us.length - i)∧ts.length≤i)
   ⟨none,none,[],[],rfl,e1.toV,t0.keep e1,h1,.nil,?_,Nat.le_refl _⟩ (fun i σ' H' hi hI' N hN=>?_) (fun σ' H' hI'=>?_)
  ·rw[Nat.sub_zero,lu,List.drop_length];rfl
  ·obtain⟨x3,x4,ts,fs,rfl,e,tt,hl',hp',hf,hn⟩:=hI'
   have kk:KeepT K H H':=SameT.keepT e.toT
   have hj:us.length - 1 - i < us.length:=by walk_at "o"
   obtain⟨p,hgp,hxp⟩:=Ze3 hU (List.getElem?_eq_getElem hj);obtain⟨p',rest,g1,g2⟩:=Zj7 p0.1 p0.2 (us.length - 1 - i) (by rw[show (p0.1.pre p0.2).length=us.length from lu.symm];exact hj);rw[show (p0.1.pre p0.2)[us.length - 1 - i]?=some p from hgp] at g1;cases g1
   have ej:us.length - i=us.length - 1 - i+1:=by walk_at "o"
   have eu:us.length - (i+1)=us.length - 1 - i:=by walk_at "o"
   have dr:(preP p0).drop (us.length - i)=(Zh7 p).flatMap preP++rest:=by
    have:=congrArg List.tail g2;rw[List.tail_drop,← ej,Zo2 p,List.cons_append,List.tail_cons] at this;exact this
   rw[dr] at hf;obtain⟨fs',rfl,hf'⟩:=Yw3 hf;rw[Yv4,List.reverse_append,ej] at hp';obtain⟨ts',rs,rfl,hp1,hp2⟩:=Yi7 hp';have lr:=Paired.length hp2;rw[List.length_reverse,Yv3] at lr;rw[List.length_append] at hn;obtain⟨pa,x0,hue,hs0,hx0⟩:=isPf.mp (hxp.keep kk);obtain⟨pt,xs,rfl,hs,hd⟩:=isE_view.mp hx0;obtain⟨ai,la,ri⟩:=Xi3 hI p.1;obtain⟨ys,hys,hyl,hyr⟩:=ri.sq H'
   have lk:ys.length=(Zh7 p).length:=by rw[hyl,p.1.inn_len,Zr1]
   have lk3:ys.length≤3:=by rw[hyl];cases p.1<;>simp[Te.inn,Te.plc,Te.kids]
   have en:((us.length:Int) - 1 - (i:Nat))=((us.length - 1 - i:Nat):Int):=by walk_at "o"
   unfold Zv1;rw[en];refine sqt (fun σ' H2=>∃ acc,σ'=[some (.ref lp),some (.ref f_ba0),some (.ref l),some (.int ((us.length - 1 - i:Nat):Int)),some (.ref acc)]∧SameV (tb.map (·.1)) H H2∧Tabs H2 tb∧KeepT K H' H2∧acc≠l∧H acc=none∧H2 l=some (.lst ts')∧H2 acc=some (.lst rs.reverse)) ?_ ?_
   ·intro C' hC'
    unfold tLC;walk_at "1";refine⟨_,SameT.seq e.toT hS,_,Zb9 (List.getElem?_eq_getElem hj),pa,hue,_,hs0,_,rfl,pt,rfl,_,hs,_,Zb9 (Zl1 hd),_,rfl,_,la,ai,rfl,⟨ys,hys⟩,fun acc hacc=>?_⟩;have fa:H acc=none:=e.free hacc
    have na:acc≠l:=fun z=>by rw[z,hl'] at hacc;cases hacc
    refine Xy4 (xs:=ys) (fun j zs H2=>zs=rs.reverse.take j∧KeepT K H' H2∧SameV (tb.map (·.1)) H H2∧Tabs H2 tb∧H2 l=some (.lst (ts'++(rs.reverse.drop j).reverse))∧H2 acc=some (.lst zs))
     ⟨rfl,Zd4 hacc,e.write fa,tt.keep (Za6 hacc _),?_,Za5⟩ (fun j zs H2 hj2 ⟨z0,z1,z2,zt,z3,z4⟩=>⟨z4,?_,z1 _ _ hys⟩) (fun j x zs H2 hx ⟨z0,z1,z2,zt,z3,z4⟩ C2 hC2=>?_) (fun zs H2 ⟨z0,z1,z2,zt,z3,z4⟩=>?_)
    ·rw[Zb0 na.symm,List.drop_zero,List.reverse_reverse];exact hl'
    ·rw[z0,List.length_take];exact Zk6 (by walk_at "o")
    ·have hjl:j < rs.reverse.length:=by
      rw[List.length_reverse,lr,← lk];exact (List.getElem?_eq_some_iff.mp hx).1
     rw[List.drop_eq_getElem_cons hjl,List.reverse_cons,← List.append_assoc] at z3;walk_at "1";refine⟨Yd3,.inl ⟨rfl,_,SqL.of z3⟩,_,z3,rs.reverse[j],by simp,?_⟩;rw[List.dropLast_concat]
     have z4':∀ o,upd H2 l o acc=some (.lst zs):=fun o=>by rw[Zb0 na];exact z4
     refine hC2 _ _ (z4' _) ⟨by rw[z0,← List.take_append_getElem hjl],?_,(z2.write f1).write fa,(zt.put z3).put (z4' _),?_,Za5⟩
     ·exact (z1.trans (Zh4 z3)).trans (Zh4 (xs:=zs) (z4' _))
     ·rw[Zb0 na.symm,Za5]
    ·rw[List.drop_of_length_le (by rw[List.length_reverse,lr,← lk];exact Nat.le_refl _),List.reverse_nil,List.append_nil] at z3
     rw[List.take_of_length_le (by rw[List.length_reverse,lr,← lk];exact Nat.le_refl _)] at z0;exact hC' _ _ ⟨acc,rfl,z2,zt,z1,na,fa,z3,z0▸z4⟩
   rintro σ2 H2 ⟨acc,rfl,e2,t2,k2,na,fa,hl2,ha2⟩;walk_at "1"
   have hpk:Paired (fun u k=>R H2 k.1 k.2 u) rs.reverse (numP (us.length - 1 - i+1) (Zh7 p)):=by
    have:=hpm k2 (Zs9 hp2)
    rwa [List.reverse_reverse] at this
   refine⟨.inl ⟨rfl,_,SqL.of hl2⟩,_,p,acc,rs.reverse,rfl,hJ _ _ e2 j0,t2,hgp,ha2,hpk,fun r H3 e3 t3 hr3=>?_⟩;have hl3:H3 l=some (.lst ts'):=e3.toT _ _ (fun _ z=>nomatch z) hl2;have k3:KeepT K H2 H3:=SameT.keepT e3.toT;have kl:=Zh4 (K:=K) (o:=.lst (ts'++[r])) hl3;refine⟨ts',hl3,Zk6 (by walk_at "o"),hN _ _ ⟨_,_,ts'++[r],p :: fs',rfl,(e2.trans e3).write f1,t3.put hl3,Za5,?_,?_,?_⟩⟩
   ·rw[eu]
    show Paired _ _ ((us.length - 1 - i,p) :: numP (us.length - 1 - i+p.1.size) fs').reverse;rw[List.reverse_cons,Xd6,← Nat.add_assoc];exact Zg8 (hpm (k2.trans (k3.trans kl)) hp1) (.cons (hR _ _ _ _ _ kl hr3) .nil)
   ·rw[List.flatMap_cons,hf',eu];exact g2.symm
   ·rw[List.length_append,List.length_singleton];walk_at "o"
  ·obtain⟨x3,x4,ts,fs,rfl,e,tt,hl',hp',hf,hn⟩:=hI'
   rw[Nat.sub_self,List.drop_zero,← List.append_nil (preP p0)] at hf;obtain⟨fs',rfl,hf'⟩:=Xj5 hf;rw[Yr0 hf',Nat.sub_self] at hp'
   cases hp' with
   | cons hu' hnil =>
    cases hnil;exact hC _ _ ⟨x3,x4,_,rfl,e,tt,hl',hu'⟩
 rintro σ2 H2 ⟨x3,x4,u,rfl,e2,t2,h2,ru⟩;walk_at "1";exact⟨_,SqL.of h2,u,rfl,q _ _ e2 t2 ru⟩
theorem Xs8 {k:Nat} {J:Hp→Prop} (hJ:∀ H H',Same H H'→J H→J H') {R:RP} (hR:∀ H H' p v,KeepT K H H'→R H p v→R H' p v) {p0:Pf} {ps_of_piece:List Str} {f_be0:Addr} {fd_be0:FuncData} (F_be0:Fun K "term_folded" "term_folded" (top 7) f_be0 fd_be0) {aINNER:Addr} {aT:Nat→Addr} (m_aa0:MgI mg "INNER" aINNER) (D_INNER:KDict K w aINNER (innV aT)) (hI:Inn K aT) (m_reversed:mg "reversed"=none) (m_range:mg "range"=none) (m_len:mg "len"=none)
  {f_ba0:Addr}{fd_ba0:FuncData}(G_ba0:Fk0 P w K mg base k f_ba0 fd_ba0 ps_of_piece (Yi4 J R p0))(k_ba0:KpI K f_ba0)(b_ba0:Binds K fd_ba0 ps_of_piece []):Fk0 P w K mg base (k+1) f_be0 fd_be0 pq18 (Zp4 K J R p0 f_ba0):=by
 refine (Zm5 (tb:=[]) (J:=J) (R:=fun H _ p v=>R H p v) (p0:=p0) (fun H H' e=>hJ H H' e.nil) (fun H H' _ p v=>hR H H' p v) F_be0 m_aa0 D_INNER hI m_reversed m_range m_len (G_ba0.sub ?_) k_ba0 b_ba0).sub ?_
 ·rintro vs H Q E ⟨n,p,l,us,e1,e2,_,e3,e4,e5,q⟩
  refine⟨n,p,l,us,e1,e2,e3,e4,?_,fun r H' e hr=>q r H' e.toV (fun _ h=>nomatch h) hr⟩;have:=Yb8 (F:=fun u p=>R H p u) (g:=fun (k:Nat×Pf)=>k.2) e5
  rwa [Yf7] at this
 ·rintro vs H Q E ⟨l,us,e1,e2,e3,e4,e5,q⟩
  exact⟨l,us,e1,e2,(fun _ h=>nomatch h),e3,e4,e5,fun r H' e _ hr=>q r H' e.nil hr⟩
theorem sc_bl0:FnScope ["piece","inner","told","place","more","term"] ["piece","inner"] (Za3 (top 8)):=scm (by decide +kernel)
theorem Zx6 {α:Type}:∀ {ps:List Nat} {ys:List α} {xs:List α} {p:Nat} {y:α},ps.length=ys.length→Zi8 xs (ps++[p]) (ys++[y])=(Zi8 xs ps ys).set p y
 | [],[],xs,p,y,_=>rfl
 | q :: ps,z :: ys,xs,p,y,h=>Zx6 (xs:=xs.set q z) (by simpa using h)
 | [],_ :: _,_,_,_,h=>by cases h
 | _ :: _,[],_,_,_,h=>by cases h
theorem Yb6 {α:Type}:∀ {ps:List Nat} {ys:List α} {xs:List α},(Zi8 xs ps ys).length=xs.length
 | [],ys,xs=>by cases ys<;>rfl
 | q :: ps,[],xs=>rfl
 | q :: ps,z :: ys,xs=>by rw[Zi8,Yb6,List.length_set]
theorem Zp0 {α:Type} {l:List α} {i:Nat} {x:α} (h:l[i]?=some x):l.take (i+1)=l.take i++[x]:=by
 obtain⟨hi,rfl⟩:=List.getElem?_eq_some_iff.mp h;exact (List.take_append_getElem hi).symm
theorem Xs7 {k:Nat} {f_bl0:Addr} {fd_bl0:FuncData} (F_bl0:Fun K "with_inner" "with_inner" (top 8) f_bl0 fd_bl0) {aINNER:Addr} {aT:Nat→Addr} (m_aa0:MgI mg "INNER" aINNER) (D_INNER:KDict K w aINNER (innV aT)) (hI:Inn K aT) (m_list:mg "list"=none) (m_zip:mg "zip"=none) (m_tuple:mg "tuple"=none):Fk0 P w K mg base (k+1) f_bl0 fd_bl0 pq17 (Zw8 K):=by
 refine F_bl0.ok sc_bl0 (fun vs H Q E h=>?_) (fun cdv A outer s H vs Q E hr h=>?_)
 ·obtain⟨v,t,l,us,ks,rfl,_⟩:=h
  rfl
 obtain⟨v,t,la,us,ks,rfl,hT,hL,hU,hk,q⟩:=h;obtain⟨pt,xs,rfl,hs,hd⟩:=isE_view.mp hT;have lu:=Paired.length hU;have lx:=DnAll.length hd
 refine⟨_,(Za4 (pst 2 sc_bl0.nd (Zq2 Yl6 (by exact rfl) m_list Xl9 (Za0 (pvM 0) Za1)))
 (Za4 (Zm3 PassesOwn.never rfl (Xw3 rfl m_zip (Za0 (Zv6 D_INNER rfl m_aa0 (pxt (pvM 0) Za2)) (Za0 (pvM 1) Za1))) (Zy2 rfl (Zc6 (Zy2 rfl (Zc6 (Zc2 (i:=3) sc_bl0.nd rfl (Or.inl rfl)) (Zc6 (Zc2 (i:=4) sc_bl0.nd rfl (Or.inl rfl)) Zi6))) (Zc6 (Zc2 (i:=5) sc_bl0.nd rfl (Or.inl rfl)) Zi6)))
  (Za7 (Yb7 (pvM 5) (Wd8 (pvM 2) (pvM 3) Xn7))))
 (Za7 (Zb2 (Zq2 Yg7 (by exact rfl) m_tuple Zt6 (Za0 (pvM 2) Za1)))))),?_⟩
 refine sqt (fun σ' H'=>∃ l,σ'=[some (.ref pt),some (.ref la),some (.ref l),none,none,none]∧Same H H'∧H l=none∧H' l=some (.lst xs)) ?_ ?_
 ·intro C hC
  walk_at "1";exact⟨_,.inr hs,fun l hl=>hC _ _ ⟨l,rfl,Za6 hl _,hl,Za5⟩⟩
 rintro σ1 H1 ⟨l,rfl,e1,f1,h1⟩;obtain⟨ai,lai,ri⟩:=Xi3 hI t;refine sqt (fun σ' H'=>∃ x3 x4 x5,σ'=[some (.ref pt),some (.ref la),some (.ref l),x3,x4,x5]∧Same H H'∧H' l=some (.lst (Zi8 xs t.plc us))) ?_ ?_
 ·intro C hC
  obtain⟨ys,hys,hyl,hyr⟩:=ri.sq H1
  have ly:ys.length=us.length:=by rw[hyl,t.inn_len,lu,hk]
  walk_at "2";refine⟨_,e1.sqt hs,_,Zb9 (Zl1 hd),_,rfl,_,lai,ai,rfl,⟨ys,hys⟩,⟨us,e1.seq hL⟩,?_⟩;refine Xj6 (D:={ nx:=C,rt:=Q }) (xs:=ys) (ys:=us) (fun i σ' H'=>∃ x3 x4 x5,σ'=[some (.ref pt),some (.ref la),some (.ref l),x3,x4,x5]∧Same H H'∧KeepT K H1 H'∧H' l=some (.lst (Zi8 xs (t.plc.take i) (us.take i)))) ly
   ⟨none,none,none,rfl,e1,KeepT.refl _,h1⟩ (fun i σ' H' hi ⟨x3,x4,x5,_,e,kk,_⟩=>⟨kk _ _ hys,e.seq hL⟩) (fun i y u σ' H' T hi hy hu hT' ⟨x3,x4,x5,e0,e,kk,h⟩ N hN=>?_) (fun σ' H' ⟨x3,x4,x5,e0,e,kk,h⟩=>?_)
  ·subst e0
   obtain⟨⟨pl,mo⟩,hr'⟩:∃ r,t.inn[i]?=some r:=⟨_,List.getElem?_eq_getElem (by rw[← hyl];exact hi)⟩;obtain⟨b,eb,sb⟩:=hyr _ _ _ hr';rw[hy] at eb;cases eb;obtain⟨kd,hk',hit,hpl,p1,p3⟩:=Te.inn_at hr';have ip:pl < t.items.length:=(List.getElem?_eq_some_iff.mp hit).1;walk_at "1"
   have hlT:upd H' T (.tup [.ref b,u]) l=some (.lst (Zi8 xs (t.plc.take i) (us.take i))):=by rw[Zb0 (Za9 h hT')];exact h
   have kT:=Zd4 (K:=K) (o:=.tup [.ref b,u]) hT';refine⟨_,.inl (.inl Za5),rfl,_,_,rfl,b,rfl,_,kT _ _ (kk _ _ sb),rfl,_,_,rfl,_,_,rfl,rfl,_,_,rfl,rfl,_,_,rfl,hlT,pl,Xy7 (by rw[Yb6,lx];exact ip),hN _ _ ⟨_,_,_,rfl,(e.trans (Za6 hT' _)).write f1,(kk.trans kT).trans (Zh4 hlT),?_⟩⟩;rw[Za5,Zp0 hpl,Zp0 hu,Zx6 (by rw[List.length_take,List.length_take,t.plc_len,lu,hk])]
  ·rw[List.take_of_length_le (by rw[t.plc_len,ly,lu,hk];exact Nat.le_refl _),List.take_of_length_le (by rw[ly];exact Nat.le_refl _)] at h
   exact hC _ _ ⟨x3,x4,x5,e0,e,h⟩
 rintro σ2 H2 ⟨x3,x4,x5,rfl,e2,h2⟩;walk_at "1";refine⟨_,.inl ⟨SqL.of h2,fun p hp=>q _ _ (e2.trans (Za6 hp _)) ?_⟩⟩;have k3:KeepT K H (upd H2 p (.tup (Zi8 xs t.plc us))):=e2.keepT.trans (Zd4 hp);refine isE_view.mpr ⟨p,_,rfl,.inl (.inl Za5),?_⟩;rw[Te.withK_items hk];exact Yj2 (DnAll.keepT k3 (by have:=t.noList;rw[t.data_eq,noList] at this;exact this) hd) (Paired.mapP hU fun _ _ z=>IsE.keep z k3)
theorem sc_aw0:FnScope ["term","of_at","pieces","of_piece"] ["term","of_at"] (Za3 (top 9)):=scm (by decide +kernel)
noncomputable abbrev Zb7:Stmt:=Xi5 (top 9) 1
theorem sc_changed_of_piece:FnScopeC ["number","inner","pieces","of_at","piece","front"] ["number","inner"] ["pieces","of_at"] (Za3 Zb7):=⟨rfl,rfl,rfl,by decide +kernel,rfl,by decide +kernel,by decide +kernel,by decide +kernel⟩
noncomputable abbrev Zf3:Str:=("changed":Str)++Str.ofString ".<locals>."++"of_piece"
theorem Zo9:∀ y∈(Za3 Zb7).names,y.2=NameKind.free→(Za3 (top 9)).names.lookup y.1=some NameKind.cell:=by decide +kernel
noncomputable def Zb6:List (Pos×Str):=[(posOf Zb7,Zf3)]
def JPc (K:W.Frag) (J:JP) (lp:Addr) (us:List V) (p0:Pf) (H:Hp):Prop:=J K H∧SqL K H lp us∧Paired (IsPf K H) us (preP p0)
theorem Xp7 {J:JP} (hJ:JOk J) {lp:Addr} {us:List V} {p0:Pf} (H H':Hp) (e:Same H H') (h:JPc K J lp us p0 H):JPc K J lp us p0 H' :=
 ⟨hJ.keep _ _ _ e.toT h.1,e.seq h.2.1,Paired.mapP h.2.2 fun _ _ z=>IsPf.keep z e.keepT⟩
theorem Zo6 {k:Nat} {cl:List (Str×Addr)} {f:Addr} {fd:FuncData} (F:FunC K "of_piece" Zf3 Zb7 cl f fd) {J:JP} {FF:Nat→Nat→Te} {AA:Nat→Nat→Prop} {lp:Addr} {us:List V} {p0:Pf} {f_az0:Addr} {fd_az0:FuncData}
  (C:Caught K (Za3 Zb7) cl ["pieces","of_at"] [.ref lp,.ref f_az0]) (hA:∀ k f,(Te.at k,f)∈preP p0→AA k f)
  (G_az0:Fk0 P w K mg base k f_az0 fd_az0 ["k","front"] (Zx0 K (J K) FF AA)) (k_az0:KpI K f_az0) (b_az0:Binds K fd_az0 ["k","front"] [])
  (C_with_inner:Cl P w K mg base k "with_inner" pq17 (Zw8 K)) :
  Fk0 P w K mg base (k+1) f fd ["number","inner"] (Yi4 (JPc K J lp us p0) (fun H p v=>IsE K H v (mpP FF p)) p0):=by
 refine F.ok sc_changed_of_piece C (fun vs H Q E h=>?_) (fun cdv A outer s H vs Q E hr h=>?_)
 ·obtain⟨n,p,l,us',rfl,_⟩:=h
  rfl
 obtain⟨n,p,l,us',rfl,hj,hp,hl,hU,q⟩:=h;obtain⟨j1,j2,j3⟩:=hj;have lu:=Paired.length j3;obtain⟨u,hu⟩:∃ u,us[n]?=some u:=⟨_,List.getElem?_eq_getElem (by rw[lu];exact (List.getElem?_eq_some_iff.mp hp).1)⟩;obtain⟨p',hp',hxp⟩:=Ze3 j3 hu;rw[hp] at hp';cases hp';obtain⟨tp,fp⟩:=p;obtain⟨pa,x0,rfl,hs0,hx0⟩:=isPf.mp hxp;obtain⟨pt,xs,rfl,hs,hd⟩:=isE_view.mp hx0
 refine⟨_,(Za4 (Yb7 (pxl (pvM 2) (pvM 0)) (Zy2 rfl (Zc6 (Zc2 (i:=4) sc_changed_of_piece.nd rfl (Or.inl rfl)) (Zc6 (Zc2 (i:=5) sc_changed_of_piece.nd rfl (Or.inl rfl)) Zi6))))
 (Za4 (Zd7 (ptcM (Zf2) (pxt (pvM 4) Za2) Za8)
  (Za7 (Zb2 (Yu5 (i:=3) G_az0 hr rfl (Or.inr (Or.inr rfl)) k_az0 b_az0 .nil Xp2 (Za0 (pxt (pvM 4) Za2) (Za0 (pvM 5) Za1)))))
  Zb4)
 (Za7 (Zb2 (Zd1 C_with_inner hr (Za0 (pvM 4) (Za0 (pvM 1) Za1))))))),?_⟩
 refine sqt (fun σ' H'=>σ'=[some (.int (n:Nat)),some (.ref l),some (.ref lp),some (.ref f_az0),some (.ref pt),some (.int (fp:Nat))]∧H'=H) ?_ ?_
 ·intro C' hC'
  walk_at "1";exact⟨_,j2,_,Zb9 hu,pa,rfl,_,hs0,rfl,_,_,rfl,_,_,rfl,rfl,hC' _ _ ⟨rfl,rfl⟩⟩
 rintro σ1 H1 ⟨rfl,rfl⟩;walk_at "1";refine⟨_,hs,_,Zb9 (Zl1 hd),rfl,?_⟩
 by_cases ca:∃ k0,tp=.at k0
 ·obtain⟨k0,rfl⟩:=ca
  rw[if_pos (by rfl)];obtain⟨x,r,rfl,h1,h2⟩:=Zc8 (show DnAll K H1 xs [.str "at",.int (k0:Nat)] from hd);obtain⟨y,r,rfl,h3,h4⟩:=Zc8 h2;rw[dn_int] at h3;subst h3;refine⟨_,hs,_,Zb9 (j:=1) rfl,k0,fp,rfl,j1,hA _ _ (List.mem_of_getElem? hp),fun r H' e hr'=>q _ _ e hr'⟩
 ·have ne:¬ (tp.tag="at"):=fun z=>ca (Xr7 z)
  rw[if_neg (by simpa using ne)];refine⟨_,tp,l,us',(Zh7 (tp,fp)).map (mpP FF),rfl,hx0,SqL.of hl,Zo4 (f:=mpP FF) (fun _ _ z=>z) hU,by rw[List.length_map,Zr1],fun r H' e hr'=>q _ _ e ?_⟩;show IsE K H' r (mpP FF (tp,fp));rw[Xg4 FF (tp,fp) fun k0 z=>ca ⟨k0,z⟩];exact hr'
theorem Wg1 {j:Nat} {T:Addr} {f_aw0:Addr} {fd_aw0:FuncData} (F_aw0:FunT K "changed" "changed" (top 9) f_aw0 fd_aw0 T) (hB:∀ h,K.In h→h.BuiltinsAt mg T) (hT:mainGlobals≠T)
  {J:JP} (hJ:JOk J) {FF:Nat→Nat→Te} {AA:Nat→Nat→Prop}
  (C_standing:Cl P w K mg base (j+2) "standing" pq24 (Zf4 K))
  {f_bl0:Addr}{fd_bl0:FuncData}(G_bl0:∀ K' base,KLe K K'→FnOk P w K' mg base CX0 j f_bl0 fd_bl0 pq17 (Zw8 K'))(m_bl0:MgI mg "with_inner" f_bl0)(k_bl0:∀ K',KLe K K'→W.keepIn K' (.ref f_bl0)=true)(b_bl0:Binds K fd_bl0 pq17 [])
  {f_be0:Addr}{fd_be0:FuncData}(m_be0:MgI mg "term_folded" f_be0)(k_be0:KpI K f_be0)(b_be0:Binds K fd_be0 pq18 [])
  (GF:∀ (K':W.Frag) (base:Heap) (J:Hp→Prop) (R:RP) (p0:Pf) (f1:Addr) (fd1:FuncData),KLe K K'→(∀ H H',Same H H'→J H→J H')→(∀ H H' p v,KeepT K' H H'→R H p v→R H' p v) →
   FnOk P w K' mg base CX0 (j+1) f1 fd1 ["number","inner"] (Yi4 J R p0)→W.keepIn K' (.ref f1)=true→Binds K' fd1 ["number","inner"] []→FnOk P w K' mg base CX0 (j+2) f_be0 fd_be0 pq18 (Zp4 K' J R p0 f1))
  {f_az0:Addr}{fd_az0:FuncData}(G_az0:∀ K' base,KLe K K'→FnOk P w K' mg base CX0 j f_az0 fd_az0 ["k","front"] (Zx0 K' (J K') FF AA))(k_az0:∀ K',KLe K K'→W.keepIn K' (.ref f_az0)=true)(b_az0:Binds K fd_az0 ["k","front"] []) :
  Fk0 P w K mg base (j+3) f_aw0 fd_aw0 ["term","of_at"] (Zn2 K T Zb6 J FF AA f_az0):=by
 refine F_aw0.ok sc_aw0 (fun vs H Q E h=>?_) (fun c A outer s H vs Q E hC hr h=>?_)
 ·obtain⟨v,t,rfl,_⟩:=h
  rfl
 obtain⟨v,t,rfl,hT1,hz,j0,hA,tab,q⟩:=h
 have hix:∀ i∈([1,2]:List Nat),∃ x,(["term","of_at","pieces","of_piece"]:List Str)[i]?=some x∧(Za3 (top 9)).names.lookup x=some .cell∧(fun _:Str=>true) x=true:=by
  intro i hi;simp only[List.mem_cons,List.not_mem_nil,or_false] at hi;rcases hi with rfl | rfl
  ·exact⟨"of_at",rfl,rfl,rfl⟩
  ·exact⟨"pieces",rfl,rfl,rfl⟩
 refine⟨_,(Za4 (Zu1 (i:=2) sc_aw0.nd rfl (Or.inr rfl) (Zd1 C_standing hr (Za0 (pvM 0) Za1)))
 (Za4 (Zy0 (st:=Zb7) (i:=3) (qual:=Zf3) (ds:=Zb6) rfl sc_aw0.nd rfl (Or.inl rfl) (Zf7 (fun y hy hf=>Zl4 (Zo9 y hy hf))) rfl hC hB hT rfl (by simp[Zb6]) (by decide +kernel) rfl rfl rfl)
 (Za7 (Zb2 (Zq3 (ix:=[1,2]) hr (by exact rfl) m_be0 k_be0 b_be0 hix (Za0 (pvM 2) (Za0 (pvM 3) Za1))))))),?_⟩
 generalize hX:(cxOf CX0 P w K mg base ["term","of_at","pieces","of_piece"] "changed" (Za3 (top 9)) f_aw0 (.ref c) A outer s H E).nox=X
 have eP:X.prog=P:=by rw[← hX];rfl
 have ew:X.w=w:=by rw[← hX];rfl
 have eK:X.K=K:=by rw[← hX];rfl
 have em:X.mg=mg:=by rw[← hX];rfl
 have eN:X.N=(["term","of_at","pieces","of_piece"]:List Str):=by rw[← hX];rfl
 have ec:(PyProof.Rows.envOfC "changed" (Za3 (top 9)) s.heap.objs.size f_aw0 (.ref c)).cells=X.env.cells:=by rw[← hX];rfl
 refine sqt (fun σ' H'=>∃ lp us,σ'=[some v,some (.ref f_az0),some (.ref lp),none]∧Same H H'∧H' lp=some (.lst us)∧Paired (IsPf K H') us (t.pre 0)) ?_ ?_
 ·intro C hC'
  walk_at "1";exact⟨v,t,rfl,hT1,hz,fun r H' us e _ h hu=>hC' _ _ ⟨r,us,rfl,e,h,hu⟩⟩
 rintro σ1 H1 ⟨lp,us,rfl,e1,hl1,hu1⟩;refine sqt (fun σ' H'=>∃ f1,σ'=[some v,some (.ref f_az0),some (.ref lp),some (.ref f1)]∧SameU T H1 H'∧TabOk H' T Zb6∧FnFz H' f1 "of_piece" Zf3 (Zc5 Zb7) (Zc1 Zb7) (Za3 Zb7) (Zi9 X.env.cells (Za3 Zb7).names [])) ?_ ?_
 ·intro C hC'
  exact⟨tab.keep e1,fun f H' n sm tb fn=>hC' _ _ ⟨f,rfl,sm,tb,ec▸fn⟩⟩
 rintro σ2 H2 ⟨f1,rfl,s2,tb2,fn1⟩;obtain⟨o1,c1,p1,a1,a2,a3,a4⟩:=fn1.objs2;have sA:SameV [T] H H2:=e1.toV.trans s2.toV;show Zl6 X _ _ _ _ [1,2] _ _ _ _;unfold Zl6;walk_at "1";refine⟨fun i hi=>?_,[(f1,o1),(c1,p1)],a1,fun K' cs ok kle kback hlk hcs=>?_⟩
 ·simp only[List.mem_cons,List.not_mem_nil,or_false] at hi
  rcases hi with rfl | rfl
  ·exact⟨_,rfl⟩
  ·exact⟨_,rfl⟩
 rw[eK] at kle kback;obtain⟨fd1,G1⟩:=a4 K' fun p hp=>hlk p (List.mem_append_left _ hp)
 have cw:Zu5 X K' "of_at" (.ref f_az0)∧Zu5 X K' "pieces" (.ref lp)∧∀ p∈cs,∀ its n,p.2.data≠.seq its n:=by
  cases hcs with
  | cons h1 r1 =>
   cases r1 with
   | cons h2 r2 =>
    cases r2;obtain⟨x1,v1,u1,e1,e2,e3,e4,e5⟩:=h1;obtain⟨x2,v2,u2,g1,g2,g3,g4,g5⟩:=h2;rw[eN] at e1 g1;cases e1;cases e2;cases g1;cases g2;refine⟨⟨_,_,u1,e3,hlk _ (List.mem_append_right _ (by simp)),e4,e5⟩,⟨_,_,u2,g3,hlk _ (List.mem_append_right _ (by simp)),g4,g5⟩,fun p hp its n z=>?_⟩;simp only[List.mem_cons,List.not_mem_nil,or_false] at hp;rcases hp with rfl | rfl
    ·rw[e4] at z;cases z
    ·rw[g4] at z;cases z
 have C1:Caught K' (Za3 Zb7) (Zi9 X.env.cells (Za3 Zb7).names []) ["pieces","of_at"] [.ref lp,.ref f_az0] :=
  Zn0 ok rfl (by decide +kernel) (by decide +kernel) fun i y u e1 e2=>by
   match i,e1,e2 with
   | 0,e1,e2=>cases e1;cases e2;exact cw.2.1
   | 1,e1,e2=>cases e1;cases e2;exact cw.1
 generalize [(f1,o1),(c1,p1)]=xs at a1 a2 a3 hlk kback ⊢;have inn:=Yb3 a1 kle;have h2l:H2 lp=some (.lst us):=s2.toT _ _ (fun _ z=>nomatch z) hl1
 have nlp:lp ∉ xs.map (·.1):=fun z=>by
  obtain⟨p,hp,e⟩:=List.mem_map.mp z;have:=a1 p hp;rw[e,h2l] at this;cases this
 refine⟨Zp4 K' (JPc K' J lp us (t,0)) (fun H p v=>IsE K' H v (mpP FF p)) (t,0) f1,fun base'=>?_,?_⟩
 ·rw[eP,ew,em]
  exact GF K' base' _ _ (t,0) f1 fd1 kle (Xp7 hJ) (fun H H' p v k h=>IsE.keep h k)
   (Zo6 G1 C1 hA (G_az0 K' base' kle) (k_az0 K' kle) (b_az0.le kle) (.of (G_bl0 K' base' kle) m_bl0 (k_bl0 K' kle) (b_bl0.le kle))) G1.kp (G1.binds fun _ _ _ _ us hl=>match us,hl with | [_,_],_=>rfl)
 ·have hl2:SqL K' (remX xs H2) lp us:=.inl (.inl (by rw[Zc9 nlp];exact h2l))
  have hu2:Paired (IsPf K' (remX xs H2)) us (preP (t,0)):=Paired.mapP hu1 fun _ p z=>Dn.moveT inn (Zq1 p) (IsPf.keep z (SameT.keepT s2.toT));refine⟨lp,us,rfl,⟨hJ.inn _ _ _ _ a1 kle (hJ.keep _ _ _ sA.toT j0),hl2,hu2⟩,hl2,hu2,hz,fun r H3 e3 hr3 n3=>?_⟩;have sb:=Yj4 e3;refine q _ _ (sA.trans sb.toV) (tb2.keep sb) (Dn.moveT (Yd6 kback (fun p hp=>?_) n3) (Te.noList _) hr3);rcases List.mem_append.mp hp with hp | hp
  ·exact a2 p hp
  ·exact cw.2.2 p hp
theorem sc_ay0:FnScope ["term","by","of_at"] ["term","by"] (Za3 (top 14)):=scm (by decide +kernel)
noncomputable abbrev Zc4:Stmt:=Xi5 (top 14) 0
theorem Zx7:FnScopeC ["k","front","by"] ["k","front"] ["by"] (Za3 Zc4):=⟨rfl,rfl,rfl,by decide +kernel,rfl,by decide +kernel,by decide +kernel,by decide +kernel⟩
noncomputable abbrev Zh9:Str:=("lifted":Str)++Str.ofString ".<locals>."++"of_at"
theorem Ya0:∀ y∈(Za3 Zc4).names,y.2=NameKind.free→(Za3 (top 14)).names.lookup y.1=some NameKind.cell:=by decide +kernel
noncomputable def Zc7:List (Pos×Str):=[(posOf Zc4,Zh9)]
theorem Yk5 {H:Hp} {p:Addr} {k:Nat} (h:SqT K H p [.str "at",.int (k:Nat)]):IsE K H (.ref p) (.at k):=isE_view.mpr ⟨p,_,rfl,h,dnAll_cons (dn_str.mpr rfl) (dnAll_cons (dn_int.mpr rfl) dnAll_nil)⟩
theorem Zy4 {k:Nat} {cl:List (Str×Addr)} {f:Addr} {fd:FuncData} (F:FunC K "of_at" Zh9 Zc4 cl f fd) {n:Nat} {J:Hp→Prop} {AA:Nat→Nat→Prop}
  (C:Caught K (Za3 Zc4) cl ["by"] [.int (n:Nat)]):Fk0 P w K mg base (k+1) f fd ["k","front"] (Zx0 K J (Zb5 n) AA):=by
 refine F.ok Zx7 C (fun vs H Q E h=>?_) (fun cdv A outer s H vs Q E hr h=>?_)
 ·obtain⟨k0,f0,rfl,_⟩:=h
  rfl
 obtain⟨k0,f0,rfl,j1,hA,q⟩:=h;refine⟨_,(Za7 (Zb2 (Zb1 (Za0 Za8 (Za0 (Yf1 (ptcM (Yv2) (pvM 0) (pvM 1)) (Zb8 Zd3 (pvM 0) (pvM 2)) (pvM 0)) Za1))))),?_⟩;walk_at "1"
 by_cases c:f0≤k0
 ·rw[if_pos (by walk_at "o")]
  refine⟨by decide,fun p hp=>q _ _ (Za6 hp _) ?_⟩;show IsE K _ _ (.at (if f0≤k0 then k0+n else k0));rw[if_pos c];exact Yk5 (.inl (.inl Za5))
 ·rw[if_neg (by walk_at "o")]
  refine⟨by decide,fun p hp=>q _ _ (Za6 hp _) ?_⟩;show IsE K _ _ (.at (if f0≤k0 then k0+n else k0));rw[if_neg c];exact Yk5 (.inl (.inl Za5))
abbrev GCh (P:Program) (w:World) (K:W.Frag) (mg:Str→Option Value) (j:Nat) (T:Addr) (f_aw0:Addr) (fd_aw0:FuncData):Prop:=∀ (K':W.Frag) (base:Heap) (J:JP) (FF:Nat→Nat→Te) (AA:Nat→Nat→Prop) (f1:Addr) (fd1:FuncData),KLe K K'→JOk J →
 (∀ K2 base,KLe K' K2→FnOk P w K2 mg base CX0 j f1 fd1 ["k","front"] (Zx0 K2 (J K2) FF AA))→(∀ K2,KLe K' K2→W.keepIn K2 (.ref f1)=true)→Binds K' fd1 ["k","front"] []→FnOk P w K' mg base CX0 (j+3) f_aw0 fd_aw0 ["term","of_at"] (Zn2 K' T Zb6 J FF AA f1)
theorem Wf9 {j:Nat} {T T1:Addr} {f_ay0:Addr} {fd_ay0:FuncData} (F_ay0:FunT K "lifted" "lifted" (top 14) f_ay0 fd_ay0 T) (hB:∀ h,K.In h→h.BuiltinsAt mg T) (hT:mainGlobals≠T) (hne:T≠T1)
  {f_aw0:Addr}{fd_aw0:FuncData}(m_aw0:MgI mg "changed" f_aw0)(k_aw0:KpI K f_aw0)(b_aw0:Binds K fd_aw0 ["term","of_at"] [])(GC:GCh P w K mg (j+1) T1 f_aw0 fd_aw0) :
  Fk0 P w K mg base (j+5) f_ay0 fd_ay0 ["term","by"] (Yi5 K T1 T Zb6 Zc7):=by
 refine F_ay0.ok sc_ay0 (fun vs H Q E h=>?_) (fun c A outer s H vs Q E hC hr h=>?_)
 ·obtain⟨v,t,n,rfl,_⟩:=h
  rfl
 obtain⟨v,t,n,rfl,hT1,hz,tab1,tab,q⟩:=h
 have hix:∀ i∈([1]:List Nat),∃ x,(["term","by","of_at"]:List Str)[i]?=some x∧(Za3 (top 14)).names.lookup x=some .cell∧(fun _:Str=>true) x=true:=by
  intro i hi;rcases List.mem_singleton.mp hi with rfl;exact⟨"by",rfl,rfl,rfl⟩
 refine⟨_,(Za4 (Zy0 (st:=Zc4) (i:=2) (qual:=Zh9) (ds:=Zc7) rfl sc_ay0.nd rfl (Or.inl rfl) (Zf7 (fun y hy hf=>Zl4 (Ya0 y hy hf))) rfl hC hB hT rfl (by simp[Zc7]) (by decide +kernel) rfl rfl rfl)
 (Za7 (Zb2 (Zq3 (ix:=[1]) hr (by exact rfl) m_aw0 k_aw0 b_aw0 hix (Za0 (pvM 0) (Za0 (pvM 2) Za1)))))),?_⟩
 generalize hX:(cxOf CX0 P w K mg base ["term","by","of_at"] "lifted" (Za3 (top 14)) f_ay0 (.ref c) A outer s H E).nox=X
 have eP:X.prog=P:=by rw[← hX];rfl
 have ew:X.w=w:=by rw[← hX];rfl
 have eK:X.K=K:=by rw[← hX];rfl
 have em:X.mg=mg:=by rw[← hX];rfl
 have eN:X.N=(["term","by","of_at"]:List Str):=by rw[← hX];rfl
 have ec:(PyProof.Rows.envOfC "lifted" (Za3 (top 14)) s.heap.objs.size f_ay0 (.ref c)).cells=X.env.cells:=by rw[← hX];rfl
 refine sqt (fun σ' H'=>∃ f1,σ'=[some v,some (.int (n:Nat)),some (.ref f1)]∧SameU T H H'∧TabOk H' T Zc7∧FnFz H' f1 "of_at" Zh9 (Zc5 Zc4) (Zc1 Zc4) (Za3 Zc4) (Zi9 X.env.cells (Za3 Zc4).names [])) ?_ ?_
 ·intro C hC'
  exact⟨tab,fun f H' n sm tb fn=>hC' _ _ ⟨f,rfl,sm,tb,ec▸fn⟩⟩
 rintro σ2 H2 ⟨f1,rfl,s2,tb2,fn1⟩;obtain⟨o1,c1,p1,a1,a2,a3,a4⟩:=fn1.objs2;have tb1:TabOk H2 T1 Zb6:=s2.toV.tab (by simpa using fun z=>hne z.symm) tab1;show Zl6 X _ _ _ _ [1] _ _ _ _;unfold Zl6;walk_at "1";refine⟨fun i hi=>?_,[(f1,o1),(c1,p1)],a1,fun K' cs ok kle kback hlk hcs=>?_⟩
 ·rcases List.mem_singleton.mp hi with rfl
  exact⟨_,rfl⟩
 rw[eK] at kle kback;obtain⟨fd1,G1⟩:=a4 K' fun p hp=>hlk p (List.mem_append_left _ hp)
 have cw:Zu5 X K' "by" (.int (n:Nat))∧∀ p∈cs,∀ its n,p.2.data≠.seq its n:=by
  cases hcs with
  | cons h1 r1 =>
   cases r1;obtain⟨x1,v1,u1,e1,e2,e3,e4,e5⟩:=h1;rw[eN] at e1;cases e1;cases e2;refine⟨⟨_,_,u1,e3,hlk _ (List.mem_append_right _ (by simp)),e4,e5⟩,fun p hp its n z=>?_⟩;rcases List.mem_singleton.mp hp with rfl;rw[e4] at z;cases z
 have C1:Caught K' (Za3 Zc4) (Zi9 X.env.cells (Za3 Zc4).names []) ["by"] [.int (n:Nat)] :=
  Zn0 ok rfl (by decide +kernel) (by decide +kernel) fun i y u e1 e2=>by
   match i,e1,e2 with
   | 0,e1,e2=>cases e1;cases e2;exact cw.1
 have a3:=a3 Zb6 (by decide +kernel);generalize [(f1,o1),(c1,p1)]=xs at a1 a2 a3 hlk kback ⊢;have inn:=Yb3 a1 kle;refine⟨Zn2 K' T1 Zb6 (fun _ _=>True) (Zb5 n) (fun _ _=>True) f1,fun base'=>?_,?_⟩
 ·rw[eP,ew,em]
  exact GC K' base' _ _ _ f1 fd1 kle ⟨fun _ _ _ _ _=>trivial,fun _ _ _ _ _ _ _=>trivial⟩ (fun K2 base2 k2=>Zy4 (G1.le k2) (C1.le k2)) (fun K2 k2=>(G1.le k2).kp) (G1.binds fun _ _ _ _ us hl=>match us,hl with | [_,_],_=>rfl)
 ·refine⟨v,t,rfl,Dn.moveT inn t.noList (IsE.keep hT1 (SameT.keepT s2.toT)),hz,trivial,fun _ _ _=>trivial,tb1.rem a1 a3,fun r H3 e3 t3 hr3 n3=>?_⟩
  have sb:=e3.back;refine q _ _ ((s2.toV.mono (by simp)).trans (sb.mono (by simp))) (t3.back n3) (sb.tab (by simpa using hne) tb2) (Dn.moveT (Yd6 kback (fun p hp=>?_) n3) (Te.noList _) hr3);rcases List.mem_append.mp hp with hp | hp
  ·exact a2 p hp
  ·exact cw.2 p hp
theorem sc_bb0:FnScope ["term","other","fronts","lifts","of_at"] ["term","other"] (Za3 (top 15)):=scm (by decide +kernel)
noncomputable abbrev Zd6:Stmt:=Xi5 (top 15) 2
theorem Yj3:FnScopeC ["k","front","lifts"] ["k","front"] ["lifts"] (Za3 Zd6):=⟨rfl,rfl,rfl,by decide +kernel,rfl,by decide +kernel,by decide +kernel,by decide +kernel⟩
noncomputable abbrev Zk8:Str:=("put":Str)++Str.ofString ".<locals>."++"of_at"
theorem Yl5:∀ y∈(Za3 Zd6).names,y.2=NameKind.free→(Za3 (top 15)).names.lookup y.1=some NameKind.cell:=by decide +kernel
noncomputable def Zi4:List (Pos×Str):=[(posOf Zd6,Zk8)]
theorem Yj8 {k:Nat} {cl:List (Str×Addr)} {f:Addr} {fd:FuncData} (F:FunC K "of_at" Zk8 Zd6 cl f fd) {dl:Addr} {kvs:List (Key×V)} {fr:List Int} {o:Te}
  (C:Caught K (Za3 Zd6) cl ["lifts"] [.ref dl]):Fk0 P w K mg base (k+1) f fd ["k","front"] (Zx0 K (JPut dl kvs fr o K) (Ken.putF o) (fun k f=>k=f→(f:Int)∈fr)):=by
 refine F.ok Yj3 C (fun vs H Q E h=>?_) (fun cdv A outer s H vs Q E hr h=>?_)
 ·obtain⟨k0,f0,rfl,_⟩:=h
  rfl
 obtain⟨k0,f0,rfl,j1,hA,q⟩:=h
 refine⟨_,(Za4 (Zd7 (ptcM (Zf2) (pvM 0) (pvM 1))
  (Za7 (Zb2 (Xw9 (Wj2 hr) (pvM 2) (pvM 1) (fun _ _=>rfl))))
  Zb4)
 (Za7 (Zb2 (Zb1 (Za0 Za8 (Za0 (Yf1 (ptcM (Yv1) (pvM 0) (pvM 1)) (Zb8 Zo5 (pvM 0) Za2) (pvM 0)) Za1)))))),?_⟩
 walk_at "1"
 by_cases c:k0=f0
 ·subst c
  obtain⟨u,h1,h2⟩:=j1.2 k0 (hA rfl);rw[if_pos (by simp)];refine⟨u,?_,q _ _ (Same.refl _) ?_⟩
  ·have:=DGet.k (k:=Sum.inl (k0:Int)) j1.1
   rw[h1] at this;exact this
  ·show IsE K H u (if k0=k0 then o.mp (Zb5 k0) 0 else _)
   rw[if_pos rfl];exact h2
 ·rw[if_neg (by simpa using fun z:(k0:Int)=f0=>c (by walk_at "o"))]
  have e1:Ken.putF o k0 f0=.at (if f0 < k0 then k0 - 1 else k0):=by unfold Ken.putF;rw[if_neg c]
  by_cases d:f0 < k0
  ·rw[if_pos (by walk_at "o")]
   refine⟨by decide,fun p hp=>q _ _ (Za6 hp _) ?_⟩;rw[e1,if_pos d]
   have e2:((k0:Int) - 1)=((k0 - 1:Nat):Int):=by walk_at "o"
   rw[e2];exact Yk5 (.inl (.inl Za5))
  ·rw[if_neg (by walk_at "o")]
   refine⟨by decide,fun p hp=>q _ _ (Za6 hp _) ?_⟩;rw[e1,if_neg d];exact Yk5 (.inl (.inl Za5))
theorem Wf8 {j:Nat} {T T1 T2:Addr} {f_bb0:Addr} {fd_bb0:FuncData} (F_bb0:FunT K "put" "put" (top 15) f_bb0 fd_bb0 T) (hB:∀ h,K.In h→h.BuiltinsAt mg T) (hT:mainGlobals≠T) (ne1:T≠T1) (ne2:T≠T2) (ne12:T1≠T2)
  {f_aw0:Addr}{fd_aw0:FuncData}(m_aw0:MgI mg "changed" f_aw0)(k_aw0:KpI K f_aw0)(b_aw0:Binds K fd_aw0 ["term","of_at"] [])(GC:GCh P w K mg (j+3) T1 f_aw0 fd_aw0)
  (C_standing:Cl P w K mg base (j+6) "standing" pq24 (Zf4 K))
  (C_lifted:Cl P w K mg base (j+6) "lifted" ["term","by"] (Yi5 K T1 T2 Zb6 Zc7)) (m_sorted:mg "sorted"=none) :
  Fk0 P w K mg base (j+7) f_bb0 fd_bb0 ["term","other"] (Yt3 K T1 T2 T Zb6 Zc7 Zi4):=by
 refine F_bb0.ok sc_bb0 (fun vs H Q E h=>?_) (fun c A outer s H vs Q E hC hr h=>?_)
 ·obtain⟨v,t,ov,o,rfl,_⟩:=h
  rfl
 obtain⟨v,t,ov,o,rfl,hT1,hO,hz,hoz,hdp,hok,tab1,tab2,tab,q⟩:=h
 have hix:∀ i∈([1,3]:List Nat),∃ x,(["term","other","fronts","lifts","of_at"]:List Str)[i]?=some x∧(Za3 (top 15)).names.lookup x=some .cell∧(fun _:Str=>true) x=true:=by
  intro i hi;simp only[List.mem_cons,List.not_mem_nil,or_false] at hi;rcases hi with rfl | rfl
  ·exact⟨"other",rfl,rfl,rfl⟩
  ·exact⟨"lifts",rfl,rfl,rfl⟩
 refine⟨_,(Za4 (pst 2 sc_bb0.nd (Zd2 (Yg8 (P:=P) (w:=w) rfl rfl rfl) (by exact rfl) m_sorted Yr8 (Za0 (We0 (P:=P) (w:=w) rfl rfl (blk0 (N':=["piece","front"]) (by decide +kernel) (by decide +kernel) rfl (by decide +kernel)) rfl (Yo9 (Zd1 C_standing hr (Za0 (pvM 0) Za1))) (fun _ _ _ _=>(Yp0 (K:=K) (n:=2) rfl rfl (Zc6 (Zc2 (i:=0) (show (["piece","front"]:List Str).Nodup from by decide +kernel) rfl (Or.inl rfl)) (Zc6 (Zc2 (i:=1) (show (["piece","front"]:List Str).Nodup from by decide +kernel) rfl (Or.inl rfl)) Zi6)) rfl rfl)) (fun _ _=>Xv1 (tg2:=(.Name "" ⟨0,0,0,0⟩)) (iter2:=(.Name "" ⟨0,0,0,0⟩))) (fun _ _ _ _ _=>(Xe6 (ptcM (Xx3 (K:=K) rfl (Xi6 hr)) (pvM 0) (Zb1 (Za0 Za8 (Za0 (pvM 1) Za1)))) (Xe7 (P:=P) (w:=w) rfl rfl (pvM 1))))) Za1)))
 (Za4 (Zu1 (i:=3) sc_bb0.nd rfl (Or.inr rfl) (We3 (blkC (N':=["front","other"]) (nt:=1) (ci:=[1]) ["term","other","fronts","lifts","of_at"] (Za3 (top 15)) rfl rfl (by decide +kernel) rfl (by decide +kernel) (by decide +kernel) rfl (by decide +kernel)) rfl (Yo9 (pvM 2)) (fun _ _ _ _=>(Zc2 (i:=0) (show (["front","other"]:List Str).Nodup from by decide +kernel) rfl (Or.inl rfl))) (fun _ _=>Xv3 (c:=(.Name "" ⟨0,0,0,0⟩)) (tg2:=(.Name "" ⟨0,0,0,0⟩))) (fun _ _ _ _ _=>(Xp0 (Nat.lt_of_succ_lt (Wj2 hr)) (pvM 0) (Zd1 C_lifted hr (Za0 (pvM 1) (Za0 (pvM 0) Za1)))))))
 (Za4 (Zy0 (st:=Zd6) (i:=4) (qual:=Zk8) (ds:=Zi4) rfl sc_bb0.nd rfl (Or.inl rfl) (Zf7 (fun y hy hf=>Zl4 (Yl5 y hy hf))) rfl hC hB hT rfl (by simp[Zi4]) (by decide +kernel) rfl rfl rfl)
 (Za7 (Zb2 (Zq3 (ix:=[1,3]) hr (by exact rfl) m_aw0 k_aw0 b_aw0 hix (Za0 (pvM 0) (Za0 (pvM 4) Za1)))))))),?_⟩
 generalize hX:(cxOf CX0 P w K mg base ["term","other","fronts","lifts","of_at"] "put" (Za3 (top 15)) f_bb0 (.ref c) A outer s H E).nox=X
 have eP:X.prog=P:=by rw[← hX];rfl
 have ew:X.w=w:=by rw[← hX];rfl
 have eK:X.K=K:=by rw[← hX];rfl
 have em:X.mg=mg:=by rw[← hX];rfl
 have eN:X.N=(["term","other","fronts","lifts","of_at"]:List Str):=by rw[← hX];rfl
 have ec:(PyProof.Rows.envOfC "put" (Za3 (top 15)) s.heap.objs.size f_bb0 (.ref c)).cells=X.env.cells:=by rw[← hX];rfl
 refine sqt (fun σ' H'=>∃ (lf:Addr) (fr:List Int),σ'=[some v,some ov,some (.ref lf),none,none]∧Same H H'∧H' lf=some (.lst (fr.map V.int))∧fr.length < 64∧(∀ x∈fr,0≤x)∧∀ f,(Te.at f,f)∈t.pre 0→(f:Int)∈fr) ?_ ?_
 ·intro C hC'
  rw[eK];walk_at "1";refine⟨v,t,rfl,hT1,hz,fun r H1 us e1 f1 h1 hu=>⟨r,rfl,⟨_,SqL.of h1⟩,fun acc hacc=>?_⟩⟩;have lu:=Paired.length hu;refine Yl1 (xs:=us) (fun i H'=>Same H1 H'∧∃ xs,H' acc=some (Ye1 P w acc xs)∧xs.Nodup∧(∀ x∈xs,∃ f:Nat,x=(f:Int)∧f < 60)∧∀ f:Nat,(Te.at f,f)∈(t.pre 0).take i→(f:Int)∈xs) ⟨Za6 hacc _,[],Za5,List.nodup_nil,fun x hx=>absurd hx (by simp),fun f hf=>absurd hf (by simp)⟩ (fun i H' _ ⟨e,_⟩=>SqL.of (e _ _ h1)) (fun i u H' N hx ⟨e,xs,ha,nd,hb,hm⟩ hN=>?_) (fun H' ⟨e,xs,ha,nd,hb,hm⟩=>?_)
  ·obtain⟨p,hp,hxp⟩:=Ze3 hu hx
   obtain⟨tp,fp⟩:=p;have pm:(tp,fp)∈t.pre 0:=List.mem_of_getElem? hp;have pf:=Zi2 pm;obtain⟨pa,x0,rfl,hs0,hx0⟩:=isPf.mp (hxp.keep e.keepT);have xl:=Yk1 nd hb;have eo:(t.pre 0).take (i+1)=(t.pre 0).take i++[(tp,fp)]:=Zp0 hp;walk_at "1";have wk2:Wk [none,none] [some x0,some (.int (fp:Nat))]:=(Yb2 (σ:=[none,none]) (i:=0) rfl).trans (Yb2 (σ:=[some x0,none]) (i:=1) rfl);refine⟨_,hs0,rfl,_,_,rfl,_,_,rfl,rfl,wk2,by decide,fun p hp'=>?_⟩;have kA:=Zd4 (K:=K) (o:=.tup [.str "at",.int (fp:Nat)]) hp';refine⟨tp.data,IsE.keep hx0 kA,(Te.at fp).data,Yk5 (.inl (.inl Za5)),Te.lay (Zk9 hok pm),Wk3 fp,Nat.le_trans (Nat.min_le_right _ _) (by show (1:Nat)≤150;decide),?_⟩;rw[if_neg Bool.false_ne_true,Wj5]
   have ha':upd H' p (.tup [.str "at",.int (fp:Nat)]) acc=some (Ye1 P w acc xs):=by rw[Zb0 (Za9 ha hp')];exact ha
   by_cases ca:tp=.at fp
   ·subst ca
    rw[if_pos (by simp)];refine⟨_,rfl,xs,ha',by walk_at "o",hN _ ⟨(e.trans (Za6 hp' _)).write hacc,_,Za5,?_,fun x hx'=>?_,fun f hf=>?_⟩⟩
    ·by_cases hy:(fp:Int)∈xs
     ·rw[if_pos hy];exact nd
     ·rw[if_neg hy,List.nodup_append]
      exact⟨nd,by simp,fun a ha b hb=>by rw[List.mem_singleton.mp hb];exact fun z=>hy (z▸ha)⟩
    ·by_cases hy:(fp:Int)∈xs
     ·rw[if_pos hy] at hx';exact hb x hx'
     ·rw[if_neg hy] at hx'
      rcases List.mem_append.mp hx' with z | z
      ·exact hb x z
      ·exact⟨fp,List.mem_singleton.mp z,by have:fp < 0+t.bnd:=pf;walk_at "o"⟩
    ·rw[eo] at hf
     have hf':(f:Int)∈xs∨f=fp:=by
      rcases List.mem_append.mp hf with z | z
      ·exact .inl (hm f z)
      ·have:=List.mem_singleton.mp z
       exact .inr (Prod.mk.inj this).2
     by_cases hy:(fp:Int)∈xs
     ·rw[if_pos hy]
      rcases hf' with z | z
      ·exact z
      ·rw[z];exact hy
     ·rw[if_neg hy]
      rcases hf' with z | z
      ·exact List.mem_append_left _ z
      ·rw[z];exact List.mem_append_right _ (List.mem_singleton.mpr rfl)
   ·rw[if_neg (by simpa using ca)]
    refine hN _ ⟨e.trans (Za6 hp' _),xs,ha',nd,hb,fun f hf=>?_⟩;rw[eo] at hf;rcases List.mem_append.mp hf with z | z
    ·exact hm f z
    ·have:=List.mem_singleton.mp z
     obtain⟨z1,z2⟩:=Prod.mk.inj this;exact absurd (by rw[← z1,z2]) ca
  ·have xl:=Yk1 nd hb
   refine⟨xs,ha,by walk_at "o",fun l ys hl hpm=>hC' _ _ ⟨l,ys,rfl,(e1.trans e).trans (Za6 hl _),Za5,by rw[hpm.length_eq];walk_at "o",fun x hx=>?_,fun f hf=>?_⟩⟩
   ·obtain⟨f,rfl,_⟩:=hb x (hpm.mem_iff.mp hx)
    walk_at "o"
   ·rw[lu,List.take_length] at hm
    exact hpm.mem_iff.mpr (hm f hf)
 rintro σ1 H1 ⟨lf,fr,rfl,e1,hl1,hfl,hf0,hfr⟩;refine sqt (fun σ' H'=>∃ dl kvs,σ'=[some v,some ov,some (.ref lf),some (.ref dl),none]∧SameV [T1,T2] H1 H'∧TabOk H' T1 Zb6∧TabOk H' T2 Zc7∧H' dl=some (.dK kvs)∧∀ f:Nat,(f:Int)∈fr→∃ u,valV kvs (Sum.inl (f:Int))=some u∧IsE K H' u (o.mp (Zb5 f) 0)) ?_ ?_
 ·intro C hC'
  rw[eK];walk_at "1"
  have f0:∀ acc,H1 acc=none→H1 lf≠none:=fun acc _ z=>by rw[hl1] at z;cases z
  refine⟨⟨_,SqL.of hl1⟩,fun acc hacc=>?_⟩
  have nlf:lf≠acc:=fun z=>by rw[z,hacc] at hl1;cases hl1
  refine Yl1 (xs:=fr.map V.int) (fun i H'=>SameV [T1,T2] H1 H'∧TabOk H' T1 Zb6∧TabOk H' T2 Zc7∧∃ kvs,H' acc=some (.dK kvs)∧kvs.length≤i∧∀ f:Nat,(f:Int)∈fr.take i→∃ u,valV kvs (Sum.inl (f:Int))=some u∧IsE K H' u (o.mp (Zb5 f) 0))
   ⟨(Za6 hacc _).toV,(tab1.keep e1).keep (Za6 hacc _),(tab2.keep e1).keep (Za6 hacc _),[],Za5,Nat.le_refl _,fun f hf=>absurd hf (by simp)⟩ (fun i H' _ ⟨e,_⟩=>SqL.of (e.toT _ _ (fun _ z=>nomatch z) hl1)) (fun i u H' N hx ⟨e,t1,t2,kvs,ha,hkl,hm⟩ hN=>?_) (fun H' ⟨e,t1,t2,kvs,ha,hkl,hm⟩=>?_)
  ·rw[List.getElem?_map] at hx
   obtain⟨x,hx',rfl⟩:=Option.map_eq_some_iff.mp hx;have hx0:=hf0 x (List.mem_of_getElem? hx');obtain⟨f,rfl⟩:=Int.eq_ofNat_of_zero_le hx0;have il:i < fr.length:=(List.getElem?_eq_some_iff.mp hx').1;walk_at "1";refine⟨Yd3,ov,o,f,rfl,IsE.keep hO (e1.keepT.trans (SameT.keepT e.toT)),hoz,t1,t2,fun r H2 e2 t1' t2' hr'=>?_⟩;have ha2:H2 acc=some (.dK kvs):=e2.toT _ _ (fun _ z=>nomatch z) ha;have kB:=Xp5 (K:=K) (o:=.dK (putK kvs (Sum.inl (f:Int)) r)) ha2;have wr:∀ {T:Addr} {ds:List (Pos×Str)},TabOk H2 T ds→TabOk (upd H2 acc (.dK (putK kvs (Sum.inl (f:Int)) r))) T ds:=fun h=>h.put ha2 (fun _ z=>nomatch z) (fun _ z=>nomatch z);refine⟨_,DPut.k (k:=Sum.inl (f:Int)) ha2 (Zk6 (by walk_at "o")),hN _ ⟨(e.trans e2).write hacc,wr t1',wr t2',_,Za5,?_,fun f' hf'=>?_⟩⟩
   ·have:=Zo7 kvs (Sum.inl (f:Int)) r
    walk_at "o"
   ·rw[Xn0]
    by_cases ef:f'=f
    ·subst ef
     exact⟨r,by rw[if_pos rfl],IsE.keep hr' kB⟩
    ·rw[Zp0 hx'] at hf'
     rcases List.mem_append.mp hf' with z | z
     ·obtain⟨u,h1,h2⟩:=hm f' z
      exact⟨u,by rw[if_neg (fun q=>ef (by have:=Sum.inl.inj q;walk_at "o"))];exact h1,IsE.keep h2 ((SameT.keepT e2.toT).trans kB)⟩
     ·exact absurd (by have:=List.mem_singleton.mp z;walk_at "o") ef
  ·rw[List.length_map,List.take_length] at hm
   exact hC' _ _ ⟨acc,kvs,rfl,e,t1,t2,ha,hm⟩
 rintro σ2 H2 ⟨dl,kvs,rfl,e2,t1,t2,hd2,hm2⟩;have e02:SameV [T1,T2] H H2:=e1.toV.trans e2;have tb0:TabOk H2 T Zi4:=e02.tab (by simp[ne1,ne2]) tab;refine sqt (fun σ' H'=>∃ f1,σ'=[some v,some ov,some (.ref lf),some (.ref dl),some (.ref f1)]∧SameU T H2 H'∧TabOk H' T Zi4∧FnFz H' f1 "of_at" Zk8 (Zc5 Zd6) (Zc1 Zd6) (Za3 Zd6) (Zi9 X.env.cells (Za3 Zd6).names [])) ?_ ?_
 ·intro C hC'
  exact⟨tb0,fun f H' n sm tb fn=>hC' _ _ ⟨f,rfl,sm,tb,ec▸fn⟩⟩
 rintro σ3 H3 ⟨f1,rfl,s3,tb3,fn1⟩;obtain⟨o1,c1,p1,a1,a2,a3,a4⟩:=fn1.objs2;have tb1:TabOk H3 T1 Zb6:=s3.toV.tab (by simpa using fun z=>ne1 z.symm) t1;have tb2:TabOk H3 T2 Zc7:=s3.toV.tab (by simpa using fun z=>ne2 z.symm) t2;have jp:JPut dl kvs fr o K H3:=(Yp9 dl kvs fr o).keep _ _ _ s3.toT ⟨hd2,hm2⟩;show Zl6 X _ _ _ _ [1,3] _ _ _ _;unfold Zl6;walk_at "1";refine⟨fun i hi=>?_,[(f1,o1),(c1,p1)],a1,fun K' cs ok kle kback hlk hcs=>?_⟩
 ·simp only[List.mem_cons,List.not_mem_nil,or_false] at hi
  rcases hi with rfl | rfl
  ·exact⟨_,rfl⟩
  ·exact⟨_,rfl⟩
 rw[eK] at kle kback;obtain⟨fd1,G1⟩:=a4 K' fun p hp=>hlk p (List.mem_append_left _ hp)
 have cw:Zu5 X K' "lifts" (.ref dl)∧∀ p∈cs,∀ its n,p.2.data≠.seq its n:=by
  cases hcs with
  | cons h1 r1 =>
   cases r1 with
   | cons h2 r2 =>
    cases r2;obtain⟨x1,v1,u1,e1,e2,e3,e4,e5⟩:=h1;obtain⟨x2,v2,u2,g1,g2,g3,g4,g5⟩:=h2;rw[eN] at e1 g1;cases e1;cases e2;cases g1;cases g2;refine⟨⟨_,_,u2,g3,hlk _ (List.mem_append_right _ (by simp)),g4,g5⟩,fun p hp its n z=>?_⟩;simp only[List.mem_cons,List.not_mem_nil,or_false] at hp;rcases hp with rfl | rfl
    ·rw[e4] at z;cases z
    ·rw[g4] at z;cases z
 have C1:Caught K' (Za3 Zd6) (Zi9 X.env.cells (Za3 Zd6).names []) ["lifts"] [.ref dl] :=
  Zn0 ok rfl (by decide +kernel) (by decide +kernel) fun i y u e1 e2=>by
   match i,e1,e2 with
   | 0,e1,e2=>cases e1;cases e2;exact cw.1
 have a3:=a3 Zb6 (by decide +kernel);generalize [(f1,o1),(c1,p1)]=xs at a1 a2 a3 hlk kback ⊢;have inn:=Yb3 a1 kle;refine⟨Zn2 K' T1 Zb6 (JPut dl kvs fr o) (Ken.putF o) (fun k f=>k=f→(f:Int)∈fr) f1,fun base'=>?_,?_⟩
 ·rw[eP,ew,em]
  exact GC K' base' _ _ _ f1 fd1 kle (Yp9 dl kvs fr o) (fun K2 base2 k2=>Yj8 (G1.le k2) (C1.le k2)) (fun K2 k2=>(G1.le k2).kp) (G1.binds fun _ _ _ _ us hl=>match us,hl with | [_,_],_=>rfl)
 ·refine⟨v,t,rfl,Dn.moveT inn t.noList (IsE.keep hT1 ((SameT.keepT e02.toT).trans (SameT.keepT s3.toT))),hz,(Yp9 dl kvs fr o).inn _ _ _ _ a1 kle jp,fun k f hkf e=>hfr f (e▸hkf),tb1.rem a1 a3,fun r H4 e4 t4 hr4 n4=>?_⟩
  have sb:=e4.back;refine q _ _ (((e02.mono (by simp)).trans (s3.toV.mono (by simp))).trans (sb.mono (by simp))) (t4.back n4) (sb.tab (by simpa using fun z=>ne12 z.symm) tb2) (sb.tab (by simpa using ne1) tb3) (Dn.moveT (Yd6 kback (fun p hp=>?_) n4) (Te.noList _) hr4);rcases List.mem_append.mp hp with hp | hp
  ·exact a2 p hp
  ·exact cw.2 p hp
theorem _root_.L2.FunT.le {K K':W.Frag} (k:KLe K K') {x qual:Str} {st:Stmt} {f:Addr} {fd:FuncData} {T:Addr} (F:FunT K x qual st f fd T):FunT K' x qual st f fd T:=by
 obtain⟨⟨oc,od,kV,doc,pm,an,c,ct,osl,e,lk,hc,hC⟩,kp⟩:=F;refine⟨⟨oc,od,kV,doc,pm,an,c,ct,osl,e,k _ _ lk,Zz9 k hc,fun h hK=>hC h fun a o e=>hK a o (k a o e)⟩,?_⟩;exact Zr2 (k _ _ lk)
theorem Yq9 {j:Nat} {T:Addr} {f_aw0:Addr} {fd_aw0:FuncData} (F_aw0:FunT K "changed" "changed" (top 9) f_aw0 fd_aw0 T) (hB:∀ h,K.In h→h.BuiltinsAt mg T) (hT:mainGlobals≠T)
  {aINNER:Addr} {aT:Nat→Addr} (m_aa0:MgI mg "INNER" aINNER) (D_INNER:KDict K w aINNER (innV aT)) (hI:Inn K aT) (m_reversed:mg "reversed"=none) (m_range:mg "range"=none) (m_len:mg "len"=none) (m_list:mg "list"=none) (m_zip:mg "zip"=none) (m_tuple:mg "tuple"=none)
  {f_bc0:Addr}{fd_bc0:FuncData}(F_bc0:Fun K "standing" "standing" (top 6) f_bc0 fd_bc0)(m_bc0:MgI mg "standing" f_bc0)(b_bc0:Binds K fd_bc0 pq24 [])
  {f_bl0:Addr}{fd_bl0:FuncData}(F_bl0:Fun K "with_inner" "with_inner" (top 8) f_bl0 fd_bl0)(m_bl0:MgI mg "with_inner" f_bl0)(b_bl0:Binds K fd_bl0 pq17 [])
  {f_be0:Addr}{fd_be0:FuncData}(F_be0:Fun K "term_folded" "term_folded" (top 7) f_be0 fd_be0)(m_be0:MgI mg "term_folded" f_be0)(b_be0:Binds K fd_be0 pq18 []) :
  GCh P w K mg (j+1) T f_aw0 fd_aw0:=fun K' base J FF AA f1 fd1 kle hJ G1 k1 b1 =>
 Wg1 (j:=j+1) (F_aw0.le kle) (fun h hK=>hB h fun a o e=>hK a o (kle a o e)) hT hJ
  (.of (Xf9 (k:=j+2) (F_bc0.le kle) m_aa0 (D_INNER.le kle) (hI.le kle) m_reversed) m_bc0 (F_bc0.le kle).kp (b_bc0.le kle))
  (fun K2 base k2=>Xs7 (k:=j) (F_bl0.le (kle.trans k2)) m_aa0 (D_INNER.le (kle.trans k2)) (hI.le (kle.trans k2)) m_list m_zip m_tuple) m_bl0 (fun K2 k2=>(F_bl0.le (kle.trans k2)).kp) (b_bl0.le kle)
  m_be0 (F_be0.le kle).kp (b_be0.le kle)
  (fun K2 base J R p0 f2 fd2 k2 hJ hR G k b=>Xs8 (k:=j+2) hJ hR (F_be0.le (kle.trans k2)) m_aa0 (D_INNER.le (kle.trans k2)) (hI.le (kle.trans k2)) m_reversed m_range m_len G k b)
  G1 k1 b1
theorem Wc3:FnScope ["term"] ["term"] (Za3 (top 21)):=scm (by decide +kernel)
theorem Wc6:FnScope ["term"] ["term"] (Za3 (top 11)):=scm (by decide +kernel)
theorem Wf1 {k:Nat} {f_bk0:Addr} {fd_bk0:FuncData} (F_bk0:Fun K "turns" "turns" (top 21) f_bk0 fd_bk0) {aTURNING:Addr} {aU:Nat→Addr} (m_ae0:MgI mg "TURNING" aTURNING) (D_TURNING:KDict K w aTURNING (turnV aU)) (hU:Tng K aU):Fk0 P w K mg base (k+1) f_bk0 fd_bk0 pq24 (Yt1 K):=by
 refine F_bk0.ok Wc3 (fun vs H Q E h=>?_) (fun cdv A outer s H vs Q E hr h=>?_)
 ·obtain⟨v,t,rfl,_⟩:=h
  rfl
 obtain⟨v,t,rfl,hT,q⟩:=h;obtain⟨pt,xs,rfl,hs,hd⟩:=isE_view.mp hT;refine⟨_,(Za7 (Zb2 (Xf4 (We4 (We5 D_TURNING rfl m_ae0 (pxt (pvM 0) Za2)) (by with_unfolding_all rfl)) (Xs4 (Zs8 (Zq6) (pxt (pxt (pvM 0) Za2) Za2) (Zv6 D_TURNING rfl m_ae0 (pxt (pvM 0) Za2)) (by with_unfolding_all rfl)))))),?_⟩;walk_at "1"
 have tagV:∀ {x:V} {a:Te},IsE K H x a→∃ p ys,x=.ref p∧SqT K H p ys∧atI ys 0=some (.str a.tag):=fun {x a} h=>by
  obtain⟨p,ys,e,h1,h2⟩:=isE_view.mp h;exact⟨p,ys,e,h1,Zb9 (Zl1 h2)⟩
 have hc:(∃ (tg:Str) (r:List V),SqT K H pt (.str tg :: r)∧(List.lookup tg (turnV aU)).isSome=false∧t.turns=false)∨(∃ (tg:Str) (x:V) (r:List V) (a:Te) (aa:Addr) (ls:List V),SqT K H pt (.str tg :: x :: r)∧List.lookup tg (turnV aU)=some (.ref aa)∧IsE K H x a∧SqT K H aa ls∧ls.all Yg2=true∧inV (.str a.tag) ls=t.turns):=by
  clear q hs hd
  cases t with
  | «at» k0 =>
   obtain⟨p,e,h1⟩:=isE_atV.mp hT;cases e;exact .inl ⟨_,_,h1,rfl,rfl⟩
  | one u a ss =>
   obtain⟨p,x,rs,e,h1,h2,_⟩:=isE_oneV.mp hT;cases e
   cases u with
   | left=>exact .inr ⟨_,_,_,_,_,_,h1,rfl,h2,hU.l H,rfl,(by cases a with | two u2 _ _=>cases u2<;>rfl | one u1 _ _=>cases u1<;>rfl | _=>rfl)⟩
   | right=>exact .inr ⟨_,_,_,_,_,_,h1,rfl,h2,hU.r H,rfl,(by cases a with | two u2 _ _=>cases u2<;>rfl | one u1 _ _=>cases u1<;>rfl | _=>rfl)⟩
   | first=>exact .inl ⟨_,_,h1,rfl,rfl⟩
   | second=>exact .inl ⟨_,_,h1,rfl,rfl⟩
   | off=>exact .inl ⟨_,_,h1,rfl,rfl⟩
  | two u a b =>
   obtain⟨p,x,y,e,h1,h2,_⟩:=isE_twoV.mp hT;cases e
   cases u with
   | pair=>exact .inl ⟨_,_,h1,rfl,rfl⟩
   | use=>exact .inr ⟨_,_,_,_,_,_,h1,rfl,h2,hU.u H,rfl,(by cases a with | two u2 _ _=>cases u2<;>rfl | one u1 _ _=>cases u1<;>rfl | _=>rfl)⟩
  | fn st a =>
   obtain⟨p,x,y,e,h1,_⟩:=isE_fnV.mp hT;cases e;exact .inl ⟨_,_,h1,rfl,rfl⟩
  | cs a b c =>
   obtain⟨p,x,y,z,e,h1,h2,_⟩:=isE_csV.mp hT;cases e;exact .inr ⟨_,_,_,_,_,_,h1,rfl,h2,hU.c H,rfl,(by cases a with | two u2 _ _=>cases u2<;>rfl | one u1 _ _=>cases u1<;>rfl | _=>rfl)⟩
 rcases hc with ⟨tg,r,h1,h2,h3⟩ | ⟨tg,x,r,a,aa,ls,h1,h2,h3,h4,h5,h6⟩
 ·refine⟨_,h1,_,Zb9 (j:=0) rfl,_,rfl,?_⟩
  rw[h2,if_neg (by decide),← h3];exact q
 ·obtain⟨p,ys,rfl,hp,hy⟩:=tagV h3
  refine⟨_,h1,_,Zb9 (j:=0) rfl,_,rfl,?_⟩;rw[h2,if_pos (by rfl)];refine⟨_,h1,_,Zb9 (j:=1) rfl,p,rfl,_,hp,_,hy,_,h1,_,Zb9 (j:=0) rfl,_,rfl,_,h2,aa,rfl,ls,.inr h4,rfl,h5,?_⟩;rw[if_neg (by decide),h6];exact q
theorem Wf6 {k:Nat} {f_bf0:Addr} {fd_bf0:FuncData} (F_bf0:Fun K "term_parts" "term_parts" (top 11) f_bf0 fd_bf0) (C_standing:Cl P w K mg base k "standing" pq24 (Zf4 K)) (m_len:mg "len"=none):Fk0 P w K mg base (k+1) f_bf0 fd_bf0 pq24 (Yi3 K):=by
 refine F_bf0.ok Wc6 (fun vs H Q E h=>?_) (fun cdv A outer s H vs Q E hr h=>?_)
 ·obtain⟨v,t,rfl,_⟩:=h
  rfl
 obtain⟨v,t,rfl,hT,hz,q⟩:=h;refine⟨_,(Za7 (Zb2 (Zd2 Zc3 (by exact rfl) m_len Zf0 (Za0 (Zd1 C_standing hr (Za0 (pvM 0) Za1)) Za1)))),?_⟩;walk_at "1";refine⟨v,t,rfl,hT,hz,fun r H' us e _ h hu=>⟨r,rfl,us,.inl (SqL.of h),?_⟩⟩;have:=Paired.length hu;rw[Ze2] at this;rw[this];exact q _ e
theorem Wc5:FnScope ["pieces"] ["pieces"] (Za3 (top 23)):=scm (by decide +kernel)
theorem Wf3 {k:Nat} {f_bi0:Addr} {fd_bi0:FuncData} (F_bi0:Fun K "turning_places" "turning_places" (top 23) f_bi0 fd_bi0) (C_turns:Cl P w K mg base k "turns" pq24 (Yt1 K)) (m_enumerate:mg "enumerate"=none):Fk0 P w K mg base (k+1) f_bi0 fd_bi0 ["pieces"] (Zn1 K):=by
 refine F_bi0.ok Wc5 (fun vs H Q E h=>?_) (fun cdv A outer s H vs Q E hr h=>?_)
 ·obtain⟨l,us,ps,rfl,_⟩:=h
  rfl
 obtain⟨l,us,ps,rfl,hl,hU,hz,q⟩:=h;have lu:=Paired.length hU;refine⟨_,(Za7 (Zb2 (We2 (blk0 (N':=["place","piece","front"]) (by decide +kernel) (by decide +kernel) rfl (by decide +kernel)) rfl (Xw6 rfl m_enumerate (Za0 (pvM 0) Za1)) (fun _ _ _ _=>(Yp0 (K:=K) (n:=2) rfl rfl (Zc6 (Zc2 (i:=0) (show (["place","piece","front"]:List Str).Nodup from by decide +kernel) rfl (Or.inl rfl)) (Zc6 (Yp0 (K:=K) (n:=2) rfl rfl (Zc6 (Zc2 (i:=1) (show (["place","piece","front"]:List Str).Nodup from by decide +kernel) rfl (Or.inl rfl)) (Zc6 (Zc2 (i:=2) (show (["place","piece","front"]:List Str).Nodup from by decide +kernel) rfl (Or.inl rfl)) Zi6)) rfl rfl) Zi6)) rfl rfl)) (fun _ _=>Xv2 (tg2:=(.Name "" ⟨0,0,0,0⟩)) (iter2:=(.Name "" ⟨0,0,0,0⟩))) (fun _ _ _ _ _=>(Xe6 (Zt9 (Zd1 C_turns hr (Za0 (pvM 1) Za1))) (Xo9 (pvM 0))))))),?_⟩;walk_at "1";refine⟨⟨_,SqL.of hl⟩,fun acc hacc=>?_⟩
 have tk:∀ {i:Nat} {p:Pf},ps[i]?=some p→idxT 0 (ps.take (i+1))=idxT 0 (ps.take i)++(if p.1.turns then [i] else []):=fun {i p} h=>by
  have hi:=(List.getElem?_eq_some_iff.mp h).1;rw[List.take_add_one,h,Zr3,List.length_take,Nat.min_eq_left (Nat.le_of_lt hi),Nat.zero_add];show _++((if p.1.turns then [i] else [])++[])=_;rw[List.append_nil]
 refine Xl0 (xs:=us) (fun i H'=>Same H H'∧H' acc=some (.lst (natW (idxT 0 (ps.take i))))) ⟨Za6 hacc _,by rw[List.take_zero];exact Za5⟩ (fun i H' _ ⟨e,_⟩=>SqL.of (e _ _ hl)) (fun i x H' T0 N hx hT0 ⟨e,h⟩ hN=>?_) (fun H' ⟨e,h⟩=>?_)
 ·obtain⟨p,hp,hxp⟩:=Ze3 hU hx
  have s0:=Za6 hT0 (.tup [.int (i:Nat),x]);have e0:=e.trans s0;obtain⟨pa,y,rfl,hs,hy⟩:=isPf.mp (IsPf.keep hxp e0.keepT);have hi:=(List.getElem?_eq_some_iff.mp hp).1
  have hlen:(natW (idxT 0 (ps.take i))).length < sizeLine:=by
   rw[List.length_map];have h1:=Yg1 (a:=ps.take i) (n:=0);rw[List.length_take] at h1;exact Zk6 (by walk_at "o")
  have h0:upd H' T0 (.tup [.int (i:Nat),.ref pa]) acc=some (.lst (natW (idxT 0 (ps.take i)))):=s0 _ _ h;walk_at "1";refine⟨_,.inl (.inl Za5),rfl,_,_,rfl,_,_,rfl,pa,rfl,_,hs,rfl,_,_,rfl,_,_,rfl,rfl,rfl,Wk.trans (Yb2 (i:=0) rfl) (Wk.trans (Yb2 (i:=1) rfl) (Yb2 (i:=2) rfl)),y,p.1,rfl,hy,p.1.turns,rfl,?_⟩
  by_cases hb:p.1.turns=true
  ·rw[if_pos hb]
   refine⟨_,h0,hlen,hN _ ⟨e0.write hacc,?_⟩⟩;rw[Za5,tk hp,if_pos hb];show some (HO.lst (_++_))=some (HO.lst (List.map _ (_++_)));rw[List.map_append];rfl
  ·rw[if_neg hb]
   refine hN _ ⟨e0,?_⟩;rw[h0,tk hp,if_neg hb,List.append_nil]
 ·rw[List.take_of_length_le (by walk_at "o")] at h
  exact q acc H' e hacc h
theorem sc_bd0:FnScope ["term","of_piece"] ["term"] (Za3 (top 12)):=scm (by decide +kernel)
noncomputable abbrev Zb3:Stmt:=Xi5 (top 12) 0
theorem Zl9:FnScopeC ["number","inner"] ["number","inner"] [] (Za3 Zb3):=⟨rfl,rfl,rfl,by decide +kernel,rfl,by decide +kernel,by decide +kernel,by decide +kernel⟩
noncomputable abbrev Ze1:Str:=("term_deep":Str)++Str.ofString ".<locals>."++"of_piece"
theorem Zm9:∀ y∈(Za3 Zb3).names,y.2=NameKind.free→(Za3 (top 12)).names.lookup y.1=some NameKind.cell:=by decide +kernel
noncomputable def Ze0:List (Pos×Str):=[(posOf Zb3,Ze1)]
theorem Xi2 {H:Hp}:∀ {us:List V} {ps:List Pf},Paired (fun u (p:Pf)=>u=V.int (p.1.deep:Nat)) us ps→us=(ps.map fun p=>((p.1.deep:Nat):Int)).map V.int
 | _,_,.nil=>rfl
 | _,_,.cons a t=>by rw[a,Xi2 (H:=H) t];rfl
theorem Zm6 {k:Nat} {cl:List (Str×Addr)} {f:Addr} {fd:FuncData} (F:FunC K "of_piece" Ze1 Zb3 cl f fd) {p0:Pf}
  (C:Caught K (Za3 Zb3) cl [] []) (m_max:mg "max"=none):Fk0 P w K mg base (k+1) f fd ["number","inner"] (Yi4 (fun _=>True) (fun _ p v=>v=V.int (p.1.deep:Nat)) p0):=by
 refine F.ok Zl9 C (fun vs H Q E h=>?_) (fun cdv A outer s H vs Q E hr h=>?_)
 ·obtain⟨n,p,l,us',rfl,_⟩:=h
  rfl
 obtain⟨n,p,l,us',rfl,_,hp,hl,hU,q⟩:=h;have eu:=Xi2 (H:=H) hU;refine⟨_,(Za7 (Zb2 (Zb8 Zd3 Za2 (Xw7 (K:=K) rfl rfl (by exact rfl) m_max (pvM 1) Za2)))),?_⟩;walk_at "1";refine⟨_,SqL.of (eu▸hl),?_⟩;have:=Xq8 p;rw[this];exact q _ _ (Same.refl _) rfl
theorem Wf7 {j:Nat} {T:Addr} {f_bd0:Addr} {fd_bd0:FuncData} (F_bd0:FunT K "term_deep" "term_deep" (top 12) f_bd0 fd_bd0 T) (hB:∀ h,K.In h→h.BuiltinsAt mg T) (hT:mainGlobals≠T)
  (C_standing:Cl P w K mg base (j+2) "standing" pq24 (Zf4 K))
  {f_be0:Addr}{fd_be0:FuncData}(m_be0:MgI mg "term_folded" f_be0)(k_be0:KpI K f_be0)(b_be0:Binds K fd_be0 pq18 [])
  (GF:∀ (K':W.Frag) (base:Heap) (J:Hp→Prop) (R:RP) (p0:Pf) (f1:Addr) (fd1:FuncData),KLe K K'→(∀ H H',Same H H'→J H→J H')→(∀ H H' p v,KeepT K' H H'→R H p v→R H' p v) →
   FnOk P w K' mg base CX0 (j+1) f1 fd1 ["number","inner"] (Yi4 J R p0)→W.keepIn K' (.ref f1)=true→Binds K' fd1 ["number","inner"] []→FnOk P w K' mg base CX0 (j+2) f_be0 fd_be0 pq18 (Zp4 K' J R p0 f1)) (m_max:mg "max"=none) :
  Fk0 P w K mg base (j+3) f_bd0 fd_bd0 pq24 (Yt2 K T Ze0):=by
 refine F_bd0.ok sc_bd0 (fun vs H Q E h=>?_) (fun c A outer s H vs Q E hC hr h=>?_)
 ·obtain⟨v,t,rfl,_⟩:=h
  rfl
 obtain⟨v,t,rfl,hT1,hz,tab,q⟩:=h;have hix:∀ i∈([]:List Nat),∃ x,(["term","of_piece"]:List Str)[i]?=some x∧(Za3 (top 12)).names.lookup x=some .cell∧(fun _:Str=>true) x=true:=fun i hi=>nomatch hi
 refine⟨_,(Za4 (Zy0 (st:=Zb3) (i:=1) (qual:=Ze1) (ds:=Ze0) rfl sc_bd0.nd rfl (Or.inl rfl) (Zf7 (fun y hy hf=>Zl4 (Zm9 y hy hf))) rfl hC hB hT rfl (by simp[Ze0]) (by decide +kernel) rfl rfl rfl)
 (Za7 (Zb2 (Zq3 (ix:=[]) hr (by exact rfl) m_be0 k_be0 b_be0 hix (Za0 (Zd1 C_standing hr (Za0 (pvM 0) Za1)) (Za0 (pvM 1) Za1)))))),?_⟩
 generalize hX:(cxOf CX0 P w K mg base ["term","of_piece"] "term_deep" (Za3 (top 12)) f_bd0 (.ref c) A outer s H E).nox=X
 have eP:X.prog=P:=by rw[← hX];rfl
 have ew:X.w=w:=by rw[← hX];rfl
 have eK:X.K=K:=by rw[← hX];rfl
 have em:X.mg=mg:=by rw[← hX];rfl
 have ec:(PyProof.Rows.envOfC "term_deep" (Za3 (top 12)) s.heap.objs.size f_bd0 (.ref c)).cells=X.env.cells:=by rw[← hX];rfl
 refine sqt (fun σ' H'=>∃ f1,σ'=[some v,some (.ref f1)]∧SameU T H H'∧TabOk H' T Ze0∧FnFz H' f1 "of_piece" Ze1 (Zc5 Zb3) (Zc1 Zb3) (Za3 Zb3) (Zi9 X.env.cells (Za3 Zb3).names [])) ?_ ?_
 ·intro C hC'
  exact⟨tab,fun f H' n sm tb fn=>hC' _ _ ⟨f,rfl,sm,tb,ec▸fn⟩⟩
 rintro σ2 H2 ⟨f1,rfl,s2,tb2,fn1⟩;obtain⟨o1,c1,p1,a1,a2,a3,a4⟩:=fn1.objs2;show Zl6 X _ _ _ _ [] _ _ _ _;unfold Zl6;walk_at "1";refine⟨v,t,rfl,IsE.keep hT1 (SameT.keepT s2.toT),hz,fun lp H3 us e3 _ hl3 hu3=>⟨fun i hi=>(nomatch hi),[(f1,o1),(c1,p1)],fun p hp=>e3 _ _ (a1 p hp),fun K' cs ok kle kback hlk hcs=>?_⟩⟩;rw[eK] at kle kback;obtain⟨fd1,G1⟩:=a4 K' fun p hp=>hlk p (List.mem_append_left _ hp)
 have ecs:cs=[]:=by cases hcs;rfl
 subst ecs
 have C1:Caught K' (Za3 Zb3) (Zi9 X.env.cells (Za3 Zb3).names []) [] [] :=
  Zn0 ok rfl (by decide +kernel) (by decide +kernel) fun i y u e1 e2=>by cases i<;>cases e1
 have a1':∀ p∈[(f1,o1),(c1,p1)],H3 p.1=some (FZ p.2):=fun p hp=>e3 _ _ (a1 p hp);generalize [(f1,o1),(c1,p1)]=xs at a1 a1' a2 a3 hlk kback ⊢;have inn:=Yb3 a1' kle
 have nlp:lp ∉ xs.map (·.1):=fun z=>by
  obtain⟨p,hp,e⟩:=List.mem_map.mp z;have:=a1' p hp;rw[e,hl3] at this;cases this
 refine⟨Zp4 K' (fun _=>True) (fun _ p v=>v=V.int (p.1.deep:Nat)) (t,0) f1,fun base'=>?_,?_⟩
 ·rw[eP,ew,em]
  exact GF K' base' _ _ (t,0) f1 fd1 kle (fun _ _ _ _=>trivial) (fun H H' p v k h=>h) (Zm6 G1 C1 m_max) G1.kp (G1.binds fun _ _ _ _ us hl=>match us,hl with | [_,_],_=>rfl)
 ·have hl2:SqL K' (remX xs H3) lp us:=.inl (.inl (by rw[Zc9 nlp];exact hl3))
  have hu2:Paired (IsPf K' (remX xs H3)) us (preP (t,0)):=Paired.mapP hu3 fun _ p z=>Dn.moveT inn (Zq1 p) z;refine⟨lp,us,rfl,trivial,hl2,hu2,hz,fun r H4 e4 hr4 n4=>?_⟩;have sb:=Yj4 e4;rw[hr4];exact q _ ((s2.toV.trans e3.toV).trans sb.toV) ((tb2.keep e3).keep sb)
theorem sc_bh0:FnScope ["term","inner"] ["term"] (Za3 (top 22)):=scm (by decide +kernel)
theorem Wf4 {k:Nat} {T1 T2 T3:Addr} {f_bh0:Addr} {fd_bh0:FuncData} (F_bh0:Fun K "turned_itself" "turned_itself" (top 22) f_bh0 fd_bh0) (C_put:Cl P w K mg base k "put" ["term","other"] (Yt3 K T1 T2 T3 Zb6 Zc7 Zi4)):Fk0 P w K mg base (k+1) f_bh0 fd_bh0 pq24 (Zx4 K [(T1,Zb6),(T2,Zc7),(T3,Zi4)]):=by
 refine F_bh0.ok sc_bh0 (fun vs H Q E h=>?_) (fun cdv A outer s H vs Q E hr h=>?_)
 ·obtain⟨v,t,rfl,_⟩:=h
  rfl
 obtain⟨v,t,rfl,hT,ht,hz,hdp,hok,tb,q⟩:=h;have t1:TabOk H T1 Zb6:=tb (T1,Zb6) (by simp);have t2:TabOk H T2 Zc7:=tb (T2,Zc7) (by simp);have t3:TabOk H T3 Zi4:=tb (T3,Zi4) (by simp)
 have pt:∀ {b o:Te} {vb vo:V},IsE K H vb b→IsE K H vo o→b.size≤20000→o.size≤20000→b.bnd≤60→b.all Tm.ok→b.mp (Ken.putF o) 0=t.itself→Yt3 K T1 T2 T3 Zb6 Zc7 Zi4 [vb,vo] H Q E0:=fun {b o vb vo} h1 h2 h3 h4 h5 h6 h7 =>
  ⟨vb,b,vo,o,rfl,h1,h2,h3,h4,h5,h6,t1,t2,t3,fun r H' e k1 k2 k3 hr=>q r H' e (fun x hx=>by
   simp only[List.mem_cons,List.not_mem_nil,or_false] at hx;rcases hx with rfl | rfl | rfl
   ·exact k1
   ·exact k2
   ·exact k3) (h7▸hr)⟩
 have sb:∀ {b:Te},SubE b t→b.size≤20000∧b.bnd≤60∧b.all Tm.ok:=fun s=>⟨Nat.le_trans (Nat.le_of_lt s.sz) hz,Nat.le_trans s.bd hdp,s.al hok⟩;obtain⟨p,pi,tg,ti,r,ry,rfl,h1,g1,hc⟩:=Wl2 hT ht;have ne:∀ {a b:Str},a≠b→¬ V.str a=V.str b:=fun h z=>h (V.str.inj z);have z0:atI (.str tg :: .ref pi :: r) 0=some (.str tg):=Zb9 (j:=0) rfl
 refine⟨_,(Za4 (pst 1 sc_bh0.nd (pxt (pvM 0) Za2))
 (Za4 (Zd7 (ptcM (Zf2) (pxt (pvM 0) Za2) Za8)
  (Za7 (Zb2 (pxt (pvM 1) Za2)))
  Zb4)
 (Za4 (Zd7 (ptcM (Zf2) (pxt (pvM 0) Za2) Za8)
  (Za7 (Zb2 (pxt (pvM 1) Za2)))
  Zb4)
 (Za4 (Zd7 (ptcM (Zf2) (pxt (pvM 0) Za2) Za8)
  (Za7 (Zb2 (Zd1 C_put hr (Za0 (pxt (pvM 1) Za2) (Za0 (pxt (pvM 0) Za2) Za1)))))
  Zb4)
 (Za7 (Zb2 (Zd1 C_put hr (Za0 (pxt (pvM 0) (Yf1 (ptcM (Zf2) (pxt (pvM 1) Za2) Za8) Za2 Za2)) (Za0 (pxt (pvM 1) Za2) Za1))))))))),?_⟩
 refine sqt (fun σ' J=>σ'=[some (.ref p),some (.ref pi)]∧J=H) ?_ ?_
 ·intro C hC
  walk_at "1";exact⟨_,h1,_,Zb9 (j:=1) rfl,hC _ _ ⟨rfl,rfl⟩⟩
 rintro σ1 H1 ⟨rfl,rfl⟩;refine sqt (fun σ' J=>σ'=[some (.ref p),some (.ref pi)]∧J=H1∧tg≠"left") ?_ ?_
 ·intro C hC
  walk_at "1";refine⟨_,h1,_,z0,rfl,?_⟩
  by_cases c:tg="left"
  ·rw[if_pos (by rw[c])]
   cases hc with
   | left g e _=>exact⟨_,g1,_,rfl,q _ _ (Same.refl _).toV tb (e▸g)⟩
   | _=>exact absurd c (by decide)
  ·rw[if_neg (ne c)]
   exact hC _ _ ⟨rfl,rfl,c⟩
 rintro σ2 H2 ⟨rfl,rfl,n1⟩;refine sqt (fun σ' J=>σ'=[some (.ref p),some (.ref pi)]∧J=H2∧tg≠"right") ?_ ?_
 ·intro C hC
  walk_at "1";refine⟨_,h1,_,z0,rfl,?_⟩
  by_cases c:tg="right"
  ·rw[if_pos (by rw[c])]
   cases hc with
   | right g e _=>exact⟨_,g1,_,rfl,q _ _ (Same.refl _).toV tb (e▸g)⟩
   | _=>exact absurd c (by decide)
  ·rw[if_neg (ne c)]
   exact hC _ _ ⟨rfl,rfl,c⟩
 rintro σ3 H3 ⟨rfl,rfl,n2⟩;refine sqt (fun σ' J=>σ'=[some (.ref p),some (.ref pi)]∧J=H3∧tg≠"use") ?_ ?_
 ·intro C hC
  walk_at "1";refine⟨_,h1,_,z0,rfl,?_⟩
  by_cases c:tg="use"
  ·rw[if_pos (by rw[c])]
   cases hc with
   | use d1 d2 d3 d4 d5=>exact⟨_,g1,_,rfl,_,h1,_,rfl,pt d1 d2 (sb d4).1 (sb d5).1 (sb d4).2.1 (sb d4).2.2 d3.symm⟩
   | _=>exact absurd c (by decide)
  ·rw[if_neg (ne c)]
   exact hC _ _ ⟨rfl,rfl,c⟩
 rintro σ4 H4 ⟨rfl,rfl,n3⟩
 cases hc with
 | left=>exact absurd rfl n1
 | right=>exact absurd rfl n2
 | use=>exact absurd rfl n3
 | @cases ti _ _ _ _ _ _ d1 d2 d3 d4 d5 _ =>
  walk_at "1";refine⟨_,g1,_,Zb9 (j:=0) rfl,rfl,?_⟩;have fin:=fun {vb:V} (h:IsE K H4 vb _)=>pt h d2 (sb d4).1 (sb d5).1 (sb d4).2.1 (sb d4).2.2 d3.symm
  by_cases cf:ti="first"
  ·rw[if_pos cf] at d1
   rw[if_pos (by rw[cf])];exact⟨_,h1,_,rfl,_,g1,_,Zb9 (j:=1) rfl,fin d1⟩
  ·rw[if_neg cf] at d1
   rw[if_neg (ne cf)];exact⟨_,h1,_,rfl,_,g1,_,Zb9 (j:=1) rfl,fin d1⟩
theorem sc_bg0:FnScope ["term","number","pieces","places","of_piece","told"] ["term","number"] (Za3 (top 25)):=scm (by decide +kernel)
noncomputable abbrev Zc0:Stmt:=Xi5 (top 25) 3
theorem Zq0:FnScopeC ["place","inner","places","number","pieces"] ["place","inner"] ["places","number","pieces"] (Za3 Zc0):=⟨rfl,rfl,rfl,by decide +kernel,rfl,by decide +kernel,by decide +kernel,by decide +kernel⟩
noncomputable abbrev Zf6:Str:=("turned":Str)++Str.ofString ".<locals>."++"of_piece"
theorem Zs0:∀ y∈(Za3 Zc0).names,y.2=NameKind.free→(Za3 (top 25)).names.lookup y.1=some NameKind.cell:=by decide +kernel
noncomputable def Zk3:List (Pos×Str):=[(posOf Zc0,Zf6)]
theorem Zq7 {k:Nat} {cl:List (Str×Addr)} {f:Addr} {fd:FuncData} (F:FunC K "of_piece" Zf6 Zc0 cl f fd) {tb:TBs} {lp pl:Addr} {us:List V} {p0:Pf} {ms:List Nat} {i m:Nat} (hm:ms[i]?=some m) (hms:ms=idxT 0 (preP p0)) (hz:p0.1.size≤5000) (hdp:p0.1.bnd≤60) (hok:p0.1.all Tm.ok)
  (C:Caught K (Za3 Zc0) cl ["places","number","pieces"] [.ref pl,.int (i:Nat),.ref lp]) (C_with_inner:Cl P w K mg base k "with_inner" pq17 (Zw8 K)) (C_turned_itself:Cl P w K mg base k "turned_itself" pq24 (Zx4 K tb)) :
  Fk0 P w K mg base (k+1) f fd ["place","inner"] (Yn4 tb (JPt K lp pl us p0 ms) (RTn K m) p0):=by
 refine F.ok Zq0 C (fun vs H Q E h=>?_) (fun cdv A outer s H vs Q E hr h=>?_)
 ·obtain⟨n,p,l,us',rfl,_⟩:=h
  rfl
 obtain⟨n,p,l,us',rfl,hj,htb,hp,hl,hU,q⟩:=h;obtain⟨j2,j3,j4⟩:=hj;have lu:=Paired.length j3;obtain⟨u,hu⟩:∃ u,us[n]?=some u:=⟨_,List.getElem?_eq_getElem (by rw[lu];exact (List.getElem?_eq_some_iff.mp hp).1)⟩;obtain⟨p',hp',hxp⟩:=Ze3 j3 hu;rw[hp] at hp';cases hp';obtain⟨tp,fp⟩:=p;obtain⟨pa,x0,rfl,hs0,hx0⟩:=isPf.mp hxp
 refine⟨_,(Za4 (Zd7 (ptcM (Zf2) (pvM 0) (pxl (pvM 2) (pvM 3)))
  (Za7 (Zb2 (Zd1 C_turned_itself hr (Za0 (pxt (pxl (pvM 4) (pvM 0)) Za2) Za1))))
  Zb4)
 (Za7 (Zb2 (Zd1 C_with_inner hr (Za0 (pxt (pxl (pvM 4) (pvM 0)) Za2) (Za0 (pvM 1) Za1)))))),?_⟩
 walk_at "1";refine⟨_,j4,.int (m:Nat),Zb9 (by show (List.map _ ms)[i]?=_;rw[List.getElem?_map,hm];rfl),rfl,?_⟩
 by_cases c:n=m
 ·subst c
  rw[if_pos rfl];obtain⟨p2,_,h2,h3⟩:=Yw2 (show n∈idxT 0 (preP p0) by rw[← hms];exact List.mem_of_getElem? hm);rw[Nat.sub_zero,hp] at h2;cases h2;have pm:=List.mem_of_getElem? hp;have pl2:=Zs6 (t:=p0.1) (f:=p0.2) pm;refine⟨_,j2,_,Zb9 hu,pa,rfl,_,hs0,_,rfl,x0,tp,rfl,hx0,h3,by have:tp.size≤p0.1.size:=pl2.1;walk_at "o",Nat.le_trans (Zn4 pm) hdp,Zk9 hok pm,htb,fun r H' e t' hr'=>q _ _ e t' ?_⟩;show IsE K H' r (tp.tpm n n);rw[Ys7];exact hr'
 ·rw[if_neg (fun z=>c (by have:=V.int.inj z;walk_at "o"))]
  refine⟨_,j2,_,Zb9 hu,pa,rfl,_,hs0,_,rfl,x0,tp,l,us',(numP (n+1) (Zh7 (tp,fp))).map (fun k=>k.2.1.tpm m k.1),rfl,hx0,SqL.of hl,Zo4 (f:=fun (k:Nat×Pf)=>k.2.1.tpm m k.1) (fun _ _ z=>z) hU,by rw[List.length_map,Yv3,Zr1],fun r H' e hr'=>q _ _ e.toV (htb.keep e) ?_⟩;show IsE K H' r (tp.tpm m n);rw[Xn2 c (tp,fp)];exact hr'
noncomputable abbrev tb3 (T1 T2 T3:Addr):TBs:=[(T1,Zb6),(T2,Zc7),(T3,Zi4)]
noncomputable abbrev tb5 (T1 T2 T3 T4 T5:Addr):TBs:=[(T1,Zb6),(T2,Zc7),(T3,Zi4),(T4,Ze0),(T5,Zk3)]
theorem Xb3 (i:Nat) (h:i≤5000):(Str.ofString "there are ").length+(Str.ofString (toString ((i:Nat):Int))).length+(Str.ofString " turnings").length≤100:=by
 have h1:(Str.ofString (toString ((i:Nat):Int))).length≤10:=W.KT.len_num (by walk_at "o") (Int.lt_of_le_of_lt (show ((i:Nat):Int)≤5000 by walk_at "o") (by decide))
 have h2:(Str.ofString "there are ").length=10:=by decide +kernel
 have h3:(Str.ofString " turnings").length=9:=by decide +kernel
 walk_at "o"
theorem Xv0 (i:Nat) (h:i≤5000):((i:Nat):Int).natAbs.log2 < 1920:=by
 have:((i:Nat):Int).natAbs=i:=rfl;rw[this]
 by_cases h0:i=0
 ·subst h0;decide
 ·rw[Nat.log2_lt h0]
  exact Nat.lt_of_le_of_lt h (by decide)
theorem Wf5 {j:Nat} {T1 T2 T3 T4 T5:Addr} (hN:[T1,T2,T3,T4,T5].Nodup) {f_bg0:Addr} {fd_bg0:FuncData} (F_bg0:FunT K "turned" "turned" (top 25) f_bg0 fd_bg0 T5) (hB:∀ h,K.In h→h.BuiltinsAt mg T5) (hT:mainGlobals≠T5)
  {aNoTurning aLarge:Addr} (m_NoTurning:MgI mg "NoTurning" aNoTurning) (x_NoTurning:XCls K aNoTurning) (m_Large:MgI mg "Large" aLarge) (x_Large:XCls K aLarge) {k1 k2:Tok} (m_ac0:mg "MOST_PARTS"=some (.int 1000 k1)) (m_ab0:mg "MOST_DEEP"=some (.int 120 k2))
  (C_standing:Cl P w K mg base (j+2) "standing" pq24 (Zf4 K))
  (C_turning_places:Cl P w K mg base (j+2) "turning_places" ["pieces"] (Zn1 K))
  (C_term_parts:Cl P w K mg base (j+2) "term_parts" pq24 (Yi3 K))
  (C_term_deep:Cl P w K mg base (j+2) "term_deep" pq24 (Yt2 K T4 Ze0))
  {f_bl0:Addr}{fd_bl0:FuncData}(G_bl0:∀ K' base,KLe K K'→FnOk P w K' mg base CX0 j f_bl0 fd_bl0 pq17 (Zw8 K'))(m_bl0:MgI mg "with_inner" f_bl0)(k_bl0:∀ K',KLe K K'→W.keepIn K' (.ref f_bl0)=true)(b_bl0:Binds K fd_bl0 pq17 [])
  {f_bh0:Addr}{fd_bh0:FuncData}(G_bh0:∀ K' base,KLe K K'→FnOk P w K' mg base CX0 j f_bh0 fd_bh0 pq24 (Zx4 K' (tb3 T1 T2 T3)))(m_bh0:MgI mg "turned_itself" f_bh0)(k_bh0:∀ K',KLe K K'→W.keepIn K' (.ref f_bh0)=true)(b_bh0:Binds K fd_bh0 pq24 [])
  {f_be0:Addr}{fd_be0:FuncData}(m_be0:MgI mg "term_folded" f_be0)(k_be0:KpI K f_be0)(b_be0:Binds K fd_be0 pq18 [])
  (GF:∀ (K':W.Frag) (base:Heap) (tb:TBs) (J:Hp→Prop) (R:RPn) (p0:Pf) (f1:Addr) (fd1:FuncData),KLe K K'→(∀ H H',SameV (tb.map (·.1)) H H'→J H→J H')→(∀ H H' n p v,KeepT K' H H'→R H n p v→R H' n p v) →
   FnOk P w K' mg base CX0 (j+1) f1 fd1 ["place","inner"] (Yn4 tb J R p0)→W.keepIn K' (.ref f1)=true→Binds K' fd1 ["place","inner"] []→FnOk P w K' mg base CX0 (j+2) f_be0 fd_be0 pq18 (Zw9 K' tb J R p0 f1)) (m_len:mg "len"=none) :
  FnOk P w K mg base (CXe P w) (j+3) f_bg0 fd_bg0 pq21 (Zp3 K (tb5 T1 T2 T3 T4 T5) aNoTurning aLarge):=by
 refine F_bg0.okX sc_bg0 (fun vs H Q E h=>?_) (fun c A outer s H vs Q E hC hr h=>?_)
 ·obtain⟨v,t,i,rfl,_⟩:=h
  rfl
 obtain⟨v,t,i,rfl,hT1,hz,hdp,hok,tabs,hbig,qe,q⟩:=h
 have hix:∀ i∈([1,2,3]:List Nat),∃ x,(["term","number","pieces","places","of_piece","told"]:List Str)[i]?=some x∧(Za3 (top 25)).names.lookup x=some .cell∧(fun _:Str=>true) x=true:=by
  intro i hi;simp only[List.mem_cons,List.not_mem_nil,or_false] at hi;rcases hi with rfl | rfl | rfl
  ·exact⟨"number",rfl,rfl,rfl⟩
  ·exact⟨"pieces",rfl,rfl,rfl⟩
  ·exact⟨"places",rfl,rfl,rfl⟩
 refine⟨_,(Za4 (Zu1 (i:=2) sc_bg0.nd rfl (Or.inr rfl) (Zd1 C_standing hr (Za0 (pvM 0) Za1)))
 (Za4 (Zu1 (i:=3) sc_bg0.nd rfl (Or.inr rfl) (Zd1 C_turning_places hr (Za0 (pvM 2) Za1)))
 (Za4 (Zd7 (Zu0 (Xo6 (We9) (Yv0) Za2 (pvM 1) (Zd2 Zc3 (by exact rfl) m_len Zf0 (Za0 (pvM 3) Za1))))
  (Za7 (Ye8 Zv2 rfl (by exact rfl) m_NoTurning x_NoTurning (Za0 (Xf2 (Yu4 (Xf0 (Zd2 Zc3 (by exact rfl) m_len Zf0 (Za0 (pvM 3) Za1)) (Yu4 Xs2)))) Za1)))
  Zb4)
 (Za4 (Zy0 (st:=Zc0) (i:=4) (qual:=Zf6) (ds:=Zk3) rfl sc_bg0.nd rfl (Or.inl rfl) (Zf7 (fun y hy hf=>Zl4 (Zs0 y hy hf))) rfl hC hB hT rfl (by simp[Zk3]) (by decide +kernel) rfl rfl rfl)
 (Za4 (pst 5 sc_bg0.nd (Zq3 (ix:=[1,2,3]) hr (by exact rfl) m_be0 k_be0 b_be0 hix (Za0 (pvM 2) (Za0 (pvM 4) Za1))))
 (Za4 (Zd7 ((Yy0 (ptcM (Yv1) (Zd1 C_term_parts hr (Za0 (pvM 5) Za1)) (Yf2 (v:=.int 1000) (by exact rfl) m_ac0 ⟨_,rfl⟩)) (Yu1 (ptcM (Yv1) (Zd1 C_term_deep hr (Za0 (pvM 5) Za1)) (Yf2 (v:=.int 120) (by exact rfl) m_ab0 ⟨_,rfl⟩))))).pt
  (Za7 (Ye8 Zv2 rfl (by exact rfl) m_Large x_Large (Za0 Za8 Za1)))
  Zb4)
 (Za7 (Zb2 (pvM 5))))))))),?_⟩
 generalize hX:cxOf (CXe P w) P w K mg base ["term","number","pieces","places","of_piece","told"] "turned" (Za3 (top 25)) f_bg0 (.ref c) A outer s H E=X
 have eP:X.prog=P:=by rw[← hX];rfl
 have ew:X.w=w:=by rw[← hX];rfl
 have eK:X.K=K:=by rw[← hX];rfl
 have em:X.mg=mg:=by rw[← hX];rfl
 have eN:X.N=(["term","number","pieces","places","of_piece","told"]:List Str):=by rw[← hX];rfl
 have ec:(PyProof.Rows.envOfC "turned" (Za3 (top 25)) s.heap.objs.size f_bg0 (.ref c)).cells=X.env.cells:=by rw[← hX];rfl
 refine sqt (fun σ' H'=>∃ lp us,σ'=[some v,some (.int i),some (.ref lp),none,none,none]∧Same H H'∧H' lp=some (.lst us)∧Paired (IsPf K H') us (t.pre 0)) ?_ ?_
 ·intro C hC'
  walk_at "1";exact⟨v,t,rfl,hT1,by walk_at "o",fun r H' us e _ h hu=>hC' _ _ ⟨r,us,rfl,e,h,hu⟩⟩
 rintro σ1 H1 ⟨lp,us,rfl,e1,hl1,hu1⟩;refine Zp9 (fun σ' H'=>∃ pl,σ'=[some v,some (.int i),some (.ref lp),some (.ref pl),none,none]∧Same H1 H'∧H' pl=some (.lst (natW (idxT 0 (t.pre 0))))) ?_ ?_
 rotate_left
 ·intro C hC'
  walk_at "1";exact⟨lp,us,t.pre 0,rfl,hl1,hu1,by rw[Ze2];walk_at "o",fun r H' e _ h=>hC' _ _ ⟨r,rfl,e,h⟩⟩
 rintro σ2 H2 ⟨pl,rfl,e2,hp2⟩;have e02:=e1.trans e2;have nlen:(idxT 0 (t.pre 0)).length≤5000:=Nat.le_trans Yg1 (by rw[Ze2];walk_at "o");generalize hms:idxT 0 (t.pre 0)=ms at hp2 hbig qe q nlen;refine sqt (fun σ' H'=>σ'=[some v,some (.int i),some (.ref lp),some (.ref pl),none,none]∧H'=H2∧0≤i∧i < (ms.length:Nat)) ?_ ?_
 ·intro C hC'
  walk_at "1"
  have bad:¬ (0≤i∧i < (ms.length:Nat))→∀ ys:List V,ys=natW ms→(Str.empty++Str.ofString "there are ").length≤sizeLine∧((ys.length:Nat):Int).natAbs.log2 < 1920∧(Str.empty++Str.ofString "there are "++Str.ofString (toString ((ys.length:Nat):Int))).length≤sizeLine∧(Str.empty++Str.ofString "there are "++Str.ofString (toString ((ys.length:Nat):Int))++Str.ofString " turnings").length≤sizeLine∧1≤sizeLine∧∀ (e:Addr) (H':Hp),Xtd H2 e (Value.ref aNoTurning) none H'→E (Value.ref e) none H':=fun hb ys ey=>by
   have hy:ys.length≤5000:=by rw[ey,List.length_map];exact nlen
   have h1:=Xb3 _ hy;have h2:=Xv0 _ hy
   have h3:(Str.empty++Str.ofString "there are ").length≤100:=by rw[Str.length_append];show 0+_≤_;walk_at "o"
   have h4:(Str.empty++Str.ofString "there are "++Str.ofString (toString ((ys.length:Nat):Int))).length≤100:=by rw[Str.length_append,Str.length_append];show 0+_+_≤_;walk_at "o"
   have h5:(Str.empty++Str.ofString "there are "++Str.ofString (toString ((ys.length:Nat):Int))++Str.ofString " turnings").length≤100:=by rw[Str.length_append,Str.length_append,Str.length_append];show 0+_+_+_≤_;walk_at "o"
   exact⟨Nat.le_of_lt (Zf1 (by walk_at "o")),h2,Nat.le_of_lt (Zf1 (by walk_at "o")),Nat.le_of_lt (Zf1 (by walk_at "o")),by decide,fun e H' x=>qe hb e H2 H' e02.toV (tabs.keep e02) x⟩
  have sq:SqL X.K H2 pl (natW ms):=SqL.of hp2
  by_cases c0:0≤i
  ·rw[if_pos c0]
   refine⟨natW ms,.inl sq,?_⟩;rw[List.length_map]
   by_cases c1:i < (ms.length:Nat)
   ·rw[decide_eq_true c1,if_neg (by decide)]
    exact hC' _ _ ⟨rfl,rfl,c0,c1⟩
   ·rw[decide_eq_false c1,if_pos (by rfl)]
    obtain⟨b1,b2,b3,b4,b5,b6⟩:=bad (fun z=>c1 z.2) _ rfl;exact⟨b1,natW ms,.inl sq,b2,b3,b4,b4,b5,b6⟩
  ·rw[if_neg c0,if_pos (by rfl)]
   obtain⟨b1,b2,b3,b4,b5,b6⟩:=bad (fun z=>c0 z.1) _ rfl;exact⟨b1,natW ms,.inl sq,b2,b3,b4,b4,b5,b6⟩
 rintro σ3 H3 ⟨rfl,rfl,i0,i1⟩;obtain⟨ix,rfl⟩:=Int.eq_ofNat_of_zero_le i0;obtain⟨m,hm⟩:∃ m,ms[ix]?=some m:=⟨_,List.getElem?_eq_getElem (by walk_at "o")⟩;obtain⟨q1,q2⟩:=q ix m rfl hm;have hmm:=List.mem_of_getElem? hm;have tabA:∀ {T:Addr} {d:List (Pos×Str)},(T,d)∈tb5 T1 T2 T3 T4 T5→TabOk H3 T d:=fun h=>(tabs _ h).keep e02;have k1':TabOk H3 T1 Zb6:=tabA (by simp);have k2':TabOk H3 T2 Zc7:=tabA (by simp);have k3':TabOk H3 T3 Zi4:=tabA (by simp);have k4':TabOk H3 T4 Ze0:=tabA (by simp);have k5':TabOk H3 T5 Zk3:=tabA (by simp);simp only[List.nodup_cons,List.mem_cons,List.not_mem_nil,or_false,not_or] at hN;obtain⟨⟨n12,n13,n14,n15⟩,⟨n23,n24,n25⟩,⟨n34,n35⟩,n45,_⟩:=hN;refine sqt (fun σ' H'=>∃ f1,σ'=[some v,some (.int (ix:Nat)),some (.ref lp),some (.ref pl),some (.ref f1),none]∧SameU T5 H3 H'∧TabOk H' T5 Zk3∧FnFz H' f1 "of_piece" Zf6 (Zc5 Zc0) (Zc1 Zc0) (Za3 Zc0) (Zi9 X.env.cells (Za3 Zc0).names [])) ?_ ?_
 ·intro C hC'
  exact⟨k5',fun f H' n sm tb fn=>hC' _ _ ⟨f,rfl,sm,tb,ec▸fn⟩⟩
 rintro σ4 H4 ⟨f1,rfl,s4,tb4,fn1⟩;have u1:TabOk H4 T1 Zb6:=s4.toV.tab (by simpa using n15) k1';have u2:TabOk H4 T2 Zc7:=s4.toV.tab (by simpa using n25) k2';have u3:TabOk H4 T3 Zi4:=s4.toV.tab (by simpa using n35) k3';have u4:TabOk H4 T4 Ze0:=s4.toV.tab (by simpa using n45) k4';refine sqt (fun σ' H'=>∃ r,σ'=[some v,some (.int (ix:Nat)),some (.ref lp),some (.ref pl),some (.ref f1),some r]∧SameV ((tb5 T1 T2 T3 T4 T5).map (·.1)) H H'∧Tabs H' (tb5 T1 T2 T3 T4 T5)∧IsE K H' r (t.tpm m 0)) ?_ ?_
 ·intro C hC'
  obtain⟨o1,c1,p1,a1,a2,a3,a4⟩:=fn1.objs2;show Zl6 X _ _ _ _ [1,2,3] _ _ _ _;unfold Zl6;walk_at "1";refine⟨fun i hi=>?_,[(f1,o1),(c1,p1)],a1,fun K' cs ok kle kback hlk hcs=>?_⟩
  ·simp only[List.mem_cons,List.not_mem_nil,or_false] at hi
   rcases hi with rfl | rfl | rfl
   ·exact⟨_,rfl⟩
   ·exact⟨_,rfl⟩
   ·exact⟨_,rfl⟩
  rw[eK] at kle kback;obtain⟨fd1,G1⟩:=a4 K' fun p hp=>hlk p (List.mem_append_left _ hp)
  have cw:Zu5 X K' "number" (.int (ix:Nat))∧Zu5 X K' "pieces" (.ref lp)∧Zu5 X K' "places" (.ref pl)∧∀ p∈cs,∀ its n,p.2.data≠.seq its n:=by
   cases hcs with
   | cons h1 r1 =>
    cases r1 with
    | cons h2 r2 =>
     cases r2 with
     | cons h3 r3 =>
      cases r3;obtain⟨x1,v1,u1,e1,e2,e3,e4,e5⟩:=h1;obtain⟨x2,v2,u2,g1,g2,g3,g4,g5⟩:=h2;obtain⟨x3,v3,u3,f1,f2,f3,f4,f5⟩:=h3;rw[eN] at e1 g1 f1;cases e1;cases e2;cases g1;cases g2;cases f1;cases f2;refine⟨⟨_,_,u1,e3,hlk _ (List.mem_append_right _ (by simp)),e4,e5⟩,⟨_,_,u2,g3,hlk _ (List.mem_append_right _ (by simp)),g4,g5⟩,⟨_,_,u3,f3,hlk _ (List.mem_append_right _ (by simp)),f4,f5⟩,fun p hp its n z=>?_⟩;simp only[List.mem_cons,List.not_mem_nil,or_false] at hp;rcases hp with rfl | rfl | rfl
      ·rw[e4] at z;cases z
      ·rw[g4] at z;cases z
      ·rw[f4] at z;cases z
  have C1:Caught K' (Za3 Zc0) (Zi9 X.env.cells (Za3 Zc0).names []) ["places","number","pieces"] [.ref pl,.int (ix:Nat),.ref lp] :=
   Zn0 ok rfl (by decide +kernel) (by decide +kernel) fun i y u e1 e2=>by
    match i,e1,e2 with
    | 0,e1,e2=>cases e1;cases e2;exact cw.2.2.1
    | 1,e1,e2=>cases e1;cases e2;exact cw.1
    | 2,e1,e2=>cases e1;cases e2;exact cw.2.1
  have x1:=a3 Zb6 (by decide +kernel);have x2:=a3 Zc7 (by decide +kernel);have x3:=a3 Zi4 (by decide +kernel);generalize [(f1,o1),(c1,p1)]=xs at a1 a2 x1 x2 x3 hlk kback ⊢;have inn:=Yb3 a1 kle;have e34:SameT H1 H4:=e2.toT.trans s4.toT;have h4l:H4 lp=some (.lst us):=e34 _ _ (fun _ z=>nomatch z) hl1;have h4p:H4 pl=some (.lst (natW ms)):=s4.toT _ _ (fun _ z=>nomatch z) hp2
  have out:∀ {l:Addr} {ys:List V},H4 l=some (.lst ys)→l ∉ xs.map (·.1):=fun {l ys} h z=>by
   obtain⟨p,hp,e⟩:=List.mem_map.mp z;have:=a1 p hp;rw[e,h] at this;cases this
  refine⟨Zw9 K' (tb3 T1 T2 T3) (JPt K' lp pl us (t,0) ms) (RTn K' m) (t,0) f1,fun base'=>?_,?_⟩
  ·rw[eP,ew,em]
   exact GF K' base' _ _ _ (t,0) f1 fd1 kle Xp6 (fun H H' n p v k h=>IsE.keep h k)
    (Zq7 G1 hm hms.symm hz hdp hok C1 (.of (G_bl0 K' base' kle) m_bl0 (k_bl0 K' kle) (b_bl0.le kle)) (.of (G_bh0 K' base' kle) m_bh0 (k_bh0 K' kle) (b_bh0.le kle))) G1.kp (G1.binds fun _ _ _ _ us hl=>match us,hl with | [_,_],_=>rfl)
  ·have hl2:SqL K' (remX xs H4) lp us:=.inl (.inl (by rw[Zc9 (out h4l)];exact h4l))
   have hp3:SqL K' (remX xs H4) pl (natW ms):=.inl (.inl (by rw[Zc9 (out h4p)];exact h4p));have hu2:Paired (IsPf K' (remX xs H4)) us (preP (t,0)):=Paired.mapP hu1 fun _ p z=>Dn.moveT inn (Zq1 p) (IsPf.keep z (SameT.keepT e34));refine⟨lp,us,rfl,⟨hl2,hu2,hp3⟩,?_,hl2,hu2,by show t.size≤20000;walk_at "o",fun r H5 e5 t5 hr5 n5=>?_⟩
   ·intro x hx
    simp only[List.mem_cons,List.not_mem_nil,or_false] at hx;rcases hx with rfl | rfl | rfl
    ·exact u1.rem a1 x1
    ·exact u2.rem a1 x2
    ·exact u3.rem a1 x3
   have sb:=e5.back
   refine hC' _ _ ⟨r,rfl,((e02.toV.trans (s4.toV.mono (by simp))).trans (sb.mono (by
    intro b hb;simp only[List.map_cons,List.map_nil,List.mem_cons,List.not_mem_nil,or_false] at hb ⊢;rcases hb with hb | hb | hb
    ·exact .inl hb
    ·exact .inr (.inl hb)
    ·exact .inr (.inr (.inl hb))))),?_,Dn.moveT (Yd6 kback (fun p hp=>?_) n5) (Te.noList _) hr5⟩
   ·intro x hx
    simp only[List.mem_cons,List.not_mem_nil,or_false] at hx;rcases hx with rfl | rfl | rfl | rfl | rfl
    ·exact (t5 _ (by simp)).back n5
    ·exact (t5 _ (by simp)).back n5
    ·exact (t5 _ (by simp)).back n5
    ·exact sb.tab (by simp only[List.map_cons,List.map_nil,List.mem_cons,List.not_mem_nil,or_false,not_or];exact⟨fun z=>n14 z.symm,fun z=>n24 z.symm,fun z=>n34 z.symm⟩) u4
    ·exact sb.tab (by simp only[List.map_cons,List.map_nil,List.mem_cons,List.not_mem_nil,or_false,not_or];exact⟨fun z=>n15 z.symm,fun z=>n25 z.symm,fun z=>n35 z.symm⟩) tb4
   ·rcases List.mem_append.mp hp with hp | hp
    ·exact a2 p hp
    ·exact cw.2.2.2 p hp
 rintro σ5 H5 ⟨r,rfl,v5,t5,hr5⟩;refine sqt (fun σ' H'=>σ'=[some v,some (.int (ix:Nat)),some (.ref lp),some (.ref pl),some (.ref f1),some r]∧SameV ((tb5 T1 T2 T3 T4 T5).map (·.1)) H H'∧Tabs H' (tb5 T1 T2 T3 T4 T5)∧IsE K H' r (t.tpm m 0)∧(t.tpm m 0).size≤1000∧(t.tpm m 0).deep≤120) ?_ ?_
 ·intro C hC'
  walk_at "1";refine⟨r,_,rfl,hr5,hbig ix m rfl hm,fun H6 e6=>⟨_,rfl,?_⟩⟩;have v6:=v5.trans e6.toV;have t6:=t5.keep e6;refine ite2 (fun c1=>?_) (fun c1=>?_)
  ·rw[if_pos trivial]
   exact⟨by decide,fun e H' x=>q2 (fun z=>by have:=z.1;walk_at "o") e _ H' v6 t6 x⟩
  ·refine⟨r,_,rfl,IsE.keep hr5 e6.keepT,hbig ix m rfl hm,t6 (T4,Ze0) (by simp),fun H7 e7 t7=>⟨_,rfl,?_⟩⟩
   have v7:=v6.trans (e7.mono (by simp))
   have t7':Tabs H7 (tb5 T1 T2 T3 T4 T5):=by
    intro x hx;simp only[List.mem_cons,List.not_mem_nil,or_false] at hx;rcases hx with rfl | rfl | rfl | rfl | rfl
    ·exact e7.tab (by simpa using n14) (t6 (T1,Zb6) (by simp))
    ·exact e7.tab (by simpa using n24) (t6 (T2,Zc7) (by simp))
    ·exact e7.tab (by simpa using n34) (t6 (T3,Zi4) (by simp))
    ·exact t7
    ·exact e7.tab (by simpa using fun z=>n45 z.symm) (t6 (T5,Zk3) (by simp))
   refine ite2 (fun c2=>⟨by decide,fun e H' x=>q2 (fun z=>by have:=z.2;walk_at "o") e _ H' v7 t7' x⟩) (fun c2=>hC' _ _ ⟨rfl,v7,t7',IsE.keep hr5 (e6.keepT.trans (SameT.keepT e7.toT)),by walk_at "o",by walk_at "o"⟩)
 rintro σ6 H6 ⟨rfl,v6,t6,hr6,g1,g2⟩;walk_at "1";exact q1 ⟨g1,g2⟩ _ _ v6 t6 hr6
theorem Wa5 {T1 T2 T3 T4 T5:Addr} (hN:[T1,T2,T3,T4,T5].Nodup)
  {f_aw0:Addr}{fd_aw0:FuncData}(F_aw0:FunT K "changed" "changed" (top 9) f_aw0 fd_aw0 T1)(hB_changed:∀ h,K.In h→h.BuiltinsAt mg T1)(v_changed:mainGlobals≠T1)(m_aw0:MgI mg "changed" f_aw0)(b_aw0:Binds K fd_aw0 ["term","of_at"] [])
  {f_ay0:Addr}{fd_ay0:FuncData}(F_ay0:FunT K "lifted" "lifted" (top 14) f_ay0 fd_ay0 T2)(hB_lifted:∀ h,K.In h→h.BuiltinsAt mg T2)(v_lifted:mainGlobals≠T2)(m_ay0:MgI mg "lifted" f_ay0)(b_ay0:Binds K fd_ay0 ["term","by"] [])
  {f_bb0:Addr}{fd_bb0:FuncData}(F_bb0:FunT K "put" "put" (top 15) f_bb0 fd_bb0 T3)(hB_put:∀ h,K.In h→h.BuiltinsAt mg T3)(v_put:mainGlobals≠T3)(m_bb0:MgI mg "put" f_bb0)(b_bb0:Binds K fd_bb0 ["term","other"] [])
  {f_bd0:Addr}{fd_bd0:FuncData}(F_bd0:FunT K "term_deep" "term_deep" (top 12) f_bd0 fd_bd0 T4)(hB_term_deep:∀ h,K.In h→h.BuiltinsAt mg T4)(v_term_deep:mainGlobals≠T4)(m_bd0:MgI mg "term_deep" f_bd0)(b_bd0:Binds K fd_bd0 pq24 [])
  {f_bg0:Addr}{fd_bg0:FuncData}(F_bg0:FunT K "turned" "turned" (top 25) f_bg0 fd_bg0 T5)(hB_turned:∀ h,K.In h→h.BuiltinsAt mg T5)(v_turned:mainGlobals≠T5)(m_bg0:MgI mg "turned" f_bg0)(b_bg0:Binds K fd_bg0 pq21 [])
  {f_bc0:Addr}{fd_bc0:FuncData}(F_bc0:Fun K "standing" "standing" (top 6) f_bc0 fd_bc0)(m_bc0:MgI mg "standing" f_bc0)(b_bc0:Binds K fd_bc0 pq24 [])
  {f_bl0:Addr}{fd_bl0:FuncData}(F_bl0:Fun K "with_inner" "with_inner" (top 8) f_bl0 fd_bl0)(m_bl0:MgI mg "with_inner" f_bl0)(b_bl0:Binds K fd_bl0 pq17 [])
  {f_be0:Addr}{fd_be0:FuncData}(F_be0:Fun K "term_folded" "term_folded" (top 7) f_be0 fd_be0)(m_be0:MgI mg "term_folded" f_be0)(b_be0:Binds K fd_be0 pq18 [])
  {f_bh0:Addr}{fd_bh0:FuncData}(F_bh0:Fun K "turned_itself" "turned_itself" (top 22) f_bh0 fd_bh0)(m_bh0:MgI mg "turned_itself" f_bh0)(b_bh0:Binds K fd_bh0 pq24 [])
  {f_bf0:Addr}{fd_bf0:FuncData}(F_bf0:Fun K "term_parts" "term_parts" (top 11) f_bf0 fd_bf0)(m_bf0:MgI mg "term_parts" f_bf0)(b_bf0:Binds K fd_bf0 pq24 [])
  {aINNER:Addr} {aT:Nat→Addr} (m_aa0:MgI mg "INNER" aINNER) (D_INNER:KDict K w aINNER (innV aT)) (hI:Inn K aT) (m_reversed:mg "reversed"=none) (m_range:mg "range"=none) (m_len:mg "len"=none) (m_list:mg "list"=none) (m_zip:mg "zip"=none) (m_tuple:mg "tuple"=none) (m_sorted:mg "sorted"=none) (m_max:mg "max"=none)
  {aNoTurning aLarge:Addr} (m_NoTurning:MgI mg "NoTurning" aNoTurning) (x_NoTurning:XCls K aNoTurning) (m_Large:MgI mg "Large" aLarge) (x_Large:XCls K aLarge) {k1 k2:Tok} (m_ac0:mg "MOST_PARTS"=some (.int 1000 k1)) (m_ab0:mg "MOST_DEEP"=some (.int 120 k2))
  (C_turning_places:Cl P w K mg base 10 "turning_places" ["pieces"] (Zn1 K)) :
  FnOk P w K mg base (CXe P w) 11 f_bg0 fd_bg0 pq21 (Zp3 K (tb5 T1 T2 T3 T4 T5) aNoTurning aLarge):=by
 have gst:∀ (K':W.Frag) (base:Heap) (k:Nat),KLe K K'→FnOk P w K' mg base CX0 (k+1) f_bc0 fd_bc0 pq24 (Zf4 K'):=fun K' base k kle=>Xf9 (F_bc0.le kle) m_aa0 (D_INNER.le kle) (hI.le kle) m_reversed;have gch:∀ (K':W.Frag) (j:Nat),KLe K K'→GCh P w K' mg (j+1) T1 f_aw0 fd_aw0:=fun K' j kle=>Yq9 (F_aw0.le kle) (fun h hK=>hB_changed h fun a o e=>hK a o (kle a o e)) v_changed m_aa0 (D_INNER.le kle) (hI.le kle) m_reversed m_range m_len m_list m_zip m_tuple (F_bc0.le kle) m_bc0 (b_bc0.le kle) (F_bl0.le kle) m_bl0 (b_bl0.le kle) (F_be0.le kle) m_be0 (b_be0.le kle);have hN':=hN;simp only[List.nodup_cons,List.mem_cons,List.not_mem_nil,or_false,not_or] at hN';obtain⟨⟨n12,n13,_,_⟩,⟨n23,_,_⟩,_,_,_⟩:=hN'
 have gput:∀ (K':W.Frag) (base:Heap),KLe K K'→FnOk P w K' mg base CX0 7 f_bb0 fd_bb0 ["term","other"] (Yt3 K' T1 T2 T3 Zb6 Zc7 Zi4):=fun K' base kle =>
  Wf8 (j:=0) (F_bb0.le kle) (fun h hK=>hB_put h fun a o e=>hK a o (kle a o e)) v_put (fun z=>n13 z.symm) (fun z=>n23 z.symm) n12 m_aw0 (F_aw0.le kle).kp (b_aw0.le kle) (gch K' 2 kle)
   (.of (gst K' base 5 kle) m_bc0 (F_bc0.le kle).kp (b_bc0.le kle))
   (.of (Wf9 (j:=1) (F_ay0.le kle) (fun h hK=>hB_lifted h fun a o e=>hK a o (kle a o e)) v_lifted (fun z=>n12 z.symm) m_aw0 (F_aw0.le kle).kp (b_aw0.le kle) (gch K' 1 kle)) m_ay0 (F_ay0.le kle).kp (b_ay0.le kle)) m_sorted
 exact Wf5 (j:=8) hN F_bg0 hB_turned v_turned m_NoTurning x_NoTurning m_Large x_Large m_ac0 m_ab0
  (.of (gst K base 9 fun _ _ z=>z) m_bc0 F_bc0.kp b_bc0) C_turning_places
  (.of (Wf6 (k:=9) F_bf0 (.of (gst K base 8 fun _ _ z=>z) m_bc0 F_bc0.kp b_bc0) m_len) m_bf0 F_bf0.kp b_bf0)
  (.of (Wf7 (j:=7) F_bd0 hB_term_deep v_term_deep (.of (gst K base 8 fun _ _ z=>z) m_bc0 F_bc0.kp b_bc0) m_be0 F_be0.kp b_be0
   (fun K2 base J R p0 f2 fd2 k2 hJ hR G k b=>Xs8 (k:=8) hJ hR (F_be0.le k2) m_aa0 (D_INNER.le k2) (hI.le k2) m_reversed m_range m_len G k b) m_max) m_bd0 F_bd0.kp b_bd0)
  (fun K' base kle=>Xs7 (k:=7) (F_bl0.le kle) m_aa0 (D_INNER.le kle) (hI.le kle) m_list m_zip m_tuple) m_bl0 (fun K' kle=>(F_bl0.le kle).kp) b_bl0
  (fun K' base kle=>Wf4 (k:=7) (F_bh0.le kle) (.of (gput K' base kle) m_bb0 (F_bb0.le kle).kp (b_bb0.le kle))) m_bh0 (fun K' kle=>(F_bh0.le kle).kp) b_bh0
  m_be0 F_be0.kp b_be0
  (fun K2 base tb J R p0 f2 fd2 k2 hJ hR G k b=>Zm5 (k:=9) hJ hR (F_be0.le k2) m_aa0 (D_INNER.le k2) (hI.le k2) m_reversed m_range m_len G k b) m_len
theorem Wd0:FnScope ["_law_term"] ["_law_term"] (Za3 (top 38)):=scm (by decide +kernel)
theorem Wc7:FnScope ["_law_found","_law_term"] ["_law_found","_law_term"] (Za3 (top 39)):=scm (by decide +kernel)
theorem Wc9:FnScope ["_law_found","_law_number"] ["_law_found","_law_number"] (Za3 (top 40)):=scm (by decide +kernel)
theorem Wh2 {k:Nat} {f_aj0:Addr} {fd_aj0:FuncData} (F_aj0:Fun K "_law_inner_of" "_law_inner_of" (top 38) f_aj0 fd_aj0):Fk0 P w K mg base (k+1) f_aj0 fd_aj0 ["_law_term"] (Zx2 K):=by
 refine F_aj0.ok Wd0 (fun vs H Q E h=>?_) (fun cdv A outer s H vs Q E hr h=>?_)
 ·obtain⟨v,t,rfl,_⟩:=h
  rfl
 obtain⟨v,t,rfl,hT,q⟩:=h;obtain⟨p,xs,rfl,hs,hd⟩:=isE_view.mp hT;have h0:atI xs 0=some (.str t.tag):=Zb9 (Zl1 hd)
 refine⟨_,(Za4 (Zd7 (ptcM (Zf2) (pxt (pvM 0) Za2) Za8)
  (Za7 (Zb2 (Zf9 Za1)))
  Zb4)
 (Za4 (Zd7 (ptcM (Zf2) (pxt (pvM 0) Za2) Za8)
  (Za7 (Zb2 (Zf9 (Za0 (Zb1 (Za0 Za2 (Za0 Za2 Za1))) Za1))))
  Zb4)
 (Za4 (Zd7 (ptcM (Zf2) (pxt (pvM 0) Za2) Za8)
  (Za7 (Zb2 (Zf9 (Za0 (Zb1 (Za0 Za2 (Za0 Za2 Za1))) (Za0 (Zb1 (Za0 Za2 (Za0 Za2 Za1))) (Za0 (Zb1 (Za0 Za2 (Za0 Za2 Za1))) Za1))))))
  Zb4)
 (Za4 (Zd7 (Ye6 (Zq6) (pxt (pvM 0) Za2) (Zb1 (Za0 Za8 (Za0 Za8 Za1))) (by with_unfolding_all rfl))
  (Za7 (Zb2 (Zf9 (Za0 (Zb1 (Za0 Za2 (Za0 Za2 Za1))) (Za0 (Zb1 (Za0 Za2 (Za0 Za2 Za1))) Za1)))))
  Zb4)
 (Za7 (Zb2 (Zf9 (Za0 (Zb1 (Za0 Za2 (Za0 Za2 Za1))) Za1)))))))),?_⟩
 walk_at "1";have pr:∀ {H':Hp} {b:Addr} {i j:Nat},SqT K H' b [.int (i:Nat),.int (j:Nat)]→(∃ b',(V.ref b)=.ref b'∧SqT K H' b' [.int (((i,j):Nat×Nat).1:Nat),.int (((i,j):Nat×Nat).2:Nat)]):=fun {H' b i j} h=>⟨b,rfl,h⟩;refine⟨_,hs,_,h0,rfl,?_⟩
 cases t with
 | «at» k0 =>
  rw[if_pos (by rfl)];exact⟨by decide,fun p2 h2=>q _ _ _ (Za6 h2 _) h2 Za5 .nil⟩
 | fn s a =>
  rw[if_neg (by show ¬ V.str "fun"=V.str "at";decide)];refine⟨_,hs,_,h0,rfl,?_⟩;rw[if_pos (by rfl)];refine⟨by decide,fun p2 h2=>⟨by decide,fun p3 h3=>q _ _ _ ((Za6 h2 _).trans (Za6 h3 _)) ((Za6 h2 _).free h3) Za5 ?_⟩⟩;exact .cons (pr (i:=2) (j:=1) (Zd4 h3 _ _ (.inl (.inl Za5)))) .nil
 | cs a b c =>
  rw[if_neg (by show ¬ V.str "cases"=V.str "at";decide)];refine⟨_,hs,_,h0,rfl,?_⟩;rw[if_neg (by show ¬ V.str "cases"=V.str "fun";decide)];refine⟨_,hs,_,h0,rfl,?_⟩;rw[if_pos (by rfl)];refine⟨by decide,fun p2 h2=>⟨by decide,fun p3 h3=>⟨by decide,fun p4 h4=>⟨by decide,fun p5 h5=>?_⟩⟩⟩⟩;have s2:=Za6 h2 (.tup [.int 1,.int 0]);have s3:=Za6 h3 (.tup [.int 2,.int 1]);have s4:=Za6 h4 (.tup [.int 3,.int 1]);have s5:=Za6 h5 (.lst [.ref p2,.ref p3,.ref p4]);refine q _ _ _ (((s2.trans s3).trans s4).trans s5) (((s2.trans s3).trans s4).free h5) Za5 ?_;exact .cons (pr (i:=1) (j:=0) ((((s3.trans s4).trans s5)).sqt (.inl (.inl Za5)))) (.cons (pr (i:=2) (j:=1) ((s4.trans s5).sqt (.inl (.inl Za5)))) (.cons (pr (i:=3) (j:=1) (s5.sqt (.inl (.inl Za5)))) .nil))
 | two u a b =>
  rw[if_neg (by show ¬ V.str u.str=_;cases u<;>decide)];refine⟨_,hs,_,h0,rfl,?_⟩;rw[if_neg (by show ¬ V.str u.str=_;cases u<;>decide)];refine⟨_,hs,_,h0,rfl,?_⟩;rw[if_neg (by show ¬ V.str u.str=_;cases u<;>decide)];refine⟨_,hs,_,h0,by decide,fun p1 h1=>⟨_,.inr (.inl (.inl Za5)),rfl,rfl,?_⟩⟩;have s1:=Za6 h1 (.tup [.str "pair",.str "use"]);rw[if_neg Bool.false_ne_true,if_pos (by cases u<;>rfl)];refine⟨by decide,fun p2 h2=>⟨by decide,fun p3 h3=>⟨by decide,fun p4 h4=>?_⟩⟩⟩;have s2:=Za6 h2 (.tup [.int 1,.int 0]);have s3:=Za6 h3 (.tup [.int 2,.int 0]);have s4:=Za6 h4 (.lst [.ref p2,.ref p3]);refine q _ _ _ (((s1.trans s2).trans s3).trans s4) (((s1.trans s2).trans s3).free h4) Za5 ?_;exact .cons (pr (i:=1) (j:=0) ((s3.trans s4).sqt (.inl (.inl Za5)))) (.cons (pr (i:=2) (j:=0) (s4.sqt (.inl (.inl Za5)))) .nil)
 | one u a ss =>
  rw[if_neg (by show ¬ V.str u.str=_;cases u<;>decide)];refine⟨_,hs,_,h0,rfl,?_⟩;rw[if_neg (by show ¬ V.str u.str=_;cases u<;>decide)];refine⟨_,hs,_,h0,rfl,?_⟩;rw[if_neg (by show ¬ V.str u.str=_;cases u<;>decide)];refine⟨_,hs,_,h0,by decide,fun p1 h1=>⟨_,.inr (.inl (.inl Za5)),rfl,rfl,?_⟩⟩;have s1:=Za6 h1 (.tup [.str "pair",.str "use"]);rw[if_neg Bool.false_ne_true,if_neg (by show ¬ inV (V.str u.str) _=true;cases u<;>decide)];refine⟨by decide,fun p2 h2=>⟨by decide,fun p3 h3=>?_⟩⟩;have s2:=Za6 h2 (.tup [.int 1,.int 0]);have s3:=Za6 h3 (.lst [.ref p2]);exact q _ _ _ ((s1.trans s2).trans s3) ((s1.trans s2).free h3) Za5 (.cons (pr (i:=1) (j:=0) (s3.sqt (.inl (.inl Za5)))) .nil)
theorem Wh1 {k:Nat} {f_ak0:Addr} {fd_ak0:FuncData} (F_ak0:Fun K "_law_is_at" "_law_is_at" (top 40) f_ak0 fd_ak0) (m_isinstance:mg "isinstance"=none) (m_int:mg "int"=none) (m_tuple:mg "tuple"=none) (m_len:mg "len"=none) (m_bool:mg "bool"=none):Fk0 P w K mg base (k+1) f_ak0 fd_ak0 ["_law_found","_law_number"] (Xd4 K):=by
 refine F_ak0.ok Wc9 (fun vs H Q E h=>?_) (fun cdv A outer s H vs Q E hr h=>?_)
 ·obtain⟨x,k0,rfl,_⟩:=h
  rfl
 obtain⟨x,k0,rfl,hT,q⟩:=h;obtain⟨p,rfl,hs⟩:=isE_atV.mp hT
 refine⟨_,(Za4 (Zd7 ((Yy0 (Zu0 (Zt9 (Zd2 Zv9 (by exact rfl) m_isinstance Zh6 (Za0 (pvM 0) (Za0 (Yf3 (v:=.ty "tuple") (by exact rfl) m_tuple Zt6 (by exact rfl)) Za1))))) (Yy0 (ptcM (Xf5) (Zd2 Zc3 (by exact rfl) m_len Zf0 (Za0 (pvM 0) Za1)) Za2) (Yu1 (ptcM (Xf5) (pxt (pvM 0) Za2) Za8))))).pt
  (Za7 (Zb2 Yf4))
  Zb4)
 (Za7 (Zb2 (Xf4 (Zd2 Zv9 (by exact rfl) m_isinstance Zh6 (Za0 (pxt (pvM 0) Za2) (Za0 (Yf3 (v:=.ty "int") (by exact rfl) m_int Yg9 (by exact rfl)) Za1))) (Xf4 (We1 (Zd2 Zv9 (by exact rfl) m_isinstance Zh6 (Za0 (pxt (pvM 0) Za2) (Za0 (Yf3 (v:=.ty "bool") (by exact rfl) m_bool Xm0 (by exact rfl)) Za1)))) (Xs4 (Zs8 (Zf2) (pxt (pvM 0) Za2) (pvM 1) (Zy5 _)))))))),?_⟩
 refine sqt (fun σ' H'=>σ'=[some (.ref p),some (.int (k0:Nat))]∧H'=H) ?_ ?_
 ·intro C hC
  walk_at "1";refine⟨_,TyX.tupK hs,_,Yg0 K "tuple",?_⟩;rw[if_neg (by decide)];refine⟨_,.inr hs,?_⟩;rw[if_neg (by simp)];refine⟨_,hs,_,rfl,rfl,?_⟩;rw[if_neg (by decide)];exact hC _ _ ⟨rfl,rfl⟩
 rintro σ1 H1 ⟨rfl,rfl⟩;walk_at "1";refine⟨_,hs,_,rfl,_,.of (.int _),_,Yg0 K "int",?_⟩;rw[if_pos rfl];refine⟨_,hs,_,rfl,_,.of (.int _),_,show W.kitOne K (.type "int") (.type "bool")=some false from rfl,?_⟩;rw[if_pos (by decide)];refine⟨_,hs,_,rfl,rfl,?_⟩;rw[decide_eq_true rfl];exact q
theorem Wg6 {k:Nat} {f_ar0:Addr} {fd_ar0:FuncData} (F_ar0:Fun K "_law_shaped" "_law_shaped" (top 39) f_ar0 fd_ar0) (m_isinstance:mg "isinstance"=none) (m_tuple:mg "tuple"=none) (m_len:mg "len"=none):Fk0 P w K mg base (k+1) f_ar0 fd_ar0 ["_law_found","_law_term"] (Zs2 K):=by
 refine F_ar0.ok Wc7 (fun vs H Q E h=>?_) (fun cdv A outer s H vs Q E hr h=>?_)
 ·obtain⟨x,y,t,ks,ws,rfl,_⟩:=h
  rfl
 obtain⟨x,y,t,ks,ws,rfl,hX,hY,hk,hf,hw,q⟩:=h;obtain⟨px,xs,rfl,hsx,hdx⟩:=isE_view.mp hX;obtain⟨py,ys,rfl,hsy,hdy⟩:=isE_view.mp hY
 have lxy:xs.length=ys.length:=by rw[DnAll.length hdx,DnAll.length hdy,Te.withK_items hk,Zp8]
 have hx0:atI xs 0=some (.str t.tag):=by rw[← Xb0 hk];exact Zb9 (Zl1 hdx)
 have hy0:atI ys 0=some (.str t.tag):=Zb9 (Zl1 hdy)
 refine⟨_,(Za4 (Zd7 ((Yy0 (Zu0 (Zt9 (Zd2 Zv9 (by exact rfl) m_isinstance Zh6 (Za0 (pvM 0) (Za0 (Yf3 (v:=.ty "tuple") (by exact rfl) m_tuple Zt6 (by exact rfl)) Za1))))) (Yy0 (ptcM (Xf5) (Zd2 Zc3 (by exact rfl) m_len Zf0 (Za0 (pvM 0) Za1)) (Zd2 Zc3 (by exact rfl) m_len Zf0 (Za0 (pvM 1) Za1))) (Yu1 (ptcM (Xf5) (pxt (pvM 0) Za2) (pxt (pvM 1) Za2)))))).pt
  (Za7 (Zb2 Yf4))
  Zb4)
 (Za4 (Zd7 (ptcM (Zf2) (pxt (pvM 1) Za2) Za8)
  (Za7 (Zb2 (Zs8 (Xf6 (Xi6 hr)) (pxt (pvM 0) Za2) (pxt (pvM 1) Za2) (Zy5 _))))
  Zb4)
 (Za4 (Zd7 (Ye6 (Zq6) (pxt (pvM 1) Za2) (Zb1 (Za0 Za8 (Za0 Za8 (Za0 Za8 Za1)))) (by with_unfolding_all rfl))
  (Za7 (Zb2 (Zs8 (Xf6 (Xi6 hr)) (pxt (pvM 0) Za2) (pxt (pvM 1) Za2) (Zy5 _))))
  Zb4)
 (Za7 (Zb2 Yf4))))),?_⟩
 refine sqt (fun σ' H'=>σ'=[some (.ref px),some (.ref py)]∧H'=H) ?_ ?_
 ·intro C hC
  walk_at "1";refine⟨_,TyX.tupK hsx,_,Yg0 K "tuple",?_⟩;rw[if_neg (by decide)];refine⟨_,.inr hsx,_,.inr hsy,?_⟩;rw[if_neg (by rw[lxy];simp)];refine⟨_,hsx,_,hx0,_,hsy,_,hy0,rfl,?_⟩;rw[if_neg (by simp)];exact hC _ _ ⟨rfl,rfl⟩
 rintro σ1 H1 ⟨rfl,rfl⟩;walk_at "1";refine⟨_,hsy,_,hy0,rfl,?_⟩
 have eqS:∀ {x y:V} {s:Tm} {H2:Hp},Dn K H2 x s.data→Dn K H2 y s.data→okW ws s→Same H1 H2→∃ d,Dn K H2 x d∧∃ e,Dn K H2 y e∧d.canLay0=true∧e.canLay0=true∧min d.depth e.depth≤150∧Q (.bl (if false=true then !PyData.eqv d e else PyData.eqv d e)) H2:=fun {x y s H2} hx hy ho e1=>by
  refine⟨s.data,hx,s.data,hy,(ho.lay hw).1,(ho.lay hw).1,(ho.lay hw).2,?_⟩;rw[if_neg Bool.false_ne_true,Tm.eqv,decide_eq_true rfl];exact q _ e1
 cases t with
 | fn s a =>
  match ks,hk with
  | [k1],_ =>
   rw[if_pos (by rfl)];obtain⟨u,hu,du⟩:=Zh5 (i:=1) hdx rfl;obtain⟨u2,hu2,du2⟩:=Zh5 (i:=1) hdy rfl;exact⟨_,hsx,_,Zb9 (j:=1) hu,_,hsy,_,Zb9 (j:=1) hu2,eqS du du2 hf.1 (Same.refl _)⟩
 | «at» k0 =>
  rw[if_neg (by show ¬ V.str "at"=V.str "fun";decide)];refine⟨_,hsy,_,hy0,by decide,fun p hp=>⟨_,.inr (.inl (.inl Za5)),rfl,rfl,?_⟩⟩;rw[if_neg Bool.false_ne_true,if_neg (by show ¬ inV (V.str "at") _=true;decide)];exact q _ (Za6 hp _)
 | cs a b c =>
  rw[if_neg (by show ¬ V.str "cases"=V.str "fun";decide)];refine⟨_,hsy,_,hy0,by decide,fun p hp=>⟨_,.inr (.inl (.inl Za5)),rfl,rfl,?_⟩⟩;rw[if_neg Bool.false_ne_true,if_neg (by show ¬ inV (V.str "cases") _=true;decide)];exact q _ (Za6 hp _)
 | two u a b =>
  rw[if_neg (by show ¬ V.str u.str=V.str "fun";cases u<;>decide)];refine⟨_,hsy,_,hy0,by decide,fun p hp=>⟨_,.inr (.inl (.inl Za5)),rfl,rfl,?_⟩⟩;rw[if_neg Bool.false_ne_true,if_neg (by show ¬ inV (V.str u.str) _=true;cases u<;>decide)];exact q _ (Za6 hp _)
 | one u a ss =>
  rw[if_neg (by show ¬ V.str u.str=V.str "fun";cases u<;>decide)];refine⟨_,hsy,_,hy0,by decide,fun p hp=>⟨_,.inr (.inl (.inl Za5)),rfl,rfl,?_⟩⟩;rw[if_neg Bool.false_ne_true];have sp:=Za6 hp (.tup [.str "first",.str "second",.str "off"])
  by_cases ca:inV (V.str u.str) [V.str "first",V.str "second",V.str "off"]=true
  ·rw[if_pos (show inV (V.str (Te.one u a ss).tag) _=true from ca)]
   have l1:ss.length=1:=by rw[hf.2.1];cases u<;>first | rfl | exact absurd ca (by decide)
   match ks,hk,ss,l1,hf with
   | [k1],_,[s1],_,hf =>
    obtain⟨u1,hu,du⟩:=Zh5 (i:=2) hdx rfl;obtain⟨u2,hu2,du2⟩:=Zh5 (i:=2) hdy rfl;exact⟨_,sp.sqt hsx,_,Zb9 (j:=2) hu,_,sp.sqt hsy,_,Zb9 (j:=2) hu2,eqS (Dn.keepT sp.keepT s1.noList du) (Dn.keepT sp.keepT s1.noList du2) (hf.2.2 s1 List.mem_cons_self) sp⟩
  ·rw[if_neg (show ¬ inV (V.str (Te.one u a ss).tag) _=true from ca)]
   exact q _ sp
theorem Wc4:FnScope ["term"] ["term"] (Za3 (top 24)):=scm (by decide +kernel)
theorem Wf2 {k:Nat} {f_bj0:Addr} {fd_bj0:FuncData} (F_bj0:Fun K "turnings" "turnings" (top 24) f_bj0 fd_bj0) (C_standing:Cl P w K mg base k "standing" pq24 (Zf4 K)) (C_turning_places:Cl P w K mg base k "turning_places" ["pieces"] (Zn1 K)) (m_len:mg "len"=none):Fk0 P w K mg base (k+1) f_bj0 fd_bj0 pq24 (Zo0 K):=by
 refine F_bj0.ok Wc4 (fun vs H Q E h=>?_) (fun cdv A outer s H vs Q E hr h=>?_)
 ·obtain⟨v,t,rfl,_⟩:=h
  rfl
 obtain⟨v,t,rfl,hT,hz,q⟩:=h;refine⟨_,(Za7 (Zb2 (Zd2 Zc3 (by exact rfl) m_len Zf0 (Za0 (Zd1 C_turning_places hr (Za0 (Zd1 C_standing hr (Za0 (pvM 0) Za1)) Za1)) Za1)))),?_⟩;walk_at "1";refine⟨v,t,rfl,hT,hz,fun r H' us e _ h hu=>⟨r,us,t.pre 0,rfl,h,hu,by rw[Ze2];exact hz,fun r2 H2 e2 _ h2=>⟨r2,rfl,_,.inl (SqL.of h2),?_⟩⟩⟩;rw[List.length_map];exact q _ (e.trans e2)
theorem sc_av0:FnScope ["term","step"] ["term"] (Za3 (top 26)):=scm (by decide +kernel)
theorem Wg2 {k:Nat} {tb:TBs} {aNoTurning aLarge:Addr} {f_av0:Addr} {fd_av0:FuncData} (F_av0:Fun K "brought" "brought" (top 26) f_av0 fd_av0) {f_bg0:Addr} {fd_bg0:FuncData} (G_bg0:FnOk P w K mg base (CXe P w) k f_bg0 fd_bg0 pq21 (Zp3 K tb aNoTurning aLarge)) (m_bg0:MgI mg "turned" f_bg0) (k_bg0:KpI K f_bg0) (b_bg0:Binds K fd_bg0 pq21 []) (C_turnings:Cl P w K mg base k "turnings" pq24 (Zo0 K)) {k1:Tok} (m_ad0:mg "MOST_STEPS"=some (.int 150 k1)) (m_Large:MgI mg "Large" aLarge) (x_Large:XCls K aLarge) (m_range:mg "range"=none):FnOk P w K mg base (CXe P w) (k+1) f_av0 fd_av0 pq24 (Zs3 K tb aLarge):=by
 refine F_av0.okX sc_av0 (fun vs H Q E h=>?_) (fun cdv A outer s H vs Q E hr h=>?_)
 ·obtain⟨v,t,r,rfl,_⟩:=h
  rfl
 obtain⟨v,t,r,rfl,hv,tab,hR,q1,q2⟩:=h
 refine⟨_,(Za4 (Zm3 PassesOwn.leaving rfl (Zh3 rfl m_range (Za0 (Yf2 (v:=.int 150) (by exact rfl) m_ad0 ⟨_,rfl⟩) Za1)) (Zc2 (i:=1) sc_av0.nd rfl (Or.inl rfl))
  (Za4 (Zd7 (ptcM (Zf2) (Zd1 C_turnings hr (Za0 (pvM 0) Za1)) Za2)
  (Za7 (Zb2 (pvM 0)))
  Zb4)
 (Za7 (pst 0 sc_av0.nd (Zo3 G_bg0 hr (by exact rfl) m_bg0 k_bg0 b_bg0 .nil (Wl7 Zv2) (Za0 (pvM 0) (Za0 Za2 Za1)))))))
 (Za4 (Zd7 (ptcM (Yv1) (Zd1 C_turnings hr (Za0 (pvM 0) Za1)) Za2)
  (Za7 (Ye8 Zv2 rfl (by exact rfl) m_Large x_Large (Za0 (Xf2 (Yu4 (Xf0 (Yf2 (v:=.int 150) (by exact rfl) m_ad0 ⟨_,rfl⟩) (Yu4 Xs2)))) Za1)))
  Zb4)
 (Za7 (Zb2 (pvM 0))))),?_⟩
 refine sqt (fun σ' H'=>∃ (x:V) (t':Te) (x1:Option V),σ'=[some x,x1]∧SameV (tb.map (·.1)) H H'∧Tabs H' tb∧OkB K H' x t'∧Runs 0 t' r) ?_ ?_
 ·intro C hC
  walk_at "2";refine⟨by decide,by decide,Zj5 (D:={ nx:=C,rt:=Q }) (n:=Int.toNat 150) (lo:=0) (fun i σ' H'=>∃ (x:V) (t':Te) (x1:Option V),σ'=[some x,x1]∧SameV (tb.map (·.1)) H H'∧Tabs H' tb∧OkB K H' x t'∧Runs (150 - i) t' r) ⟨v,t,none,rfl,(Same.refl _).toV,tab,hv,hR⟩ (fun i σ' H' hi hp=>?_) (fun σ' H' ⟨x,t',x1,es,e,t1,o,R⟩=>hC _ _ ⟨x,t',x1,es,e,t1,o,R⟩)⟩;obtain⟨x,t',x1,rfl,e,t1,o,R⟩:=hp;have hi:i < 150:=hi;obtain⟨n,en⟩:∃ n,150 - i=n+1:=⟨149 - i,by walk_at "o"⟩;rw[en] at R;rw[show 150 - (i+1)=n by walk_at "o"];walk_at "1";refine⟨x,t',rfl,o.e,Nat.le_trans o.s (by decide),fun H2 e2=>⟨rfl,?_⟩⟩
  cases hs:t'.st with
  | none =>
   rcases Ys9 t' with ⟨z1,_⟩ | ⟨_,_,_,_,_,z⟩
   ·rw[z1,if_pos (by rfl)]
    exact q1 t' x H2 (Yj5 hs R) (e.trans e2.toV) (t1.keep e2) (IsE.keep o.e e2.keepT)
   ·rw[hs] at z;cases z
  | some t'' =>
   obtain⟨m,rr,ei,em,al⟩:=Xd2 hs;obtain⟨y1,y2,y3⟩:=Xd8 hs R;rw[ei,if_neg (by simp;walk_at "o")]
   have at0:∀ (j m':Nat),(0:Int)=(j:Nat)→(idxT 0 (t'.pre 0))[j]?=some m'→t'.tpm m' 0=t'':=fun j m' ej hj=>by
    have:j=0:=by walk_at "o"
    subst this;rw[ei] at hj;cases hj;exact em
   refine⟨x,t',0,rfl,IsE.keep o.e e2.keepT,Nat.le_trans o.s (by decide),o.b,o.a,t1.keep e2,fun j m' ej hj=>by rw[at0 j m' ej hj];exact y1,fun z=>absurd ⟨Int.le_refl _,by rw[ei];simp⟩ z,fun j m' ej hj=>?_⟩;rw[at0 j m' ej hj];exact⟨fun g r2 H3 e3 t3 hr=>⟨(e.trans e2.toV).trans e3,t3,t'',⟨hr,g.1,(y2 g).1,al _ o.a⟩,(y2 g).2⟩,fun g e3 H3 H4 s3 t3 x3=>q2 (y3 g) e3 H3 H4 ((e.trans e2.toV).trans s3) t3 x3⟩
 rintro σ1 H1 ⟨x,t',x1,rfl,e1,t1,o1,r1⟩;walk_at "1";refine⟨x,t',rfl,o1.e,Nat.le_trans o1.s (by decide),fun H2 e2=>⟨_,rfl,?_⟩⟩;have e02:=e1.trans e2.toV;have t2:=t1.keep e2
 cases hs:t'.st with
 | none =>
  rcases Ys9 t' with ⟨z1,_⟩ | ⟨_,_,_,_,_,z⟩
  ·rw[z1,if_neg (by decide)]
   exact q1 t' x H2 (Yj5 hs r1) e02 t2 (IsE.keep o1.e e2.keepT)
  ·rw[hs] at z;cases z
 | some t'' =>
  obtain⟨m,rr,ei,em,al⟩:=Xd2 hs;rw[ei,if_pos (by simp)]
  have l1:(Str.empty++Str.ofString "the term still turns behind "++Str.ofString (toString (150:Int))).length≤100:=by decide +kernel
  have l2:(Str.empty++Str.ofString "the term still turns behind "++Str.ofString (toString (150:Int))++Str.ofString " turnings").length≤100:=by decide +kernel
  have l0:(Str.empty++Str.ofString "the term still turns behind ").length≤100:=by decide +kernel
  exact⟨Nat.le_of_lt (Zf1 (by walk_at "o")),by decide +kernel,Nat.le_of_lt (Zf1 (by walk_at "o")),Nat.le_of_lt (Zf1 (by walk_at "o")),Nat.le_of_lt (Zf1 (by walk_at "o")),by decide,fun e3 H3 x3=>q2 (Xn8 hs r1) e3 H2 H3 e02 t2 x3⟩
theorem sc_an0:FnScope ["_law_term","_law_by","_law_own","_law_rest"] ["_law_term","_law_by","_law_own"] (Za3 (top 34)):=scm (by decide +kernel)
theorem Wg9 {k n:Nat} {f_an0:Addr} {fd_an0:FuncData} (F_an0:Fun K "_law_lifted" "_law_lifted" (top 34) f_an0 fd_an0) (G_an0:Fk0 P w K mg base k f_an0 fd_an0 pq14 (Zk1 K n)) (m_an0:MgI mg "_law_lifted" f_an0) (k_an0:KpI K f_an0) (b_an0:Binds K fd_an0 pq14 []) (m_int:mg "int"=none):Fk0 P w K mg base (k+1) f_an0 fd_an0 pq14 (Zk1 K (n+1)):=by
 refine F_an0.ok sc_an0 (fun vs H Q E h=>?_) (fun cdv A outer s H vs Q E hr h=>?_)
 ·obtain⟨v,t,bb,f,ws,rfl,_⟩:=h
  rfl
 obtain⟨v,t,bb,f,ws,rfl,hT,hf,hd,q⟩:=h
 refine⟨_,(Za4 (Zd7 (ptcM (Zf2) (pxt (pvM 0) Za2) Za8)
  (Za7 (Zb2 (pxl (Zf9 (Za0 (pvM 0) (Za0 (Zb1 (Za0 Za8 (Za0 (Zb8 Zd3 (pxt (pvM 0) Za2) (pvM 1)) Za1))) Za1))) (Zq2 Yl7 (by exact rfl) m_int Yg9 (Za0 (Zs8 (Yv2) (pxt (pvM 0) Za2) (pvM 2) (Zy5 _)) Za1)))))
  Zb4)
 (Za4 (Zd7 (ptcM (Zf2) (pxt (pvM 0) Za2) Za8)
  (Za7 (Zb2 (Zb1 (Za0 Za8 (Za0 (pxt (pvM 0) Za2) (Za0 (pcl G_an0 hr m_an0 k_an0 b_an0 (Za0 (pxt (pvM 0) Za2) (Za0 (pvM 1) (Za0 (Zb8 Zd3 (pvM 2) Za2) Za1)))) Za1))))))
  Zb4)
 (Za4 (Zd7 (ptcM (Zf2) (pxt (pvM 0) Za2) Za8)
  (Za4 (pst 3 sc_an0.nd (Zb1 (Za0 (pcl G_an0 hr m_an0 k_an0 b_an0 (Za0 (pxt (pvM 0) Za2) (Za0 (pvM 1) (Za0 (Zb8 Zd3 (pvM 2) Za2) Za1)))) (Za0 (pcl G_an0 hr m_an0 k_an0 b_an0 (Za0 (pxt (pvM 0) Za2) (Za0 (pvM 1) (Za0 (Zb8 Zd3 (pvM 2) Za2) Za1)))) Za1))))
 (Za7 (Zb2 (Zb8 Xf7 (Zb1 (Za0 Za8 (Za0 (pcl G_an0 hr m_an0 k_an0 b_an0 (Za0 (pxt (pvM 0) Za2) (Za0 (pvM 1) (Za0 (pvM 2) Za1)))) Za1))) (pvM 3)))))
  Zb4)
 (Za4 (Zd7 (Ye6 (Zq6) (pxt (pvM 0) Za2) (Zb1 (Za0 Za8 (Za0 Za8 Za1))) (by with_unfolding_all rfl))
  (Za7 (Zb2 (Zb1 (Za0 (pxt (pvM 0) Za2) (Za0 (pcl G_an0 hr m_an0 k_an0 b_an0 (Za0 (pxt (pvM 0) Za2) (Za0 (pvM 1) (Za0 (pvM 2) Za1)))) (Za0 (pcl G_an0 hr m_an0 k_an0 b_an0 (Za0 (pxt (pvM 0) Za2) (Za0 (pvM 1) (Za0 (pvM 2) Za1)))) Za1))))))
  Zb4)
 (Za7 (Zb2 (Zb8 Xf7 (Zb1 (Za0 (pxt (pvM 0) Za2) (Za0 (pcl G_an0 hr m_an0 k_an0 b_an0 (Za0 (pxt (pvM 0) Za2) (Za0 (pvM 1) (Za0 (pvM 2) Za1)))) Za1))) (Zv5 Wc0 (pvM 0) (Ye9 Za2) Yf0)))))))),?_⟩
 walk_at "1"
 cases t with
 | «at» k0 =>
  obtain⟨p,rfl,hs⟩:=isE_atV.mp hT;refine⟨p,rfl,_,hs,_,rfl,rfl,?_⟩;rw[if_pos (by rfl)];refine⟨p,rfl,_,hs,_,rfl,_,rfl,by decide,fun p2 h2=>⟨by decide,fun p3 h3=>?_⟩⟩;have sA:=(Za6 h2 (.tup [.str "at",.int ((k0:Int)+(bb:Int))])).trans (Za6 h3 (.lst [.ref p,.ref p2]));refine⟨p,rfl,_,sA.sqt hs,_,rfl,_,rfl,.inr ⟨_,SqL.of Za5,?_⟩⟩
  by_cases c:f≤k0
  ·rw[if_pos (by walk_at "o")]
   refine⟨_,rfl,q _ _ sA ?_⟩;show IsE K _ _ (.at (if f≤k0 then k0+bb else k0));rw[if_pos c];exact isE_atV.mpr ⟨p2,rfl,Zd4 h3 _ _ (.inl (.inl Za5))⟩
  ·rw[if_neg (by walk_at "o")]
   refine⟨_,rfl,q _ _ sA ?_⟩;show IsE K _ _ (.at (if f≤k0 then k0+bb else k0));rw[if_neg c];exact IsE.keep hT sA.keepT
 | one u a ss =>
  obtain⟨p,x,rs,rfl,hs,hx,hrs⟩:=isE_oneV.mp hT
  have hda:a.deep≤n:=by have:(Te.one u a ss).deep=1+a.deep:=rfl;walk_at "o"
  refine⟨p,rfl,_,hs,_,Zb9 (j:=0) rfl,rfl,?_⟩;rw[if_neg (by cases u<;>decide)];refine⟨p,rfl,_,hs,_,Zb9 (j:=0) rfl,rfl,?_⟩;rw[if_neg (by cases u<;>decide)];refine⟨p,rfl,_,hs,_,Zb9 (j:=0) rfl,rfl,?_⟩;rw[if_neg (by cases u<;>decide)];refine⟨p,rfl,_,hs,_,Zb9 (j:=0) rfl,by decide,fun p2 h2=>⟨_,.inr (.inl (.inl Za5)),rfl,rfl,?_⟩⟩;have s2:=Za6 h2 (.tup [.str "pair",.str "use"]);rw[if_neg Bool.false_ne_true,if_neg (by cases u<;>decide)];refine⟨p,rfl,_,s2.sqt hs,_,Zb9 (j:=0) rfl,p,rfl,_,s2.sqt hs,_,Zb9 (j:=1) rfl,x,a,bb,f,ws,rfl,IsE.keep hx s2.keepT,hf.1,hda,fun r1 H1 e1 hr1=>?_⟩
  have lr:rs.length≤1:=by
   rw[DnAll.length hrs,List.length_map,hf.2.1]
   cases u<;>decide
  refine⟨by decide,fun p3 h3=>⟨p,rfl,_,(Za6 h3 _).sqt (e1.sqt (s2.sqt hs)),Xq9 _ _ _,fun p4 h4=>?_⟩⟩;rw[cut2];have s3:=Za6 h3 (.tup [.str u.str,r1]);have s4:=Za6 h4 (.tup rs);have sA:=((s2.trans e1).trans s3).trans s4;refine⟨_,s4.sqt (.inl (.inl Za5)),_,.inl (.inl Za5),by simp,Nat.le_of_lt (Zk6 (by show 2+rs.length≤_;walk_at "o")),fun z=>q _ _ sA ?_,fun _ p5 h5=>q _ _ (sA.trans (Za6 h5 _)) ?_⟩
  ·have hss:ss=[]:=by
    have:=DnAll.length hrs;rw[z,List.length_map] at this;exact List.length_eq_zero_iff.mp this.symm
   subst hss;exact isE_oneV.mpr ⟨p3,r1,[],rfl,s4.sqt (.inl (.inl Za5)),IsE.keep hr1 (s3.trans s4).keepT,dnAll_nil⟩
  ·have k5:=Zd4 (K:=K) (o:=.tup ([.str u.str,r1]++rs)) h5
   exact isE_oneV.mpr ⟨p5,r1,rs,rfl,.inl (.inl Za5),IsE.keep hr1 ((s3.trans s4).keepT.trans k5),Xv8 (sA.keepT.trans k5) hrs⟩
 | two u a b =>
  obtain⟨p,x,y,rfl,hs,hx,hy⟩:=isE_twoV.mp hT;have ed:(Te.two u a b).deep=1+max a.deep b.deep:=rfl;refine⟨p,rfl,_,hs,_,rfl,rfl,?_⟩;rw[if_neg (by cases u<;>decide)];refine⟨p,rfl,_,hs,_,rfl,rfl,?_⟩;rw[if_neg (by cases u<;>decide)];refine⟨p,rfl,_,hs,_,rfl,rfl,?_⟩;rw[if_neg (by cases u<;>decide)];refine⟨p,rfl,_,hs,_,rfl,by decide,fun p2 h2=>⟨_,.inr (.inl (.inl Za5)),rfl,rfl,?_⟩⟩;have s2:=Za6 h2 (.tup [.str "pair",.str "use"]);rw[if_neg Bool.false_ne_true,if_pos (by cases u<;>decide)];refine⟨p,rfl,_,s2.sqt hs,_,rfl,p,rfl,_,s2.sqt hs,_,rfl,x,a,bb,f,ws,rfl,IsE.keep hx s2.keepT,hf.1,by walk_at "o",fun r1 H1 e1 hr1=>⟨p,rfl,_,e1.sqt (s2.sqt hs),_,rfl,y,b,bb,f,ws,rfl,IsE.keep hy (s2.trans e1).keepT,hf.2,by walk_at "o",fun r2 H2 e2 hr2=>⟨by decide,fun p3 h3=>q _ _ (((s2.trans e1).trans e2).trans (Za6 h3 _)) ?_⟩⟩⟩;exact isE_twoV.mpr ⟨p3,r1,r2,rfl,.inl (.inl Za5),IsE.keep hr1 (e2.trans (Za6 h3 _)).keepT,IsE.keep hr2 (Zd4 h3)⟩
 | fn s a =>
  obtain⟨p,x,y,rfl,hs,hx,hy⟩:=isE_fnV.mp hT;have ed:(Te.fn s a).deep=1+a.deep:=rfl;refine⟨p,rfl,_,hs,_,rfl,rfl,?_⟩;rw[if_neg (by decide)];refine⟨p,rfl,_,hs,_,rfl,rfl,?_⟩;rw[if_pos (by rfl)];refine⟨p,rfl,_,hs,_,rfl,p,rfl,_,hs,_,rfl,y,a,bb,f+1,ws,rfl,hy,hf.2,by walk_at "o",fun r H1 e1 hr1=>⟨by decide,fun p2 h2=>q _ _ (e1.trans (Za6 h2 _)) ?_⟩⟩;exact isE_fnV.mpr ⟨p2,x,r,rfl,.inl (.inl Za5),IsT.keep hx (e1.trans (Za6 h2 _)).keepT,IsE.keep hr1 (Zd4 h2)⟩
 | cs a b c =>
  obtain⟨p,x,y,z,rfl,hs,hx,hy,hz⟩:=isE_csV.mp hT;have ed:(Te.cs a b c).deep=1+max a.deep (max b.deep c.deep):=rfl;refine⟨p,rfl,_,hs,_,rfl,rfl,?_⟩;rw[if_neg (by decide)];refine⟨p,rfl,_,hs,_,rfl,rfl,?_⟩;rw[if_neg (by decide)];refine⟨p,rfl,_,hs,_,rfl,rfl,?_⟩;rw[if_pos (by rfl)];refine⟨p,rfl,_,hs,_,rfl,y,b,bb,f+1,ws,rfl,hy,hf.2.1,by walk_at "o",fun r1 H1 e1 hr1=>⟨p,rfl,_,e1.sqt hs,_,rfl,z,c,bb,f+1,ws,rfl,IsE.keep hz e1.keepT,hf.2.2,by walk_at "o",fun r2 H2 e2 hr2=>?_⟩⟩;refine⟨by decide,fun p1 h1=>?_⟩;have e12:=(e1.trans e2).trans (Za6 h1 (.tup [r1,r2]));refine⟨p,rfl,_,e12.sqt hs,_,rfl,x,a,bb,f,ws,rfl,IsE.keep hx e12.keepT,hf.1,by walk_at "o",fun r0 H3 e3 hr0=>⟨by decide,fun p4 h4=>?_⟩⟩;have s4:=Za6 h4 (.tup [.str "cases",r0]);refine⟨_,.inl (.inl Za5),_,s4.sqt (e3.sqt (.inl (.inl Za5))),by simp,by show 4≤sizeLine;decide,fun z=>absurd z (by simp),fun _ p5 h5=>q _ _ (((e12.trans e3).trans s4).trans (Za6 h5 _)) ?_⟩;have k5:=Zd4 (K:=K) (o:=.tup [.str "cases",r0,r1,r2]) h5;exact isE_csV.mpr ⟨p5,r0,r1,r2,rfl,.inl (.inl Za5),IsE.keep hr0 (s4.keepT.trans k5),IsE.keep hr1 ((e2.trans (Za6 h1 _)).keepT.trans ((e3.trans s4).keepT.trans k5)),IsE.keep hr2 ((Za6 h1 _).keepT.trans ((e3.trans s4).keepT.trans k5))⟩
theorem Yy6 {f:Addr} {fd:FuncData} {ps:List Str} {k:Nat} (hl:ps.length=3):Fk0 P w K mg base k f fd ps (Zk1 K 0):=by
 refine⟨fun vs H Q E h=>?_,fun A outer s H args us vs Q E hr e0 hb r hsp=>?_⟩
 ·obtain⟨v,t,bb,f,ws,rfl,_⟩:=h
  exact hl.symm
 ·obtain⟨v,t,bb,f,ws,_,_,_,hd,_⟩:=hsp
  exact absurd hd (by cases t<;>simp[Te.deep]<;>walk_at "o")
theorem Xm5 {f_an0:Addr} {fd_an0:FuncData} (F_an0:Fun K "_law_lifted" "_law_lifted" (top 34) f_an0 fd_an0) (m_an0:MgI mg "_law_lifted" f_an0) (b_an0:Binds K fd_an0 pq14 []) (m_int:mg "int"=none):∀ n,Fk0 P w K mg base n f_an0 fd_an0 pq14 (Zk1 K n)
 | 0=>Yy6 rfl
 | n+1=>Wg9 F_an0 (Xm5 F_an0 m_an0 b_an0 m_int n) m_an0 F_an0.kp b_an0 m_int
theorem sc_au0:FnScope ["_law_term","_law_base","_law_shape","_law_cell_here","_law_given_here","_law_k","_law_other","_law_here","_law_up","_law_same","_law_form"] ["_law_term","_law_base","_law_shape","_law_cell_here","_law_given_here"] (Za3 (top 35)):=scm (by decide +kernel)
theorem Wg3 {k:Nat} {f_au0:Addr} {fd_au0:FuncData} (F_au0:Fun K "_law_wrapped" "_law_wrapped" (top 35) f_au0 fd_au0) (C__law_lifted:Cl P w K mg base k "_law_lifted" pq14 (Zk1 K 60)) (m_len:mg "len"=none):Fk0 P w K mg base (k+1) f_au0 fd_au0 ["_law_term","_law_base","_law_shape","_law_cell_here","_law_given_here"] (Zx1 K):=by
 refine F_au0.ok sc_au0 (fun vs H Q E h=>?_) (fun cdv A outer s H vs Q E hr h=>?_)
 ·obtain⟨tv,bv,sv,c,ga,t,k0,st,ws,gs,ts,rfl,_⟩:=h
  rfl
 obtain⟨tv,bv,sv,c,ga,t,k0,st,ws,gs,ts,rfl,hc,ht,tf,td,hb,hs,sok,G,q⟩:=h
 refine⟨_,(Za4 (pst 5 sc_au0.nd (Zb8 Zd0 (Zb8 Ze6 (pvM 3) Za2) (Zd2 Zc3 (by exact rfl) m_len Zf0 (Za0 (pvM 4) Za1))))
 (Za4 (pst 6 sc_au0.nd (pxl (Zf9 (Za0 (Zb1 (Za0 Za8 (Za0 (pvM 5) Za1))) (Za0 (Zb1 (Za0 Za8 (Za0 (Zb1 (Za0 Za8 (Za0 (Zb1 (Za0 Za8 (Za0 (pvM 5) Za1))) (Za0 (Zb1 (Za0 Za8 (Za0 (pvM 5) Za1))) Za1)))) Za1))) Za1))) (Zb8 Zd0 (Zb8 Ze6 (pvM 3) Za2) Za2)))
 (Za4 (pst 7 sc_au0.nd (pxl (pvM 4) (pvM 5)))
 (Za4 (pst 8 sc_au0.nd (Zd1 C__law_lifted hr (Za0 (pvM 0) (Za0 Za2 (Za0 Za2 Za1)))))
 (Za4 (pst 9 sc_au0.nd (Zb1 (Za0 Za8 (Za0 (pvM 2) (Za0 (Zb1 (Za0 Za8 (Za0 Za2 Za1))) Za1)))))
 (Za4 (pst 10 sc_au0.nd (Zb8 Zd0 (pvM 3) Za2))
 (Za4 (Zd7 (ptcM (Zf2) (pvM 10) Za2)
  (Za7 (Zb2 (Zb1 (Za0 Za8 (Za0 (Zb1 (Za0 Za8 (Za0 (pvM 0) (Za0 (pvM 6) Za1)))) Za1)))))
  Zb4)
 (Za4 (Zd7 (ptcM (Zf2) (pvM 10) Za2)
  (Za7 (Zb2 (Zb1 (Za0 Za8 (Za0 (Zb1 (Za0 Za8 (Za0 (pvM 6) (Za0 (pvM 0) Za1)))) Za1)))))
  Zb4)
 (Za4 (Zd7 (ptcM (Zf2) (pvM 10) Za2)
  (Za7 (Zb2 (Zb1 (Za0 Za8 (Za0 (pvM 9) (Za0 (pvM 0) Za1))))))
  Zb4)
 (Za4 (Zd7 (ptcM (Zf2) (pvM 10) Za2)
  (Za7 (Zb2 (Zb1 (Za0 Za8 (Za0 (Zb1 (Za0 Za8 (Za0 (pvM 7) (Za0 (pvM 8) Za1)))) (Za0 (pvM 6) Za1))))))
  Zb4)
 (Za4 (Zd7 (ptcM (Zf2) (pvM 10) Za2)
  (Za7 (Zb2 (Zb1 (Za0 Za8 (Za0 (Zb1 (Za0 Za8 (Za0 (pvM 7) (Za0 (Zb1 (Za0 Za8 (Za0 (Zb1 (Za0 Za8 (Za0 (pvM 8) (Za0 (Zb1 (Za0 Za8 (Za0 Za2 Za1))) Za1)))) Za1))) Za1)))) (Za0 (pvM 6) Za1))))))
  Zb4)
 (Za4 (Zd7 (ptcM (Zf2) (pvM 10) Za2)
  (Za7 (Zb2 (Zb1 (Za0 Za8 (Za0 (Zb1 (Za0 Za8 (Za0 (pvM 6) (Za0 (pvM 2) Za1)))) (Za0 (pvM 8) (Za0 (Zb1 (Za0 Za8 (Za0 Za2 Za1))) Za1)))))))
  Zb4)
 (Za4 (Zd7 (ptcM (Zf2) (pvM 10) Za2)
  (Za7 (Zb2 (Zb1 (Za0 Za8 (Za0 (Zb1 (Za0 Za8 (Za0 (pvM 0) (Za0 (pvM 7) Za1)))) (Za0 (Zd1 C__law_lifted hr (Za0 (pvM 1) (Za0 Za2 (Za0 Za2 Za1)))) (Za0 (Zb1 (Za0 Za8 (Za0 Za2 Za1))) Za1)))))))
  Zb4)
 (Za4 (Zd7 (ptcM (Zf2) (pvM 10) Za2)
  (Za7 (Zb2 (Zb1 (Za0 Za8 (Za0 (Zb1 (Za0 Za8 (Za0 (Zb1 (Za0 Za8 (Za0 (Zb1 (Za0 Za8 (Za0 (pvM 2) (Za0 (pvM 2) Za1)))) (Za0 (Zb1 (Za0 Za8 (Za0 Za2 Za1))) Za1)))) (Za0 (pvM 9) Za1)))) (Za0 (pvM 0) Za1))))))
  Zb4)
 (Za7 (Zb2 (Zb1 (Za0 Za8 (Za0 (Zb1 (Za0 Za8 (Za0 (pvM 2) (Za0 (Zb1 (Za0 Za8 (Za0 (pvM 9) (Za0 (Zb1 (Za0 Za8 (Za0 Za2 Za1))) Za1)))) Za1)))) (Za0 (pvM 0) Za1)))))))))))))))))))),?_⟩
 refine sqt (fun σ' H'=>∃ j:Nat,j < gs.length∧σ'=[some tv,some bv,some sv,some (.int c),some (.ref ga),some (.int (j:Nat)),none,none,none,none,none]∧H'=H) ?_ ?_
 ·intro C hC
  walk_at "1";refine⟨⟨by decide,by decide⟩,gs,.inl (SqL.of G.g),?_⟩;have g0:=G.n;have m0:=Int.emod_nonneg (c / 18) (show (gs.length:Int)≠0 by walk_at "o");have m1:=Int.emod_lt_of_pos (c / 18) (show (0:Int) < (gs.length:Int) by walk_at "o");generalize c / 18 % (gs.length:Int)=m at m0 m1 ⊢;obtain⟨m,rfl⟩:=Int.eq_ofNat_of_zero_le m0;exact⟨by walk_at "o",hC _ _ ⟨m,by walk_at "o",rfl,rfl⟩⟩
 rintro σ1 H1 ⟨j,hj,rfl,rfl⟩;refine sqt (fun σ' H'=>∃ ov o,σ'=[some tv,some bv,some sv,some (.int c),some (.ref ga),some (.int (j:Nat)),some ov,none,none,none,none]∧Same H1 H'∧IsE K H' ov o∧Oth o) ?_ ?_
 ·intro C hC
  walk_at "1";refine⟨by decide,?_⟩;intro p1 h_p1;generalize e_p1:upd H1 p1 (.tup [.str "at",.int (j:Nat)])=J1;have s1:=nw1 h_p1 e_p1;have q1:=nw2 (K:=K) e_p1;refine⟨by decide,?_⟩;intro p2 h_p2;generalize e_p2:upd J1 p2 (.tup [.str "at",.int (j:Nat)])=J2;have s2:=nw1 h_p2 e_p2;have q2:=nw2 (K:=K) e_p2;refine⟨by decide,?_⟩;intro p3 h_p3;generalize e_p3:upd J2 p3 (.tup [.str "at",.int (j:Nat)])=J3;have s3:=nw1 h_p3 e_p3;have q3:=nw2 (K:=K) e_p3;refine⟨by decide,?_⟩;intro p4 h_p4;generalize e_p4:upd J3 p4 (.tup [.str "pair",.ref p2,.ref p3])=J4;have s4:=nw1 h_p4 e_p4;have q4:=nw2 (K:=K) e_p4;refine⟨by decide,?_⟩;intro p5 h_p5;generalize e_p5:upd J4 p5 (.tup [.str "left",.ref p4])=J5;have s5:=nw1 h_p5 e_p5;have q5:=nw2 (K:=K) e_p5;have s15:=(((s1.trans s2).trans s3).trans s4).trans s5;refine⟨by decide,fun p6 h6=>⟨⟨by decide,by decide⟩,by decide,?_⟩⟩;have s6:=Za6 h6 (.lst [.ref p1,.ref p5]);have hl:upd J5 p6 (.lst [.ref p1,.ref p5]) p6=some (.lst [.ref p1,.ref p5]):=Za5;generalize upd J5 p6 (.lst [.ref p1,.ref p5])=J6 at s6 hl ⊢;have s56:=s5.trans s6;have s46:=s4.trans s56;have s36:=s3.trans s46;have i1:IsE K J6 (.ref p1) (.at j):=Ze8 (k:=j) ((s2.trans s36).sqt q1);have i5:IsE K J6 (.ref p5) (.one .left (.two .pair (.at j) (.at j)) []):=Zv8 (u:=.left) (s6.sqt q5) (Zd5 (u:=.pair) (s56.sqt q4) (Ze8 (k:=j) (s36.sqt q2)) (Ze8 (k:=j) (s46.sqt q3)));have m0:=Int.emod_nonneg (c / 9) (show (2:Int)≠0 by decide);have m1:=Int.emod_lt_of_pos (c / 9) (show (0:Int) < 2 by decide);refine⟨_,SqL.of hl,?_⟩;generalize c / 9 % 2=m at m0 m1 ⊢;obtain⟨m,rfl⟩:=Int.eq_ofNat_of_zero_le m0
  match m,m1 with
  | 0,_=>exact⟨_,Zb9 (j:=0) rfl,hC _ _ ⟨_,_,rfl,s15.trans s6,i1,j,.inl rfl⟩⟩
  | 1,_=>exact⟨_,Zb9 (j:=1) rfl,hC _ _ ⟨_,_,rfl,s15.trans s6,i5,j,.inr rfl⟩⟩
 rintro σ2 H2 ⟨ov,o,rfl,e2,ho,oo⟩;have G2:=G.keep e2;obtain⟨hv,hs',hat,hh,hok⟩:=G2.at hj;refine sqt (fun σ' H'=>σ'=[some tv,some bv,some sv,some (.int c),some (.ref ga),some (.int (j:Nat)),some ov,some hv,none,none,none]∧H'=H2) ?_ ?_
 ·intro C hC
  walk_at "1";exact⟨_,SqL.of G2.g,_,Zb9 hat,hC _ _ ⟨rfl,rfl⟩⟩
 rintro σ3 H3 ⟨rfl,rfl⟩;have ht3:=IsE.keep ht e2.keepT;refine sqt (fun σ' H'=>∃ uv,σ'=[some tv,some bv,some sv,some (.int c),some (.ref ga),some (.int (j:Nat)),some ov,some hv,some uv,none,none]∧Same H3 H'∧IsE K H' uv (t.mp (Zb5 1) 0)) ?_ ?_
 ·intro C hC
  walk_at "1";exact⟨tv,t,1,0,ws,rfl,ht3,tf,td,fun r H' e h=>hC _ _ ⟨r,rfl,e,h⟩⟩
 rintro σ4 H4 ⟨uv,rfl,e4,hu⟩;have e14:=e2.trans e4;have hs4:=IsT.keep hs e14.keepT;refine sqt (fun σ' H'=>∃ wv,σ'=[some tv,some bv,some sv,some (.int c),some (.ref ga),some (.int (j:Nat)),some ov,some hv,some uv,some wv,none]∧Same H4 H'∧IsE K H' wv (.fn st (.at 0))) ?_ ?_
 ·intro C hC
  walk_at "1";refine⟨by decide,?_⟩;intro p1 h_p1;generalize e_p1:upd H4 p1 (.tup [.str "at",.int 0])=J1;have s1:=nw1 h_p1 e_p1;have q1:=nw2 (K:=K) e_p1;refine⟨by decide,?_⟩;intro p2 h_p2;generalize e_p2:upd J1 p2 (.tup [.str "fun",sv,.ref p1])=J2;have s2:=nw1 h_p2 e_p2;have q2:=nw2 (K:=K) e_p2;exact hC _ _ ⟨_,rfl,s1.trans s2,Zj4 q2 (IsT.keep hs4 (s1.trans s2).keepT) (Ze8 (k:=0) (s2.sqt q1))⟩
 rintro σ5 H5 ⟨wv,rfl,e5,hw⟩;have e15:=e14.trans e5;have c0:=Int.emod_nonneg c (show (9:Int)≠0 by decide);have c1:=Int.emod_lt_of_pos c (show (0:Int) < 9 by decide);obtain⟨f,ef⟩:=Int.eq_ofNat_of_zero_le c0;refine sqt (fun σ' H'=>σ'=[some tv,some bv,some sv,some (.int c),some (.ref ga),some (.int (j:Nat)),some ov,some hv,some uv,some wv,some (.int (f:Nat))]∧H'=H5) ?_ ?_
 ·intro C hC
  walk_at "1";rw[ef];exact⟨by decide,hC _ _ ⟨rfl,rfl⟩⟩
 rintro σ6 H6 ⟨rfl,rfl⟩
 have lf:f < 9:=by walk_at "o"
 clear ef c0 c1;have ht6:IsE K H6 tv t:=IsE.keep ht e15.keepT;have hb6:IsE K H6 bv (.at k0):=IsE.keep hb e15.keepT;have hs6:IsT K H6 sv st:=IsT.keep hs e15.keepT;have ho6:IsE K H6 ov o:=IsE.keep ho (e4.trans e5).keepT;have hh6:IsT K H6 hv hs':=IsT.keep hh (e4.trans e5).keepT;have hu6:IsE K H6 uv (t.mp (Zb5 1) 0):=IsE.keep hu e5.keepT;have uf:(t.mp (Zb5 1) 0).fine ws:=Zg1 tf
 have of':o.fine ws:=by
  obtain⟨i,e | e⟩:=oo
  ·rw[e];trivial
  ·rw[e];exact⟨⟨trivial,trivial⟩,rfl,fun s z=>nomatch z⟩
 have one:∀ {s:Tm} {u:U5},u.ar=1→okW ws s→[s].length=u.ar∧∀ x∈[s],okW ws x:=fun {s u} e h=>⟨e.symm,fun x z=>by rw[List.mem_singleton.mp z];exact h⟩;refine sqt (fun σ' H'=>σ'=[some tv,some bv,some sv,some (.int c),some (.ref ga),some (.int (j:Nat)),some ov,some hv,some uv,some wv,some (.int (f:Nat))]∧H'=H6∧f≠0) ?_ ?_
 ·intro C hC
  walk_at "3";refine ite2 (fun z=>?_) (fun z=>hC _ _ ⟨rfl,rfl,by walk_at "o"⟩);walk_at "1";refine⟨by decide,?_⟩;intro p1 h_p1;generalize e_p1:upd H6 p1 (.tup [.str "pair",tv,ov])=J1;have s1:=nw1 h_p1 e_p1;have q1:=nw2 (K:=K) e_p1;refine⟨by decide,?_⟩;intro p2 h_p2;generalize e_p2:upd J1 p2 (.tup [.str "left",.ref p1])=J2;have s2:=nw1 h_p2 e_p2;have q2:=nw2 (K:=K) e_p2;have s12:=s1.trans s2;exact q _ _ _ (e15.trans s12) (Zv8 (u:=.left) q2 (Zd5 (u:=.pair) (s2.sqt q1) (IsE.keep ht6 s12.keepT) (IsE.keep ho6 s12.keepT))) ⟨⟨tf,of'⟩,rfl,fun s z=>nomatch z⟩ (wr0 oo)
 rintro σ7 H7 ⟨rfl,rfl,f0⟩;refine sqt (fun σ' H'=>σ'=[some tv,some bv,some sv,some (.int c),some (.ref ga),some (.int (j:Nat)),some ov,some hv,some uv,some wv,some (.int (f:Nat))]∧H'=H7∧f≠1) ?_ ?_
 ·intro C hC
  walk_at "3";refine ite2 (fun z=>?_) (fun z=>hC _ _ ⟨rfl,rfl,by walk_at "o"⟩);walk_at "1";refine⟨by decide,?_⟩;intro p1 h_p1;generalize e_p1:upd H7 p1 (.tup [.str "pair",ov,tv])=J1;have s1:=nw1 h_p1 e_p1;have q1:=nw2 (K:=K) e_p1;refine⟨by decide,?_⟩;intro p2 h_p2;generalize e_p2:upd J1 p2 (.tup [.str "right",.ref p1])=J2;have s2:=nw1 h_p2 e_p2;have q2:=nw2 (K:=K) e_p2;have s12:=s1.trans s2;exact q _ _ _ (e15.trans s12) (Zv8 (u:=.right) q2 (Zd5 (u:=.pair) (s2.sqt q1) (IsE.keep ho6 s12.keepT) (IsE.keep ht6 s12.keepT))) ⟨⟨of',tf⟩,rfl,fun s z=>nomatch z⟩ (wr1 oo)
 rintro σ7 H7 ⟨rfl,rfl,f1⟩;refine sqt (fun σ' H'=>σ'=[some tv,some bv,some sv,some (.int c),some (.ref ga),some (.int (j:Nat)),some ov,some hv,some uv,some wv,some (.int (f:Nat))]∧H'=H7∧f≠2) ?_ ?_
 ·intro C hC
  walk_at "3";refine ite2 (fun z=>?_) (fun z=>hC _ _ ⟨rfl,rfl,by walk_at "o"⟩);walk_at "1";refine⟨by decide,?_⟩;intro p1 h_p1;generalize e_p1:upd H7 p1 (.tup [.str "use",wv,tv])=J1;have s1:=nw1 h_p1 e_p1;have q1:=nw2 (K:=K) e_p1;exact q _ _ _ (e15.trans s1) (Zd5 (u:=.use) q1 (IsE.keep hw s1.keepT) (IsE.keep ht6 s1.keepT)) ⟨⟨sok.w,trivial⟩,tf⟩ wr2
 rintro σ7 H7 ⟨rfl,rfl,f2⟩;refine sqt (fun σ' H'=>σ'=[some tv,some bv,some sv,some (.int c),some (.ref ga),some (.int (j:Nat)),some ov,some hv,some uv,some wv,some (.int (f:Nat))]∧H'=H7∧f≠3) ?_ ?_
 ·intro C hC
  walk_at "3";refine ite2 (fun z=>?_) (fun z=>hC _ _ ⟨rfl,rfl,by walk_at "o"⟩);walk_at "1";refine⟨by decide,?_⟩;intro p1 h_p1;generalize e_p1:upd H7 p1 (.tup [.str "fun",hv,uv])=J1;have s1:=nw1 h_p1 e_p1;have q1:=nw2 (K:=K) e_p1;refine⟨by decide,?_⟩;intro p2 h_p2;generalize e_p2:upd J1 p2 (.tup [.str "use",.ref p1,ov])=J2;have s2:=nw1 h_p2 e_p2;have q2:=nw2 (K:=K) e_p2;have s12:=s1.trans s2;exact q _ _ _ (e15.trans s12) (Zd5 (u:=.use) q2 (Zj4 (s2.sqt q1) (IsT.keep hh6 s12.keepT) (IsE.keep hu6 s12.keepT)) (IsE.keep ho6 s12.keepT)) ⟨⟨hok.w,uf⟩,of'⟩ (wr3 oo)
 rintro σ7 H7 ⟨rfl,rfl,f3⟩;refine sqt (fun σ' H'=>σ'=[some tv,some bv,some sv,some (.int c),some (.ref ga),some (.int (j:Nat)),some ov,some hv,some uv,some wv,some (.int (f:Nat))]∧H'=H7∧f≠4) ?_ ?_
 ·intro C hC
  walk_at "3";refine ite2 (fun z=>?_) (fun z=>hC _ _ ⟨rfl,rfl,by walk_at "o"⟩);walk_at "1";refine⟨by decide,?_⟩;intro p1 h_p1;generalize e_p1:upd H7 p1 (.tup [.str "at",.int 0])=J1;have s1:=nw1 h_p1 e_p1;have q1:=nw2 (K:=K) e_p1;refine⟨by decide,?_⟩;intro p2 h_p2;generalize e_p2:upd J1 p2 (.tup [.str "pair",uv,.ref p1])=J2;have s2:=nw1 h_p2 e_p2;have q2:=nw2 (K:=K) e_p2;refine⟨by decide,?_⟩;intro p3 h_p3;generalize e_p3:upd J2 p3 (.tup [.str "left",.ref p2])=J3;have s3:=nw1 h_p3 e_p3;have q3:=nw2 (K:=K) e_p3;refine⟨by decide,?_⟩;intro p4 h_p4;generalize e_p4:upd J3 p4 (.tup [.str "fun",hv,.ref p3])=J4;have s4:=nw1 h_p4 e_p4;have q4:=nw2 (K:=K) e_p4;refine⟨by decide,?_⟩;intro p5 h_p5;generalize e_p5:upd J4 p5 (.tup [.str "use",.ref p4,ov])=J5;have s5:=nw1 h_p5 e_p5;have q5:=nw2 (K:=K) e_p5;have s45:=s4.trans s5;have s35:=s3.trans s45;have s25:=s2.trans s35;have s15:=s1.trans s25;exact q _ _ _ (e15.trans s15) (Zd5 (u:=.use) q5 (Zj4 (s5.sqt q4) (IsT.keep hh6 s15.keepT) (Zv8 (u:=.left) (s45.sqt q3) (Zd5 (u:=.pair) (s35.sqt q2) (IsE.keep hu6 s15.keepT) (Ze8 (k:=0) (s25.sqt q1))))) (IsE.keep ho6 s15.keepT)) ⟨⟨hok.w,⟨uf,trivial⟩,rfl,fun s z=>nomatch z⟩,of'⟩ (wr4 oo)
 rintro σ7 H7 ⟨rfl,rfl,f4⟩;refine sqt (fun σ' H'=>σ'=[some tv,some bv,some sv,some (.int c),some (.ref ga),some (.int (j:Nat)),some ov,some hv,some uv,some wv,some (.int (f:Nat))]∧H'=H7∧f≠5) ?_ ?_
 ·intro C hC
  walk_at "3";refine ite2 (fun z=>?_) (fun z=>hC _ _ ⟨rfl,rfl,by walk_at "o"⟩);walk_at "1";refine⟨by decide,?_⟩;intro p1 h_p1;generalize e_p1:upd H7 p1 (.tup [.str "first",ov,sv])=J1;have s1:=nw1 h_p1 e_p1;have q1:=nw2 (K:=K) e_p1;refine⟨by decide,?_⟩;intro p2 h_p2;generalize e_p2:upd J1 p2 (.tup [.str "at",.int 0])=J2;have s2:=nw1 h_p2 e_p2;have q2:=nw2 (K:=K) e_p2;refine⟨by decide,?_⟩;intro p3 h_p3;generalize e_p3:upd J2 p3 (.tup [.str "cases",.ref p1,uv,.ref p2])=J3;have s3:=nw1 h_p3 e_p3;have q3:=nw2 (K:=K) e_p3;have s23:=s2.trans s3;have s13:=s1.trans s23;exact q _ _ _ (e15.trans s13) (isE_csV.mpr ⟨_,_,_,_,rfl,q3,Yw1 (u:=.first) (s23.sqt q1) (IsE.keep ho6 s13.keepT) (IsT.keep hs6 s13.keepT),IsE.keep hu6 s13.keepT,Ze8 (k:=0) (s3.sqt q2)⟩) ⟨⟨of',one rfl sok.w⟩,uf,trivial⟩ (wr5 oo)
 rintro σ7 H7 ⟨rfl,rfl,f5⟩;refine sqt (fun σ' H'=>σ'=[some tv,some bv,some sv,some (.int c),some (.ref ga),some (.int (j:Nat)),some ov,some hv,some uv,some wv,some (.int (f:Nat))]∧H'=H7∧f≠6) ?_ ?_
 ·intro C hC
  walk_at "3";refine ite2 (fun z=>?_) (fun z=>hC _ _ ⟨rfl,rfl,by walk_at "o"⟩);walk_at "1";refine⟨by decide,?_⟩;intro p1 h_p1;generalize e_p1:upd H7 p1 (.tup [.str "second",tv,hv])=J1;have s1:=nw1 h_p1 e_p1;have q1:=nw2 (K:=K) e_p1;refine⟨bv,.at k0,1,0,ws,rfl,IsE.keep hb6 s1.keepT,trivial,by show 1≤60;decide,fun r J2 e6 hr6=>⟨by decide,?_⟩⟩;intro p2 h_p2;generalize e_p2:upd J2 p2 (.tup [.str "at",.int 0])=J3;have s2:=nw1 h_p2 e_p2;have q2:=nw2 (K:=K) e_p2;refine⟨by decide,?_⟩;intro p3 h_p3;generalize e_p3:upd J3 p3 (.tup [.str "cases",.ref p1,r,.ref p2])=J4;have s3:=nw1 h_p3 e_p3;have q3:=nw2 (K:=K) e_p3;have s23:=s2.trans s3;have s13:=e6.trans s23;have s03:=s1.trans s13;exact q _ _ _ (e15.trans s03) (isE_csV.mpr ⟨_,_,_,_,rfl,q3,Yw1 (u:=.second) (s13.sqt q1) (IsE.keep ht6 s03.keepT) (IsT.keep hh6 s03.keepT),IsE.keep hr6 s23.keepT,Ze8 (k:=0) (s3.sqt q2)⟩) ⟨⟨tf,one rfl hok.w⟩,trivial,trivial⟩ wr6
 rintro σ7 H7 ⟨rfl,rfl,f6⟩;refine sqt (fun σ' H'=>σ'=[some tv,some bv,some sv,some (.int c),some (.ref ga),some (.int (j:Nat)),some ov,some hv,some uv,some wv,some (.int (f:Nat))]∧H'=H7∧f≠7) ?_ ?_
 ·intro C hC
  walk_at "3";refine ite2 (fun z=>?_) (fun z=>hC _ _ ⟨rfl,rfl,by walk_at "o"⟩);walk_at "1";refine⟨by decide,?_⟩;intro p1 h_p1;generalize e_p1:upd H7 p1 (.tup [.str "then",sv,sv])=J1;have s1:=nw1 h_p1 e_p1;have q1:=nw2 (K:=K) e_p1;refine⟨by decide,?_⟩;intro p2 h_p2;generalize e_p2:upd J1 p2 (.tup [.str "at",.int 0])=J2;have s2:=nw1 h_p2 e_p2;have q2:=nw2 (K:=K) e_p2;refine⟨by decide,?_⟩;intro p3 h_p3;generalize e_p3:upd J2 p3 (.tup [.str "fun",.ref p1,.ref p2])=J3;have s3:=nw1 h_p3 e_p3;have q3:=nw2 (K:=K) e_p3;refine⟨by decide,?_⟩;intro p4 h_p4;generalize e_p4:upd J3 p4 (.tup [.str "use",.ref p3,wv])=J4;have s4:=nw1 h_p4 e_p4;have q4:=nw2 (K:=K) e_p4;refine⟨by decide,?_⟩;intro p5 h_p5;generalize e_p5:upd J4 p5 (.tup [.str "use",.ref p4,tv])=J5;have s5:=nw1 h_p5 e_p5;have q5:=nw2 (K:=K) e_p5;have s45:=s4.trans s5;have s35:=s3.trans s45;have s25:=s2.trans s35;have s15:=s1.trans s25;have i1:IsT K J5 (.ref p1) (.nd .thn st st):=isT_nd.mpr ⟨p1,sv,sv,rfl,s25.sqt q1,IsT.keep hs6 s15.keepT,IsT.keep hs6 s15.keepT⟩;exact q _ _ _ (e15.trans s15) (Zd5 (u:=.use) q5 (Zd5 (u:=.use) (s5.sqt q4) (Zj4 (s45.sqt q3) i1 (Ze8 (k:=0) (s35.sqt q2))) (IsE.keep hw s15.keepT)) (IsE.keep ht6 s15.keepT)) ⟨⟨⟨sok.th,trivial⟩,sok.w,trivial⟩,tf⟩ wr7
 rintro σ7 H7 ⟨rfl,rfl,f7⟩;walk_at "1";refine⟨by decide,?_⟩;intro p1 h_p1;generalize e_p1:upd H7 p1 (.tup [.str "at",.int 0])=J1;have s1:=nw1 h_p1 e_p1;have q1:=nw2 (K:=K) e_p1;refine⟨by decide,?_⟩;intro p2 h_p2;generalize e_p2:upd J1 p2 (.tup [.str "use",wv,.ref p1])=J2;have s2:=nw1 h_p2 e_p2;have q2:=nw2 (K:=K) e_p2;refine⟨by decide,?_⟩;intro p3 h_p3;generalize e_p3:upd J2 p3 (.tup [.str "fun",sv,.ref p2])=J3;have s3:=nw1 h_p3 e_p3;have q3:=nw2 (K:=K) e_p3;refine⟨by decide,?_⟩;intro p4 h_p4;generalize e_p4:upd J3 p4 (.tup [.str "use",.ref p3,tv])=J4;have s4:=nw1 h_p4 e_p4;have q4:=nw2 (K:=K) e_p4;have s34:=s3.trans s4;have s24:=s2.trans s34;have s14:=s1.trans s24;exact q _ _ _ (e15.trans s14) (Zd5 (u:=.use) q4 (Zj4 (s4.sqt q3) (IsT.keep hs6 s14.keepT) (Zd5 (u:=.use) (s34.sqt q2) (IsE.keep hw s14.keepT) (Ze8 (k:=0) (s24.sqt q1)))) (IsE.keep ht6 s14.keepT)) ⟨⟨sok.w,⟨sok.w,trivial⟩,trivial⟩,tf⟩ wr8
theorem sc_ap0:FnScope ["_law_script","_law_start","_law_given_here","_law_cell_here","_law_k","_law_base","_law_term","_law_j","_law_seed"] ["_law_script","_law_start","_law_given_here"] (Za3 (top 42)):=scm (by decide +kernel)
theorem Wg8 {k:Nat} {f_ap0:Addr} {fd_ap0:FuncData} (F_ap0:Fun K "_law_one" "_law_one" (top 42) f_ap0 fd_ap0) (C__law_cell:Cl P w K mg base k "_law_cell" pq9 (Zx5 K)) (C__law_mix:Cl P w K mg base k "_law_mix" pq0 (Zp6)) (C__law_wrapped:Cl P w K mg base k "_law_wrapped" ["_law_term","_law_base","_law_shape","_law_cell_here","_law_given_here"] (Zx1 K)) (m_range:mg "range"=none) (m_max:mg "max"=none) (m_len:mg "len"=none):Fk0 P w K mg base (k+1) f_ap0 fd_ap0 ["_law_script","_law_start","_law_given_here"] (Xd3 K):=by
 refine F_ap0.ok sc_ap0 (fun vs H Q E h=>?_) (fun cdv A outer s H vs Q E hr h=>?_)
 ·obtain⟨sa,ga,ns,b,ws,gs,ts,rfl,_⟩:=h
  rfl
 obtain⟨sa,ga,ns,b,ws,gs,ts,rfl,hS,h63,hb,G,q⟩:=h
 refine⟨_,(Za4 (pst 3 sc_ap0.nd (Zd1 C__law_cell hr (Za0 (pvM 0) (Za0 (pvM 1) Za1))))
 (Za4 (pst 4 sc_ap0.nd (Zb8 Zd0 (pvM 3) (Zd2 Zc3 (by exact rfl) m_len Zf0 (Za0 (pvM 2) Za1))))
 (Za4 (pst 5 sc_ap0.nd (Zb1 (Za0 Za8 (Za0 (pvM 4) Za1))))
 (Za4 (pst 6 sc_ap0.nd (pvM 5))
 (Za4 (Zm3 PassesOwn.never rfl (Zh3 rfl m_range (Za0 (Zb8 Zd0 (Zb8 Ze6 (pvM 3) Za2) Za2) Za1)) (Zc2 (i:=7) sc_ap0.nd rfl (Or.inl rfl))
  (Za4 (pst 8 sc_ap0.nd (Zd1 C__law_mix hr (Za0 (Zd1 C__law_cell hr (Za0 (pvM 0) (Za0 (Zb8 Zd3 (Zb8 Zd3 (pvM 1) Za2) (Zb8 Zd0 (pvM 7) (Zd2 (Ya1 rfl) (by exact rfl) m_max boot_max (Za0 Za2 (Za0 (Zd2 Zc3 (by exact rfl) m_len Zf0 (Za0 (pvM 0) Za1)) Za1))))) Za1))) (Za0 (Zb8 Zd3 (pvM 7) Za2) Za1))))
 (Za7 (pst 6 sc_ap0.nd (Zd1 C__law_wrapped hr (Za0 (pvM 6) (Za0 (pvM 5) (Za0 (pxl (pvM 2) (pvM 4)) (Za0 (pvM 8) (Za0 (pvM 2) Za1))))))))))
 (Za7 (Zb2 (Zf9 (Za0 (pvM 6) (Za0 (pvM 5) (Za0 (pxl (pvM 2) (pvM 4)) Za1))))))))))),?_⟩
 have c0:=Yr7 ns (b:Int);refine sqt (fun σ' H'=>σ'=[some (.ref sa),some (.int (b:Nat)),some (.ref ga),some (.int (cellOf ns b)),none,none,none,none,none]∧H'=H) ?_ ?_
 ·intro C hC
  walk_at "1";exact⟨_,ns,_,rfl,hS,h63,by walk_at "o",by walk_at "o",hC _ _ ⟨rfl,rfl⟩⟩
 rintro σ1 H1 ⟨rfl,rfl⟩;generalize cellOf ns b=c at c0 ⊢;have g0:=G.n;have m0:=Int.emod_nonneg c (show (gs.length:Int)≠0 by walk_at "o");have m1:=Int.emod_lt_of_pos c (show (0:Int) < (gs.length:Int) by walk_at "o");obtain⟨j,ej⟩:=Int.eq_ofNat_of_zero_le m0
 have hj:j < gs.length:=by walk_at "o"
 refine sqt (fun σ' H'=>σ'=[some (.ref sa),some (.int (b:Nat)),some (.ref ga),some (.int c),some (.int (j:Nat)),none,none,none,none]∧H'=H1) ?_ ?_
 ·intro C hC
  walk_at "1";refine⟨gs,.inl (SqL.of G.g),by walk_at "o",?_⟩;rw[ej];exact hC _ _ ⟨rfl,rfl⟩
 rintro σ2 H2 ⟨rfl,rfl⟩;refine sqt (fun σ' H'=>∃ bv,σ'=[some (.ref sa),some (.int (b:Nat)),some (.ref ga),some (.int c),some (.int (j:Nat)),some bv,none,none,none]∧Same H2 H'∧IsE K H' bv (.at j)) ?_ ?_
 ·intro C hC
  walk_at "1";refine⟨by decide,?_⟩;intro p1 h_p1;generalize e_p1:upd H2 p1 (.tup [.str "at",.int (j:Nat)])=J1;have s1:=nw1 h_p1 e_p1;have q1:=nw2 (K:=K) e_p1;exact hC _ _ ⟨_,rfl,s1,Ze8 (k:=j) q1⟩
 rintro σ3 H3 ⟨bv,rfl,e3,hbv⟩;refine sqt (fun σ' H'=>σ'=[some (.ref sa),some (.int (b:Nat)),some (.ref ga),some (.int c),some (.int (j:Nat)),some bv,some bv,none,none]∧H'=H3) ?_ ?_
 ·intro C hC
  walk_at "1";exact hC _ _ ⟨rfl,rfl⟩
 rintro σ4 H4 ⟨rfl,rfl⟩;obtain⟨sv,st,hat,isv0,sok⟩:=G.at hj;have isv:∀ {J:Hp},Same H2 J→IsT K J sv st:=fun {J} e=>IsT.keep isv0 e.keepT;have n0:=Int.emod_nonneg (c / 8) (show (13:Int)≠0 by decide);have n1:=Int.emod_lt_of_pos (c / 8) (show (0:Int) < 13 by decide);obtain⟨m,em⟩:=Int.eq_ofNat_of_zero_le n0;refine sqt (fun σ' H'=>∃ tv t x7 x8,σ'=[some (.ref sa),some (.int (b:Nat)),some (.ref ga),some (.int c),some (.int (j:Nat)),some bv,some tv,x7,x8]∧Same H4 H'∧IsE K H' tv t∧t.fine ws∧Wn j m t) ?_ ?_
 ·intro C hC
  walk_at "2";rw[em];refine⟨⟨by decide,by decide⟩,by decide,by walk_at "o",by walk_at "o",?_⟩;refine Zj5 (D:={ nx:=C,rt:=Q }) (n:=((m:Nat):Int).toNat) (lo:=0) (fun i σ' H'=>∃ tv t x7 x8,σ'=[some (.ref sa),some (.int (b:Nat)),some (.ref ga),some (.int c),some (.int (j:Nat)),some bv,some tv,x7,x8]∧Same H4 H'∧IsE K H' tv t∧t.fine ws∧Wn j i t) ⟨bv,.at j,none,none,rfl,Same.refl _,hbv,trivial,Xu7⟩ (fun i σ' H' hi hp=>?_) (fun σ' H' ⟨tv,t,x7,x8,e0,e,h1,h2,h3⟩=>hC _ _ ⟨tv,t,x7,x8,e0,e,h1,h2,by rw[Int.toNat_natCast] at h3;exact h3⟩);obtain⟨tv,t,x7,x8,rfl,e,h1,h2,h3⟩:=hp;have e2:=e3.trans e
  have hi:i < m:=by walk_at "o"
  unfold Zv1;refine sqt (fun σ' J=>∃ x:Int,σ'=[some (.ref sa),some (.int (b:Nat)),some (.ref ga),some (.int c),some (.int (j:Nat)),some bv,some tv,some (.int (0+(i:Int))),some (.int x)]∧J=H'∧0≤x) ?_ ?_
  ·intro C' hC'
   walk_at "1";refine⟨ns.map V.int,.inl (e2.seq hS),?_⟩
   have m0:0 < (if ((ns.map V.int).length:Int) > 1 then ((ns.map V.int).length:Int) else 1):=by split<;>walk_at "o"
   have m1:(if ((ns.map V.int).length:Int) > 1 then ((ns.map V.int).length:Int) else 1)≤63:=by rw[List.length_map];split<;>walk_at "o"
   generalize (if ((ns.map V.int).length:Int) > 1 then ((ns.map V.int).length:Int) else 1)=M at m0 m1 ⊢;have a0:=Int.emod_nonneg (0+(i:Int)) (show M≠0 by walk_at "o");have a1:=Int.emod_lt_of_pos (0+(i:Int)) m0;exact⟨m0,_,ns,_,rfl,e2.seq hS,h63,by walk_at "o",by walk_at "o",_,_,rfl,by walk_at "o",by walk_at "o",hC' _ _ ⟨_,rfl,rfl,Zy9 _ _⟩⟩
  rintro σ5 H5 ⟨x,rfl,rfl,hx⟩;walk_at "1";exact⟨_,SqL.of (e2 _ _ G.g),_,Zb9 hat,tv,bv,sv,x,ga,t,j,st,ws,gs,ts,rfl,hx,h1,h2,Xu6 h3 (by walk_at "o"),IsE.keep hbv e.keepT,isv e2,sok,G.keep e2,fun r H6 u e6 hu uf wu=>⟨e.trans e6,u,hu,uf,Xu5 h3 wu⟩⟩
 rintro σ5 H5 ⟨tv,t,x7,x8,rfl,e5,h1,h2,h3⟩;walk_at "1";have e35:=e3.trans e5;refine⟨_,SqL.of (e35 _ _ G.g),_,Zb9 hat,by decide,fun l hl=>?_⟩;have s6:=Za6 hl (.lst [tv,bv,sv]);exact q l _ tv bv sv t j m st (e35.trans s6) Za5 (IsE.keep h1 s6.keepT) h2 (by walk_at "o") h3 (IsE.keep hbv (e5.trans s6).keepT) (isv (e35.trans s6)) sok
theorem sc_ag0:FnScope ["_law_many","_law_shape","_law_base","_law_twice","_law_term","_law_k"] ["_law_many","_law_shape","_law_base"] (Za3 (top 36)):=scm (by decide +kernel)
theorem sc_aq0:FnScope ["_law_many","_law_shape","_law_base","_law_term","_law_count","_law_k"] ["_law_many","_law_shape","_law_base"] (Za3 (top 37)):=scm (by decide +kernel)
theorem Wh5 {k:Nat} {f_ag0:Addr} {fd_ag0:FuncData} (F_ag0:Fun K "_law_doubled" "_law_doubled" (top 36) f_ag0 fd_ag0) (m_range:mg "range"=none):Fk0 P w K mg base (k+1) f_ag0 fd_ag0 pq7 (Zx3 K):=by
 refine F_ag0.ok sc_ag0 (fun vs H Q E h=>?_) (fun cdv A outer s H vs Q E hr h=>?_)
 ·obtain⟨n,sv,bv,s,rfl,_⟩:=h
  rfl
 obtain⟨n,sv,bv,s,rfl,hn,hs,hb,q⟩:=h
 refine⟨_,(Za4 (pst 3 sc_ag0.nd (Zb1 (Za0 Za8 (Za0 (pvM 1) (Za0 (Zb1 (Za0 Za8 (Za0 (Zb1 (Za0 Za8 (Za0 Za2 Za1))) (Za0 (Zb1 (Za0 Za8 (Za0 (Zb1 (Za0 Za8 (Za0 Za2 Za1))) (Za0 (Zb1 (Za0 Za8 (Za0 Za2 Za1))) Za1)))) Za1)))) Za1)))))
 (Za4 (pst 4 sc_ag0.nd (pvM 2))
 (Za4 (Zm3 PassesOwn.never rfl (Zh3 rfl m_range (Za0 (pvM 0) Za1)) (Zc2 (i:=5) sc_ag0.nd rfl (Or.inl rfl))
  (Za7 (pst 4 sc_ag0.nd (Zb1 (Za0 Za8 (Za0 (Zb1 (Za0 Za8 (Za0 (Zb1 (Za0 Za8 (Za0 (pvM 1) (Za0 (pvM 1) Za1)))) (Za0 (pvM 3) Za1)))) (Za0 (pvM 4) Za1)))))))
 (Za7 (Zb2 (pvM 4)))))),?_⟩
 refine sqt (fun σ' H'=>∃ tv,σ'=[some (.int (n:Nat)),some sv,some bv,some tv,none,none]∧Same H H'∧IsE K H' tv (tw s)) ?_ ?_
 ·intro C hC
  walk_at "1";refine⟨by decide,?_⟩;intro p1 h_p1;generalize e_p1:upd H p1 (.tup [.str "at",.int 1])=J1;have s1:=nw1 h_p1 e_p1;have q1:=nw2 (K:=K) e_p1;refine⟨by decide,?_⟩;intro p2 h_p2;generalize e_p2:upd J1 p2 (.tup [.str "at",.int 1])=J2;have s2:=nw1 h_p2 e_p2;have q2:=nw2 (K:=K) e_p2;refine⟨by decide,?_⟩;intro p3 h_p3;generalize e_p3:upd J2 p3 (.tup [.str "at",.int 0])=J3;have s3:=nw1 h_p3 e_p3;have q3:=nw2 (K:=K) e_p3;refine⟨by decide,?_⟩;intro p4 h_p4;generalize e_p4:upd J3 p4 (.tup [.str "use",.ref p2,.ref p3])=J4;have s4:=nw1 h_p4 e_p4;have q4:=nw2 (K:=K) e_p4;refine⟨by decide,?_⟩;intro p5 h_p5;generalize e_p5:upd J4 p5 (.tup [.str "use",.ref p1,.ref p4])=J5;have s5:=nw1 h_p5 e_p5;have q5:=nw2 (K:=K) e_p5;refine⟨by decide,?_⟩;intro p6 h_p6;generalize e_p6:upd J5 p6 (.tup [.str "fun",sv,.ref p5])=J6;have s6:=nw1 h_p6 e_p6;have q6:=nw2 (K:=K) e_p6;have s56:=s5.trans s6;have s46:=s4.trans s56;have s36:=s3.trans s46;have s26:=s2.trans s36;exact hC _ _ ⟨_,rfl,s1.trans s26,Zj4 q6 (IsT.keep hs (s1.trans s26).keepT) (Zd5 (u:=.use) (s6.sqt q5) (Ze8 (k:=1) (s26.sqt q1)) (Zd5 (u:=.use) (s56.sqt q4) (Ze8 (k:=1) (s36.sqt q2)) (Ze8 (k:=0) (s46.sqt q3))))⟩
 rintro σ1 H1 ⟨tv,rfl,e1,ht⟩;have hs1:=IsT.keep hs e1.keepT;have hb1:=IsE.keep hb e1.keepT;refine sqt (fun σ' H'=>σ'=[some (.int (n:Nat)),some sv,some bv,some tv,some bv,none]∧H'=H1) ?_ ?_
 ·intro C hC
  walk_at "1";exact hC _ _ ⟨rfl,rfl⟩
 rintro σ2 H2 ⟨rfl,rfl⟩;refine sqt (fun σ' H'=>∃ r x5,σ'=[some (.int (n:Nat)),some sv,some bv,some tv,some r,x5]∧Same H2 H'∧IsE K H' r (dbT s n (.at 0))) ?_ ?_
 ·intro C hC
  walk_at "2";refine⟨by walk_at "o",by walk_at "o",Zj5 (D:={ nx:=C,rt:=Q }) (n:=((n:Nat):Int).toNat) (lo:=0) (fun i σ' H'=>∃ r x5,σ'=[some (.int (n:Nat)),some sv,some bv,some tv,some r,x5]∧Same H2 H'∧IsE K H' r (dbT s i (.at 0))) ⟨bv,none,rfl,Same.refl _,hb1⟩ (fun i σ' H' hi hp=>?_) (fun σ' H' ⟨r,x5,es,e,h⟩=>hC _ _ ⟨r,x5,es,e,h⟩)⟩;obtain⟨r,x5,rfl,e,h⟩:=hp;walk_at "1";refine⟨by decide,?_⟩;intro p1 h_p1;generalize e_p1:upd H' p1 (.tup [.str "then",sv,sv])=J1;have s1:=nw1 h_p1 e_p1;have q1:=nw2 (K:=K) e_p1;refine⟨by decide,?_⟩;intro p2 h_p2;generalize e_p2:upd J1 p2 (.tup [.str "fun",.ref p1,tv])=J2;have s2:=nw1 h_p2 e_p2;have q2:=nw2 (K:=K) e_p2;refine⟨by decide,?_⟩;intro p3 h_p3;generalize e_p3:upd J2 p3 (.tup [.str "use",.ref p2,r])=J3;have s3:=nw1 h_p3 e_p3;have q3:=nw2 (K:=K) e_p3;have s23:=s2.trans s3;have s13:=s1.trans s23;have a1:=IsT.keep hs1 (e.trans s13).keepT;exact⟨e.trans s13,Zd5 (u:=.use) q3 (Zj4 (s3.sqt q2) (isT_nd.mpr ⟨p1,sv,sv,rfl,s23.sqt q1,a1,a1⟩) (IsE.keep ht (e.trans s13).keepT)) (IsE.keep h s13.keepT)⟩
 rintro σ3 H3 ⟨r,x5,rfl,e3,hr3⟩;walk_at "1";exact q _ _ (e1.trans e3) hr3
theorem Wg7 {k:Nat} {f_aq0:Addr} {fd_aq0:FuncData} (F_aq0:Fun K "_law_rest_of" "_law_rest_of" (top 37) f_aq0 fd_aq0) (m_range:mg "range"=none):Fk0 P w K mg base (k+1) f_aq0 fd_aq0 pq7 (Yt4 K):=by
 refine F_aq0.ok sc_aq0 (fun vs H Q E h=>?_) (fun cdv A outer s H vs Q E hr h=>?_)
 ·obtain⟨n,sv,bv,s,rfl,_⟩:=h
  rfl
 obtain⟨n,sv,bv,s,rfl,hn,hs,hb,q⟩:=h
 refine⟨_,(Za4 (Zd7 (ptcM (Zf2) (pvM 0) Za2)
  (Za7 (Zb2 (pvM 2)))
  Zb4)
 (Za4 (pst 3 sc_aq0.nd (Zb1 (Za0 Za8 (Za0 Za2 Za1))))
 (Za4 (pst 4 sc_aq0.nd Za2)
 (Za4 (Zm3 PassesOwn.never rfl (Zh3 rfl m_range (Za0 (pvM 0) Za1)) (Zc2 (i:=5) sc_aq0.nd rfl (Or.inl rfl))
  (Za7 (pst 4 sc_aq0.nd (Zb8 Zt0 (pvM 4) Za2))))
 (Za4 (Zm3 PassesOwn.never rfl (Zh3 rfl m_range (Za0 (pvM 4) Za1)) (Zc2 (i:=5) sc_aq0.nd rfl (Or.inl rfl))
  (Za7 (pst 3 sc_aq0.nd (Zb1 (Za0 Za8 (Za0 (Zb1 (Za0 Za8 (Za0 (Zb8 Zd3 (pxt (pvM 2) Za2) Za2) Za1))) (Za0 (pvM 3) Za1)))))))
 (Za7 (Zb2 (Zb1 (Za0 Za8 (Za0 (pvM 1) (Za0 (pvM 3) Za1))))))))))),?_⟩
 refine sqt (fun σ' H'=>σ'=[some (.int (n:Nat)),some sv,some bv,none,none,none]∧H'=H∧n≠0) ?_ ?_
 ·intro C hC
  walk_at "1"
  by_cases c:n=0
  ·rw[if_pos (by rw[c];rfl)]
   exact q _ _ (Same.refl _) (by unfold rst;rw[if_pos c];exact hb)
  ·rw[if_neg (by walk_at "o")]
   exact hC _ _ ⟨rfl,rfl,c⟩
 rintro σ1 H1 ⟨rfl,rfl,n0⟩;refine sqt (fun σ' H'=>∃ r,σ'=[some (.int (n:Nat)),some sv,some bv,some r,none,none]∧Same H1 H'∧IsE K H' r (uses 0)) ?_ ?_
 ·intro C hC
  walk_at "1";refine⟨by decide,?_⟩;intro p1 h_p1;generalize e_p1:upd H1 p1 (.tup [.str "at",.int 0])=J1;have s1:=nw1 h_p1 e_p1;have q1:=nw2 (K:=K) e_p1;exact hC _ _ ⟨_,rfl,s1,Ze8 (k:=0) q1⟩
 rintro σ2 H2 ⟨r,rfl,e2,h2⟩;refine sqt (fun σ' H'=>σ'=[some (.int (n:Nat)),some sv,some bv,some r,some (.int 1),none]∧H'=H2) ?_ ?_
 ·intro C hC
  walk_at "1";exact hC _ _ ⟨rfl,rfl⟩
 rintro σ3 H3 ⟨rfl,rfl⟩;refine sqt (fun σ' H'=>∃ x5,σ'=[some (.int (n:Nat)),some sv,some bv,some r,some (.int ((2 ^ n:Nat):Int)),x5]∧H'=H3) ?_ ?_
 ·intro C hC
  walk_at "2";refine⟨by walk_at "o",by walk_at "o",Zj5 (D:={ nx:=C,rt:=Q }) (n:=((n:Nat):Int).toNat) (lo:=0) (fun i σ' H'=>∃ x5,σ'=[some (.int (n:Nat)),some sv,some bv,some r,some (.int ((2 ^ i:Nat):Int)),x5]∧H'=H3) ⟨none,rfl,rfl⟩ (fun i σ' H' hi hp=>?_) (fun σ' H' ⟨x5,es,e⟩=>hC _ _ ⟨x5,es,e⟩)⟩;obtain⟨x5,rfl,rfl⟩:=hp;walk_at "1";have pi:2 ^ i≤1024:=Nat.pow_le_pow_right (n:=2) (by decide) (show i≤10 by walk_at "o");rw[show ((2 ^ i:Nat):Int)*2=((2 ^ (i+1):Nat):Int) by rw[Nat.pow_succ];walk_at "o"];refine⟨?_,rfl⟩;exact .inr ⟨by decide,by decide⟩
 rintro σ4 H4 ⟨x5,rfl,rfl⟩;have hp:2 ^ n≤1024:=Nat.pow_le_pow_right (n:=2) (by decide) hn;obtain⟨pb,rfl,hpb⟩:=isE_atV.mp hb;refine sqt (fun σ' H'=>∃ r' x5,σ'=[some (.int (n:Nat)),some sv,some (.ref pb),some r',some (.int ((2 ^ n:Nat):Int)),x5]∧Same H4 H'∧IsE K H' r' (uses (2 ^ n))) ?_ ?_
 ·intro C hC
  walk_at "2"
  have hp':((2 ^ n:Nat):Int)≤1024:=by exact_mod_cast hp
  have hp0:(0:Int)≤((2 ^ n:Nat):Int):=Int.natCast_nonneg _;generalize hN:((2 ^ n:Nat):Int)=N2 at hp' hp0 ⊢;refine⟨by walk_at "o",by walk_at "o",?_⟩;subst hN;refine Zj5 (D:={ nx:=C,rt:=Q }) (n:=((2 ^ n:Nat):Int).toNat) (lo:=0) (fun i σ' H'=>∃ r' x5,σ'=[some (.int (n:Nat)),some sv,some (.ref pb),some r',some (.int ((2 ^ n:Nat):Int)),x5]∧Same H4 H'∧IsE K H' r' (uses i)) ⟨r,x5,rfl,Same.refl _,h2⟩ (fun i σ' H' hi hp=>?_) (fun σ' H' ⟨r',x5,es,e,h⟩=>hC _ _ ⟨r',x5,es,e,h⟩);obtain⟨r',x5,rfl,e,h⟩:=hp;walk_at "1";refine⟨_,(e2.trans e).sqt hpb,_,rfl,_,rfl,by decide,?_⟩;intro p1 h_p1;generalize e_p1:upd H' p1 (.tup [.str "at",.int (((0:Nat):Int)+1)])=J1;have s1:=nw1 h_p1 e_p1;have q1:=nw2 (K:=K) e_p1;refine⟨by decide,?_⟩;intro p2 h_p2;generalize e_p2:upd J1 p2 (.tup [.str "use",.ref p1,r'])=J2;have s2:=nw1 h_p2 e_p2;have q2:=nw2 (K:=K) e_p2;exact⟨e.trans (s1.trans s2),Zd5 (u:=.use) q2 (Ze8 (k:=1) (s2.sqt q1)) (IsE.keep h (s1.trans s2).keepT)⟩
 rintro σ5 H5 ⟨r',x5',rfl,e5,h5⟩;walk_at "1";refine⟨by decide,?_⟩;intro p1 h_p1;generalize e_p1:upd H5 p1 (.tup [.str "fun",sv,r'])=J1;have s1:=nw1 h_p1 e_p1;have q1:=nw2 (K:=K) e_p1;have eA:=e2.trans (e5.trans s1);exact q _ _ eA (by unfold rst;rw[if_neg n0];exact Zj4 q1 (IsT.keep hs eA.keepT) (IsE.keep h5 s1.keepT))
theorem sc_ah0:FnScope ["_law_script","_law_given_here","_law_form","_law_term","_law_rest","_law_shape","_law_other","_law_more","_law_here","_law_many"] ["_law_script","_law_given_here"] (Za3 (top 43)):=scm (by decide +kernel)
theorem Wh4 {k:Nat} {f_ah0:Addr} {fd_ah0:FuncData} (F_ah0:Fun K "_law_drawn" "_law_drawn" (top 43) f_ah0 fd_ah0) (C__law_cell:Cl P w K mg base k "_law_cell" pq9 (Zx5 K)) (C__law_one:Cl P w K mg base k "_law_one" ["_law_script","_law_start","_law_given_here"] (Xd3 K)) (C__law_doubled:Cl P w K mg base k "_law_doubled" pq7 (Zx3 K)) (C__law_rest_of:Cl P w K mg base k "_law_rest_of" pq7 (Yt4 K)):Fk0 P w K mg base (k+1) f_ah0 fd_ah0 ["_law_script","_law_given_here"] (Yi6 K):=by
 refine F_ah0.ok sc_ah0 (fun vs H Q E h=>?_) (fun cdv A outer s H vs Q E hr h=>?_)
 ·obtain⟨sa,ga,ns,ws,gs,ts,rfl,_⟩:=h
  rfl
 obtain⟨sa,ga,ns,ws,gs,ts,rfl,hS,h63,G,q⟩:=h;have cn:=Yr7 ns
 refine⟨_,(Za4 (pst 2 sc_ah0.nd (Zb8 Zd0 (Zd1 C__law_cell hr (Za0 (pvM 0) (Za0 Za2 Za1))) Za2))
 (Za4 (Yb7 (Zd1 C__law_one hr (Za0 (pvM 0) (Za0 Za2 (Za0 (pvM 1) Za1)))) (Xe9 rfl (Zc6 (Zc2 (i:=3) sc_ah0.nd rfl (Or.inl rfl)) (Zc6 (Zc2 (i:=4) sc_ah0.nd rfl (Or.inl rfl)) (Zc6 (Zc2 (i:=5) sc_ah0.nd rfl (Or.inl rfl)) Zi6)))))
 (Za4 (Zd7 (ptcM (Zf2) (pvM 2) Za2)
  (Za4 (Yb7 (Zd1 C__law_one hr (Za0 (pvM 0) (Za0 Za2 (Za0 (pvM 1) Za1)))) (Xe9 rfl (Zc6 (Zc2 (i:=6) sc_ah0.nd rfl (Or.inl rfl)) (Zc6 (Zc2 (i:=7) sc_ah0.nd rfl (Or.inl rfl)) (Zc6 (Zc2 (i:=8) sc_ah0.nd rfl (Or.inl rfl)) Zi6)))))
 (Za7 (Zb2 (Zf9 (Za0 (Zb1 (Za0 Za8 (Za0 (pvM 3) (Za0 (pvM 6) Za1)))) (Za0 (Zb1 (Za0 Za8 (Za0 (pvM 4) (Za0 (pvM 7) Za1)))) Za1))))))
  Zb4)
 (Za4 (Zd7 (ptcM (Zf2) (pvM 2) Za2)
  (Za7 (Zb2 (Zf9 (Za0 (Zb1 (Za0 Za8 (Za0 (Zb1 (Za0 Za8 (Za0 (pvM 5) (Za0 (Zb1 (Za0 Za8 (Za0 (Zb1 (Za0 Za8 (Za0 Za2 Za1))) (Za0 (Zb1 (Za0 Za8 (Za0 Za2 Za1))) Za1)))) Za1)))) (Za0 (pvM 3) Za1)))) (Za0 (Zb1 (Za0 Za8 (Za0 (pvM 4) (Za0 (pvM 4) Za1)))) Za1)))))
  Zb4)
 (Za4 (Zd7 (ptcM (Zf2) (pvM 2) Za2)
  (Za4 (pst 9 sc_ah0.nd (Zb8 Zd0 (Zb8 Ze6 (Zd1 C__law_cell hr (Za0 (pvM 0) (Za0 Za2 Za1))) Za2) Za2))
 (Za7 (Zb2 (Zf9 (Za0 (Zd1 C__law_doubled hr (Za0 (pvM 9) (Za0 (pxl (pvM 1) Za2) (Za0 (Zb1 (Za0 Za8 (Za0 Za2 Za1))) Za1)))) (Za0 (Zd1 C__law_rest_of hr (Za0 (pvM 9) (Za0 (pxl (pvM 1) Za2) (Za0 (Zb1 (Za0 Za8 (Za0 Za2 Za1))) Za1)))) Za1))))))
  Zb4)
 (Za7 (Zb2 (Zf9 (Za0 (pvM 3) (Za0 (pvM 4) Za1)))))))))),?_⟩
 refine sqt (fun σ' H'=>∃ f:Nat,σ'=[some (.ref sa),some (.ref ga),some (.int (f:Nat)),none,none,none,none,none,none,none]∧H'=H) ?_ ?_
 ·intro C hC
  walk_at "1";refine⟨_,ns,_,rfl,hS,h63,by decide,by decide,_,rfl,by decide,?_⟩;have c0:=Int.emod_nonneg (cellOf ns 6) (show (4:Int)≠0 by decide);generalize cellOf ns 6 % 4=f at c0 ⊢;obtain⟨f,rfl⟩:=Int.eq_ofNat_of_zero_le c0;exact hC _ _ ⟨f,rfl,rfl⟩
 rintro σ1 H1 ⟨f,rfl,rfl⟩;refine sqt (fun σ' H'=>∃ tv rv sv t j m st,σ'=[some (.ref sa),some (.ref ga),some (.int (f:Nat)),some tv,some rv,some sv,none,none,none,none]∧Same H1 H'∧IsE K H' tv t∧t.fine ws∧m≤12∧Wn j m t∧IsE K H' rv (.at j)∧IsT K H' sv st∧okV ws st) ?_ ?_
 ·intro C hC
  walk_at "1";exact⟨sa,ga,ns,7,ws,gs,ts,rfl,hS,h63,by decide,G,fun l H' tv bv sv t k m s e hl h1 h2 h3 h4 h5 h6 h7=>⟨l,rfl,_,SqL.of hl,rfl,_,_,rfl,_,_,rfl,_,_,rfl,rfl,hC _ _ ⟨tv,bv,sv,t,k,m,s,rfl,e,h1,h2,h3,h4,h5,h6,h7⟩⟩⟩
 rintro σ2 H2 ⟨tv,rv,sv,t,j,m,st,rfl,e2,ht,tf,hm,wn,hrv,hsv,sok⟩;have G2:=G.keep e2;have hS2:=e2.seq hS;refine sqt (fun σ' H'=>σ'=[some (.ref sa),some (.ref ga),some (.int (f:Nat)),some tv,some rv,some sv,none,none,none,none]∧H'=H2) ?_ ?_
 ·intro C hC
  walk_at "3";refine ite2 (fun _=>?_) (fun _=>hC _ _ ⟨rfl,rfl⟩);walk_at "1";refine⟨sa,ga,ns,9,ws,gs,ts,rfl,hS2,h63,by decide,G2,fun l H3 tv3 bv3 sv3 t3 k3 m3 s3 e3 hl h1 h2 h3 h4 h5 h6 h7=>⟨l,rfl,_,SqL.of hl,rfl,_,_,rfl,_,_,rfl,_,_,rfl,rfl,by decide,?_⟩⟩;intro p1 h_p1;generalize e_p1:upd H3 p1 (.tup [.str "pair",tv,tv3])=J1;have s1:=nw1 h_p1 e_p1;have q1:=nw2 (K:=K) e_p1;refine⟨by decide,?_⟩;intro p2 h_p2;generalize e_p2:upd J1 p2 (.tup [.str "pair",rv,bv3])=J2;have s2:=nw1 h_p2 e_p2;have q2:=nw2 (K:=K) e_p2;refine⟨by decide,fun l2 hl2=>?_⟩;have sl:=Za6 hl2 (.lst [.ref p1,.ref p2]);have s2l:=s2.trans sl;have s1l:=s1.trans s2l;have e3l:=e3.trans s1l;exact q l2 _ _ _ _ _ (e2.trans e3l) Za5 (Zd5 (u:=.pair) (s2l.sqt q1) (IsE.keep ht e3l.keepT) (IsE.keep h1 s1l.keepT)) (Zd5 (u:=.pair) (sl.sqt q2) (IsE.keep hrv e3l.keepT) (IsE.keep h5 s1l.keepT)) ⟨tf,h2⟩ ⟨trivial,trivial⟩ (by show 1+max 1 1≤60;decide) (Yz9 hm h3 wn h4)
 rintro σ3 H3 ⟨rfl,rfl⟩;refine sqt (fun σ' H'=>σ'=[some (.ref sa),some (.ref ga),some (.int (f:Nat)),some tv,some rv,some sv,none,none,none,none]∧H'=H3) ?_ ?_
 ·intro C hC
  walk_at "3";refine ite2 (fun _=>?_) (fun _=>hC _ _ ⟨rfl,rfl⟩);walk_at "1";refine⟨by decide,?_⟩;intro p1 h_p1;generalize e_p1:upd H3 p1 (.tup [.str "at",.int 0])=J1;have s1:=nw1 h_p1 e_p1;have q1:=nw2 (K:=K) e_p1;refine⟨by decide,?_⟩;intro p2 h_p2;generalize e_p2:upd J1 p2 (.tup [.str "at",.int 0])=J2;have s2:=nw1 h_p2 e_p2;have q2:=nw2 (K:=K) e_p2;refine⟨by decide,?_⟩;intro p3 h_p3;generalize e_p3:upd J2 p3 (.tup [.str "pair",.ref p1,.ref p2])=J3;have s3:=nw1 h_p3 e_p3;have q3:=nw2 (K:=K) e_p3;refine⟨by decide,?_⟩;intro p4 h_p4;generalize e_p4:upd J3 p4 (.tup [.str "fun",sv,.ref p3])=J4;have s4:=nw1 h_p4 e_p4;have q4:=nw2 (K:=K) e_p4;refine⟨by decide,?_⟩;intro p5 h_p5;generalize e_p5:upd J4 p5 (.tup [.str "use",.ref p4,tv])=J5;have s5:=nw1 h_p5 e_p5;have q5:=nw2 (K:=K) e_p5;refine⟨by decide,?_⟩;intro p6 h_p6;generalize e_p6:upd J5 p6 (.tup [.str "pair",rv,rv])=J6;have s6:=nw1 h_p6 e_p6;have q6:=nw2 (K:=K) e_p6;refine⟨by decide,fun l2 hl2=>?_⟩;have sl:=Za6 hl2 (.lst [.ref p5,.ref p6]);have s6l:=s6.trans sl;have s5l:=s5.trans s6l;have s4l:=s4.trans s5l;have s3l:=s3.trans s4l;have s2l:=s2.trans s3l;have s1l:=s1.trans s2l;exact q l2 _ _ _ _ _ (e2.trans s1l) Za5 (Zd5 (u:=.use) (s6l.sqt q5) (Zj4 (s5l.sqt q4) (IsT.keep hsv s1l.keepT) (Zd5 (u:=.pair) (s4l.sqt q3) (Ze8 (k:=0) (s2l.sqt q1)) (Ze8 (k:=0) (s3l.sqt q2)))) (IsE.keep ht s1l.keepT)) (Zd5 (u:=.pair) (sl.sqt q6) (IsE.keep hrv s1l.keepT) (IsE.keep hrv s1l.keepT)) ⟨⟨sok.w,trivial,trivial⟩,tf⟩ ⟨trivial,trivial⟩ (by show 1+max 1 1≤60;decide) (Yr6 hm wn)
 rintro σ3 H3 ⟨rfl,rfl⟩;refine sqt (fun σ' H'=>σ'=[some (.ref sa),some (.ref ga),some (.int (f:Nat)),some tv,some rv,some sv,none,none,none,none]∧H'=H3) ?_ ?_
 ·intro C hC
  walk_at "3";refine ite2 (fun _=>?_) (fun _=>hC _ _ ⟨rfl,rfl⟩);have c0:=Int.emod_nonneg (cellOf ns 6 / 4) (show (5:Int)≠0 by decide);have c1:=Int.emod_lt_of_pos (cellOf ns 6 / 4) (show (0:Int) < 5 by decide);obtain⟨n,en⟩:=Int.eq_ofNat_of_zero_le c0;obtain⟨gv,s0,hat,hg0,gok⟩:=G2.at (k:=0) G2.n;refine sqt (fun σ' H'=>σ'=[some (.ref sa),some (.ref ga),some (.int (f:Nat)),some tv,some rv,some sv,none,none,none,some (.int (n:Nat))]∧H'=H3) ?_ ?_
  ·intro C' hC'
   walk_at "1";refine⟨_,ns,_,rfl,hS2,h63,by decide,by decide,_,rfl,⟨by decide,by decide⟩,by decide,?_⟩;rw[en];exact hC' _ _ ⟨rfl,rfl⟩
  rintro σ4 H4 ⟨rfl,rfl⟩;walk_at "1";refine⟨_,SqL.of G2.g,_,Zb9 (j:=0) hat,by decide,?_⟩;intro p1 h_p1;generalize e_p1:upd H4 p1 (.tup [.str "at",.int 0])=J1;have s1:=nw1 h_p1 e_p1;have q1:=nw2 (K:=K) e_p1;refine⟨n,gv,.ref p1,s0,rfl,by walk_at "o",IsT.keep hg0 s1.keepT,Ze8 (k:=0) q1,fun r2 H5 e5 hr2=>⟨_,SqL.of ((s1.trans e5) _ _ G2.g),_,Zb9 (j:=0) hat,by decide,?_⟩⟩;intro p2 h_p2;generalize e_p2:upd H5 p2 (.tup [.str "at",.int 0])=J2;have s2:=nw1 h_p2 e_p2;have q2:=nw2 (K:=K) e_p2;refine⟨n,gv,.ref p2,s0,rfl,by walk_at "o",IsT.keep hg0 ((s1.trans e5).trans s2).keepT,Ze8 (k:=0) q2,fun r3 H6 e6 hr3=>⟨by decide,fun l2 hl2=>?_⟩⟩;have sl:=Za6 hl2 (.lst [r2,r3]);have s6l:=e6.trans sl;have s2l:=s2.trans s6l
  have n5:n < 5:=by walk_at "o"
  exact q l2 _ _ _ _ _ (e2.trans (s1.trans (e5.trans s2l))) Za5 (IsE.keep hr2 s2l.keepT) (IsE.keep hr3 sl.keepT) (Yw6 gok n) (Xn9 gok.w n) (Xe1 n n5) (Yx8 n5)
 rintro σ3 H3 ⟨rfl,rfl⟩;walk_at "1";refine⟨by decide,fun l2 hl2=>?_⟩;have sl:=Za6 hl2 (.lst [tv,rv]);exact q l2 _ _ _ _ _ (e2.trans sl) Za5 (IsE.keep ht sl.keepT) (IsE.keep hrv sl.keepT) tf trivial (by show 1≤60;decide) (Xl2 hm wn)
theorem Wg4 {k:Nat} {f_at0:Addr} {fd_at0:FuncData} (F_at0:Fun K "_law_words" "_law_words" (top 30) f_at0 fd_at0) (m_range:mg "range"=none):Fk0 P w K mg base (k+1) f_at0 fd_at0 ["_law_cell_here","_law_many"] Yt0:=by
 refine F_at0.ok sc_at0 (fun vs H Q E h=>?_) (fun cdv A outer s H vs Q E hr h=>?_)
 ·obtain⟨c,m,rfl,_⟩:=h
  rfl
 obtain⟨c,m,rfl,hc0,h0,h1,q⟩:=h
 refine⟨_,(Za4 (pst 2 sc_at0.nd (Zf9 (Za0 Za8 (Za0 Za8 (Za0 Za8 (Za0 Za8 (Za0 Za8 (Za0 Za8 Za1))))))))
 (Za4 (Zd7 (ptcM (Zf2) (Zb8 Zd0 (pvM 0) Za2) Za2)
  (Za7 (Ye7 (i:=2) sc_at0.nd rfl (Or.inl rfl) (blk0 (N':=["_law_k"]) (by decide +kernel) (by decide +kernel) rfl (by decide +kernel)) rfl (Zh3 rfl m_range (Za0 Za2 Za1)) (fun _ _ _ _=>(Zc2 (i:=0) (show (["_law_k"]:List Str).Nodup from by decide +kernel) rfl (Or.inl rfl))) (fun _ _ _ _=>(Zb8 Yp2 Za8 (Zb8 Zd3 Za2 (pvM 0)))) rfl))
  Zb4)
 (Za4 (Zd7 (ptcM (Zf2) (Zb8 Zd0 (pvM 0) Za2) Za2)
  (Za4 (Zu1 (i:=3) sc_at0.nd rfl (Or.inr rfl) (Zb8 Zd3 Za2 (Zb8 Zd0 (Zb8 Ze6 (pvM 0) Za2) Za2)))
 (Za4 (Zu1 (i:=4) sc_at0.nd rfl (Or.inr rfl) (Zb8 Zd0 (Zb8 Ze6 (pvM 0) Za2) (pvM 3)))
 (Za7 (Ye7 (i:=2) sc_at0.nd rfl (Or.inl rfl) (blkC (N':=["_law_k","_law_at","_law_size"]) (nt:=1) (ci:=[4,3]) ["_law_cell_here","_law_many","_law_some","_law_size","_law_at","_law_start"] (Za3 (top 30)) rfl rfl (by decide +kernel) rfl (by decide +kernel) (by decide +kernel) rfl (by decide +kernel)) rfl (Zh3 rfl m_range (Za0 Za2 Za1)) (fun _ _ _ _=>(Zc2 (i:=0) (show (["_law_k","_law_at","_law_size"]:List Str).Nodup from by decide +kernel) rfl (Or.inl rfl))) (fun _ _ _ _=>(Zb8 Yb9 (Zb8 Yb9 (Zb8 Yp2 Za8 (pvM 1)) (Xw8 Wi8 Za8 (pvM 0) (fun _ _=>rfl))) (Zb8 Yp2 Za8 (Zb8 Zo5 (Zb8 Zo5 (pvM 2) Za2) (pvM 1))))) rfl))))
  Zb4)
 (Za4 (Zd7 (ptcM (Zf2) (Zb8 Zd0 (pvM 0) Za2) Za2)
  (Za7 (pst 2 sc_at0.nd (Zf9 (Za0 Za8 (Za0 Za8 (Za0 Za8 (Za0 Za8 (Za0 Za8 (Za0 Za8 Za1)))))))))
  Zb4)
 (Za4 (pst 5 sc_at0.nd (Zb8 Zd0 (Zb8 Ze6 (pvM 0) Za2) Za2))
 (Za7 (Zb2 (Zv5 Yn7 (Zb8 Xs6 (Zv5 Yn7 (pvM 2) (Ye9 (pvM 5)) Yf0) (Zv5 Yn7 (pvM 2) Yf0 (Ye9 (pvM 5)))) Yf0 (Ye9 (pvM 1)))))))))),?_⟩
 have lit:∀ (ws:List Str) (H1:Hp) (p:Addr),Same H H1→H1 p=none→ws.length=6→(ws.all Xu4)=true→Six H (upd H1 p (.lst (ws.map V.str))) p ws:=fun ws H1 p e hp hl hw =>
  ⟨e.trans (Za6 hp _),e.free hp,Za5,hl,fun x hx=>Xu3 (List.all_eq_true.mp hw x hx)⟩
 refine sqt (fun σ' H'=>∃ p ws x3 x4,σ'=[some (.int c),some (.int m),some (.ref p),x3,x4,none]∧Six H H' p ws) ?_ ?_
 ·intro C hC
  walk_at "1";exact⟨by decide,fun p hp=>hC _ _ ⟨p,["a","b","c","d","e","f"],none,none,rfl,lit ["a","b","c","d","e","f"] H p (Same.refl H) hp rfl (by decide +kernel)⟩⟩
 rintro σ1 H1 ⟨p1,w1,x3,x4,rfl,S1⟩;refine sqt (fun σ' H'=>∃ p ws x3 x4,σ'=[some (.int c),some (.int m),some (.ref p),x3,x4,none]∧Six H H' p ws) ?_ ?_
 ·intro C hC
  walk_at "1";refine⟨by decide,ite2 (fun _=>?_) (fun _=>hC _ _ ⟨p1,w1,x3,x4,rfl,S1⟩)⟩;unfold tLC;walk_at "1";refine⟨by decide,by decide,fun acc hacc=>?_⟩;refine Yk2 (n:=6) (lo:=0) (fun i ys H2=>H2=upd H1 acc (.lst ys)∧∃ ws,ys=ws.map V.str∧ws.length=i∧∀ x∈ws,Word x) ⟨rfl,[],rfl,rfl,by simp⟩ (fun i ys H2 hi ⟨e,ws,e2,e3,_⟩=>?_) (fun i ys H2 hi ⟨e,ws,e2,e3,e4⟩ C' hC'=>?_) (fun ys H2 ⟨e,ws,e2,e3,e4⟩=>?_)
  ·subst e;subst e2
   refine⟨Za5,?_⟩;rw[List.length_map,e3];exact Zf1 (by walk_at "o")
  ·subst e;subst e2
   walk_at "1";refine⟨Yd3,by decide,by walk_at "o",by walk_at "o",?_⟩;refine hC' _ _ Za5 ⟨by rw[Xb1],ws++[Txt.mul "k" (1+(0+(i:Int)))],by rw[List.map_append];rfl,by rw[List.length_append,e3];rfl,fun x hx=>?_⟩;rcases List.mem_append.mp hx with z | z
   ·exact e4 x z
   ·have z':x=Txt.mul "k" (1+(0+(i:Int))):=by simpa using z
    rw[z'];exact Xm8 (c:=107) (by decide) (by decide) (by walk_at "o") (by walk_at "o")
  ·subst e;subst e2
   exact hC _ _ ⟨acc,ws,x3,x4,rfl,S1.1.trans (Za6 hacc _),S1.1.free hacc,Za5,e3,e4⟩
 rintro σ2 H2 ⟨p2,w2,x3,x4,rfl,S2⟩;refine sqt (fun σ' H'=>∃ p ws x3 x4,σ'=[some (.int c),some (.int m),some (.ref p),x3,x4,none]∧Six H H' p ws) ?_ ?_
 ·intro C hC
  walk_at "1";refine⟨by decide,ite2 (fun _=>?_) (fun _=>hC _ _ ⟨p2,w2,x3,x4,rfl,S2⟩)⟩;refine⟨⟨by decide,by decide⟩,by decide,⟨by decide,by decide⟩,by walk_at "o",?_⟩;unfold tLC;walk_at "1";refine⟨by decide,by decide,fun acc hacc=>?_⟩;have a0:=Int.emod_nonneg (c / 32) (show 1+c / 4 % 8≠0 by walk_at "o");have a1:=Int.emod_lt_of_pos (c / 32) (show 0 < 1+c / 4 % 8 by walk_at "o");generalize ea:c / 32 % (1+c / 4 % 8)=at' at a0 a1 ⊢;generalize es:1+c / 4 % 8=size at a1 ⊢
  have hs8:size≤8:=by walk_at "o"
  refine Yk2 (n:=6) (lo:=0) (fun i ys H3=>H3=upd H2 acc (.lst ys)∧∃ ws,ys=ws.map V.str∧ws.length=i∧∀ x∈ws,Word x) ⟨rfl,[],rfl,rfl,by simp⟩ (fun i ys H3 hi ⟨e,ws,e2,e3,_⟩=>?_) (fun i ys H3 hi ⟨e,ws,e2,e3,e4⟩ C' hC'=>?_) (fun ys H3 ⟨e,ws,e2,e3,e4⟩=>?_)
  ·subst e;subst e2
   refine⟨Za5,?_⟩;rw[List.length_map,e3];exact Zf1 (by walk_at "o")
  ·subst e;subst e2
   walk_at "1"
   have hcd:∃ d:Nat,atI ("aghmxz":Str).cps.toList (0+(i:Int))=some d∧97≤d∧d≤122:=by
    have:i=0∨i=1∨i=2∨i=3∨i=4∨i=5:=by walk_at "o"
    rcases this with rfl | rfl | rfl | rfl | rfl | rfl
    ·exact⟨97,rfl,by decide,by decide⟩
    ·exact⟨103,rfl,by decide,by decide⟩
    ·exact⟨104,rfl,by decide,by decide⟩
    ·exact⟨109,rfl,by decide,by decide⟩
    ·exact⟨120,rfl,by decide,by decide⟩
    ·exact⟨122,rfl,by decide,by decide⟩
   obtain⟨d,hd,d1,d2⟩:=hcd
   have l1:(Txt.mul "m" at').length≤8:=by rw[show ("m":Str)=⟨#[109]⟩ from rfl,Xg3];walk_at "o"
   have l2:(Txt.mul "m" (size - 1 - at')).length≤8:=by rw[show ("m":Str)=⟨#[109]⟩ from rfl,Xg3];walk_at "o"
   have l3:(⟨#[d]⟩:Str).length=1:=rfl
   have l4:(Txt.mul "m" at'++(⟨#[d]⟩:Str)).length≤9:=by rw[strLen_append];walk_at "o"
   refine⟨Yd3,by decide,by walk_at "o",by walk_at "o",by decide,d,hd,?_,by decide,by walk_at "o",by walk_at "o",?_,?_⟩
   ·exact Nat.le_of_lt (Zf1 (by walk_at "o"))
   ·exact Nat.le_of_lt (Zf1 (by walk_at "o"))
   refine hC' _ _ Za5 ⟨by rw[Xb1],ws++[Txt.mul "m" at'++(⟨#[d]⟩:Str)++Txt.mul "m" (size - 1 - at')],by rw[List.map_append];rfl,by rw[List.length_append,e3];rfl,fun x hx=>?_⟩;rcases List.mem_append.mp hx with z | z
   ·exact e4 x z
   ·have z':x=Txt.mul "m" at'++(⟨#[d]⟩:Str)++Txt.mul "m" (size - 1 - at'):=by simpa using z
    rw[z'];exact Xm9 (c:=109) (by decide) (by decide) d1 d2 (by walk_at "o") (by walk_at "o") (by walk_at "o")
  ·subst e;subst e2
   exact hC _ _ ⟨acc,ws,_,_,rfl,S2.1.trans (Za6 hacc _),S2.1.free hacc,Za5,e3,e4⟩
 rintro σ3 H3 ⟨p3,w3,x3,x4,rfl,S3⟩;refine sqt (fun σ' H'=>∃ p ws x3 x4,σ'=[some (.int c),some (.int m),some (.ref p),x3,x4,none]∧Six H H' p ws) ?_ ?_
 ·intro C hC
  walk_at "1";refine⟨by decide,ite2 (fun _=>?_) (fun _=>hC _ _ ⟨p3,w3,x3,x4,rfl,S3⟩)⟩;exact⟨by decide,fun p hp=>hC _ _ ⟨p,["low","one","both","then","letter","lows"],_,_,rfl,lit ["low","one","both","then","letter","lows"] H3 p S3.1 hp rfl (by decide +kernel)⟩⟩
 rintro σ4 H4 ⟨p4,w4,x3,x4,rfl,S4⟩;walk_at "1";have b0:=Int.emod_nonneg (c / 256) (show (6:Int)≠0 by decide);have b1:=Int.emod_lt_of_pos (c / 256) (show (0:Int) < 6 by decide);generalize c / 256 % 6=st at b0 b1 ⊢;obtain⟨e4,f4,h4,l4,o4⟩:=S4;refine⟨⟨by decide,by decide⟩,by decide,w4.map V.str,.inl (.inl h4),fun q1 hq1=>⟨w4.map V.str,?_,fun q2 hq2=>?_⟩⟩
 ·exact Wb9 (.inl (.inl h4)) (Za9 h4 hq1)
 have n21:q2≠q1:=fun z=>by subst z;rw[Za5] at hq2;cases hq2
 refine⟨cutV (w4.map V.str) (some st) none,?_,cutV (w4.map V.str) none (some st),Za5,?_,fun q3 hq3=>⟨_,.inl (.inl Za5),fun q4 hq4=>?_⟩⟩
 ·rw[Zb0 (Ne.symm n21),Za5]
 ·have z1:=Zl2 (w4.map V.str) (some st) none
  have z2:=Zl2 (w4.map V.str) none (some st);rw[List.length_map] at z1 z2;exact Nat.le_of_lt (Zf1 (by walk_at "o"))
 rw[Zz7,Zz7,← List.map_append] at hq4 ⊢;rw[Zz7];have e3':Same H4 (upd (upd (upd H4 q1 (.lst (cutV (w4.map V.str) (some st) none))) q2 (.lst (cutV (w4.map V.str) none (some st)))) q3 (.lst (cutV (w4.map V.str) (some st) none++cutV (w4.map V.str) none (some st)))):=((Za6 hq1 _).trans (Za6 hq2 _)).trans (Za6 hq3 _);rw[Zz7,Zz7,← List.map_append] at e3';have eA:=e4.trans e3'
 have hst:st=((st.toNat:Nat):Int):=by walk_at "o"
 have hm:m=((m.toNat:Nat):Int):=by walk_at "o"
 refine q _ _ _ (eA.trans (Za6 hq4 _)) (eA.free hq4) Za5 ⟨?_,?_,fun x hx=>?_⟩
 ·rw[hst,hm]
  simp only[List.length_take,List.length_drop,List.length_append,HT.sIx_nat,HT.sIx_none,l4];walk_at "o"
 ·rw[hst,hm]
  simp only[List.length_take,List.length_drop,List.length_append,HT.sIx_nat,HT.sIx_none,l4];walk_at "o"
 ·have hx1:=List.mem_of_mem_drop (List.mem_of_mem_take hx)
  rcases List.mem_append.mp hx1 with z | z
  ·exact o4 x (List.mem_of_mem_drop (List.mem_of_mem_take z))
  ·exact o4 x (List.mem_of_mem_drop (List.mem_of_mem_take z))
theorem sc_ai0:FnScope ["_law_script","_law_words_here","_law_given_here","_law_k","_law_cell_here"] ["_law_script","_law_words_here"] (Za3 (top 33)):=scm (by decide +kernel)
theorem Wh3 {k:Nat} {f_ai0:Addr} {fd_ai0:FuncData} (F_ai0:Fun K "_law_given" "_law_given" (top 33) f_ai0 fd_ai0) (C__law_cell:Cl P w K mg base k "_law_cell" pq9 (Zx5 K)) (C__law_mix:Cl P w K mg base k "_law_mix" pq0 (Zp6)) (C__law_statement:Cl P w K mg base k "_law_statement" pq2 (Zp5 K 12)) (m_range:mg "range"=none) (m_max:mg "max"=none) (m_len:mg "len"=none):Fk0 P w K mg base (k+1) f_ai0 fd_ai0 ["_law_script","_law_words_here"] (Yb4 K):=by
 refine F_ai0.ok sc_ai0 (fun vs H Q E h=>?_) (fun cdv A outer s H vs Q E hr h=>?_)
 ·obtain⟨sa,wa,ns,ws,rfl,_⟩:=h
  rfl
 obtain⟨sa,wa,ns,ws,rfl,hS,h63,hW,hw,q⟩:=h
 refine⟨_,(Za4 (pst 2 sc_ai0.nd (Zf9 Za1))
 (Za4 (Zm3 PassesOwn.never rfl (Zh3 rfl m_range (Za0 (Zb8 Zd0 (Zb8 Ze6 (Zd1 C__law_cell hr (Za0 (pvM 0) (Za0 Za2 Za1))) Za2) Za2) Za1)) (Zc2 (i:=3) sc_ai0.nd rfl (Or.inl rfl))
  (Za4 (pst 4 sc_ai0.nd (Zd1 C__law_mix hr (Za0 (Zd1 C__law_cell hr (Za0 (pvM 0) (Za0 (Zb8 Zd3 Za2 (Zb8 Zd0 (pvM 3) (Zd2 (Ya1 rfl) (by exact rfl) m_max boot_max (Za0 Za2 (Za0 (Zd2 Zc3 (by exact rfl) m_len Zf0 (Za0 (pvM 0) Za1)) Za1))))) Za1))) (Za0 (Zb8 Zd3 (pvM 3) Za2) Za1))))
 (Za7 (Zd7 (ptcM (Zf2) (Zb8 Zd0 (pvM 4) Za2) Za2)
  (Za7 (Zx9 (Xf3 F.plainAttrs_list F.slot_list_append F.type_list_append Zj3 (pvM 2) (Za0 (Zb1 (Za0 Za8 Za1)) Za1))))
  (Za7 (Zx9 (Xf3 F.plainAttrs_list F.slot_list_append F.type_list_append Zj3 (pvM 2) (Za0 (Zd1 C__law_statement hr (Za0 (Zb8 Ze6 (pvM 4) Za2) (Za0 (Zb8 Zd3 Za2 (Zb8 Zd0 (pvM 4) Za2)) (Za0 (pvM 1) Za1)))) Za1))))))))
 (Za7 (Zb2 (pvM 2))))),?_⟩
 refine sqt (fun σ' H'=>∃ l,σ'=[some (.ref sa),some (.ref wa),some (.ref l),none,none]∧Same H H'∧H l=none∧H' l=some (.lst [])) ?_ ?_
 ·intro C hC
  walk_at "1";exact⟨by decide,fun l hl=>hC _ _ ⟨l,rfl,Za6 hl _,hl,Za5⟩⟩
 rintro σ1 H1 ⟨l,rfl,e1,f1,h1⟩;refine sqt (fun σ' H'=>∃ x3 x4 gs ts,σ'=[some (.ref sa),some (.ref wa),some (.ref l),x3,x4]∧Same H H'∧H' l=some (.lst gs)∧Paired (IsT K H') gs ts∧(∀ s∈ts,okV ws s)∧ts.length≤4) ?_ ?_
 ·intro C hC
  walk_at "2";have b0:=Int.emod_nonneg (cellOf ns 1 / 5) (show (5:Int)≠0 by decide);have b1:=Int.emod_lt_of_pos (cellOf ns 1 / 5) (show (0:Int) < 5 by decide);refine⟨_,ns,_,rfl,e1.seq hS,h63,by decide,by decide,_,rfl,⟨by decide,by decide⟩,by decide,by walk_at "o",by walk_at "o",?_⟩;generalize cellOf ns 1 / 5 % 5=cnt at b0 b1 ⊢;refine Zj5 (D:={ nx:=C,rt:=Q }) (n:=cnt.toNat) (lo:=0) (fun i σ' H'=>∃ x3 x4 gs ts,σ'=[some (.ref sa),some (.ref wa),some (.ref l),x3,x4]∧Same H H'∧H' l=some (.lst gs)∧Paired (IsT K H') gs ts∧(∀ s∈ts,okV ws s)∧ts.length=i) ⟨none,none,[],[],rfl,e1,h1,.nil,fun s hs=>absurd hs (by simp),rfl⟩ (fun i σ' H' hi hp=>?_) (fun σ' H' ⟨x3,x4,gs,ts,e0,e,h,hp,ho,hl⟩=>hC _ _ ⟨x3,x4,gs,ts,e0,e,h,hp,ho,by walk_at "o"⟩);obtain⟨x3,x4,gs,ts,rfl,e,h,hp,ho,hl⟩:=hp;unfold Zv1;refine sqt (fun σ' J=>∃ x:Int,σ'=[some (.ref sa),some (.ref wa),some (.ref l),some (.int (0+(i:Int))),some (.int x)]∧J=H'∧0≤x) ?_ ?_
  ·intro C' hC'
   walk_at "1";refine⟨ns.map V.int,.inl (e.seq hS),?_⟩
   have m0:0 < (if ((ns.map V.int).length:Int) > 1 then ((ns.map V.int).length:Int) else 1):=by split<;>walk_at "o"
   have m1:(if ((ns.map V.int).length:Int) > 1 then ((ns.map V.int).length:Int) else 1)≤63:=by rw[List.length_map];split<;>walk_at "o"
   generalize (if ((ns.map V.int).length:Int) > 1 then ((ns.map V.int).length:Int) else 1)=M at m0 m1 ⊢;have a0:=Int.emod_nonneg (0+(i:Int)) (show M≠0 by walk_at "o");have a1:=Int.emod_lt_of_pos (0+(i:Int)) m0;exact⟨m0,_,ns,_,rfl,e.seq hS,h63,by walk_at "o",by walk_at "o",_,_,rfl,by walk_at "o",by walk_at "o",hC' _ _ ⟨_,rfl,rfl,Zy9 _ _⟩⟩
  rintro σ2 J2 ⟨x,rfl,rfl,hx⟩;have lg:=Paired.length hp;have c0:=Int.emod_nonneg x (show (7:Int)≠0 by decide);have c1:=Int.emod_lt_of_pos x (show (0:Int) < 7 by decide)
  have fin:∀ {J:Hp} {v:V} {u:Tm},Same J2 J→IsT K J v u→okV ws u→J l=some (.lst gs)∧gs.length < sizeLine∧Same H (upd J l (.lst (gs++[v])))∧∃ x_1,upd J l (.lst (gs++[v])) l=some (.lst x_1)∧∃ x_2,Paired (IsT K (upd J l (.lst (gs++[v])))) x_1 x_2∧(∀ s∈x_2,okV ws s)∧x_2.length=i+1:=fun {J v u} ej hv hu=>by
   have hJ:=ej _ _ h;have kl:=Zh4 (K:=K) (o:=.lst (gs++[v])) hJ;refine⟨hJ,Zk6 (by walk_at "o"),(e.trans ej).write f1,_,Za5,ts++[u],Zg8 (Paired.mapP hp fun _ _ z=>IsT.keep z (ej.keepT.trans kl)) (.cons (IsT.keep hv kl) .nil),fun s hs=>?_,by rw[List.length_append,hl];rfl⟩;rcases List.mem_append.mp hs with hs | hs
   ·exact ho s hs
   ·rw[List.mem_singleton.mp hs];exact hu
  walk_at "1";refine⟨by decide,ite2 (fun _=>⟨.inl ⟨rfl,_,SqL.of h⟩,by decide,fun p1 h1=>?_⟩) (fun _=>⟨.inl ⟨rfl,_,SqL.of h⟩,⟨by decide,by decide⟩,by decide,Xd1 (by walk_at "o") (by walk_at "o") (by walk_at "o") (e.seq hW) hw fun r J u ej hu uw up=>?_⟩)⟩
  ·exact⟨gs,fin (Za6 h1 _) (isT_low.mpr ⟨p1,rfl,.inl (.inl Za5)⟩) ⟨trivial,by decide⟩⟩
  ·exact⟨gs,fin ej hu ⟨uw,by walk_at "o"⟩⟩
 rintro σ2 H2 ⟨x3,x4,gs,ts,rfl,e2,h2,hp,ho,hl⟩;walk_at "1";exact q _ _ gs ts e2 h2 hp ho hl
theorem sc_ax0:FnScope ["_law_script","_law_words_here","_law_given_here","_law_term","_law_rest","_law_found","_law_k","_law_many","_law_cell_here"] ["_law_script"] (Za3 (top 44)):=scm (by decide +kernel)
theorem Yu6 {P:Program} {w:World} {X:Cx}:Yd1 (CXe P w) X E0:=fun _ _ _ _ _ _ _ h=>by
 obtain⟨ea,C,dd,T,H',_,_,_,_,_,hf,h⟩:=h;exact (h none (upd H' ea (ExcO ea C dd none)) ⟨fun b o hb hne _=>by rw[Zb0 hne];exact hb,fun t q=>nomatch q⟩ ⟨Za5,fun t q=>nomatch q⟩).elim
theorem Wj1 {t:Te}:(((idxT 0 (t.pre 0)).length:Nat):Int)=0→t.st=none:=fun h=>by
 rcases Ys9 t with ⟨_,z⟩ | ⟨m,r,_,z,_⟩
 ·exact z
 ·rw[z,List.length_cons] at h;walk_at "o"
theorem Xv7 {t:Te} (h:t.st=none):(((idxT 0 (t.pre 0)).length:Nat):Int)=0:=by
 rcases Ys9 t with ⟨z,_⟩ | ⟨_,_,_,_,_,z⟩
 ·rw[z];rfl
 ·rw[h] at z;cases z
theorem Wg0 {k:Nat} {tb:TBs} {aNoTurning aLarge:Addr} {f_ax0:Addr} {fd_ax0:FuncData} (F_ax0:Fun K "law" "law" (top 44) f_ax0 fd_ax0) (C__law_words:Cl P w K mg base k "_law_words" ["_law_cell_here","_law_many"] (Yt0)) (C__law_cell:Cl P w K mg base k "_law_cell" pq9 (Zx5 K)) (C__law_mix:Cl P w K mg base k "_law_mix" pq0 (Zp6)) (C__law_given:Cl P w K mg base k "_law_given" ["_law_script","_law_words_here"] (Yb4 K)) (C__law_drawn:Cl P w K mg base k "_law_drawn" ["_law_script","_law_given_here"] (Yi6 K)) (C__law_lifted:Cl P w K mg base k "_law_lifted" pq14 (Zk1 K 60)) (C__law_is_lifted:Cl P w K mg base k "_law_is_lifted" pq5 (Zj0 K 80)) (C_turnings:Cl P w K mg base k "turnings" pq24 (Zo0 K)) {f_av0:Addr} {fd_av0:FuncData} (G_av0:FnOk P w K mg base (CXe P w) k f_av0 fd_av0 pq24 (Zs3 K tb aLarge)) (m_av0:MgI mg "brought" f_av0) (k_av0:KpI K f_av0) (b_av0:Binds K fd_av0 pq24 []) {f_bg0:Addr} {fd_bg0:FuncData} (G_bg0:FnOk P w K mg base (CXe P w) k f_bg0 fd_bg0 pq21 (Zp3 K tb aNoTurning aLarge)) (m_bg0:MgI mg "turned" f_bg0) (k_bg0:KpI K f_bg0) (b_bg0:Binds K fd_bg0 pq21 []) (m_range:mg "range"=none) (m_max:mg "max"=none) (m_len:mg "len"=none):Fk0 P w K mg base (k+1) f_ax0 fd_ax0 ["_law_script"] (Yd8 K tb):=by
 refine F_ax0.ok sc_ax0 (fun vs H Q E h=>?_) (fun cdv A outer s H vs Q E hr h=>?_)
 ·obtain⟨a,ns,rfl,_⟩:=h
  rfl
 obtain⟨a,ns,rfl,hS,h63,tabs,q⟩:=h;have cn:=Yr7 ns
 refine⟨_,(Za4 (pst 1 sc_ax0.nd (Zd1 C__law_words hr (Za0 (Zd1 C__law_cell hr (Za0 (pvM 0) (Za0 Za2 Za1))) (Za0 (Zb8 Zd3 Za2 (Zb8 Zd0 (Zd1 C__law_cell hr (Za0 (pvM 0) (Za0 Za2 Za1))) Za2)) Za1))))
 (Za4 (pst 2 sc_ax0.nd (Zb8 Xs6 (Zd1 C__law_given hr (Za0 (pvM 0) (Za0 (pvM 1) Za1))) (Zf9 (Za0 (Zb1 (Za0 Za8 (Za0 (pxl (pvM 1) Za2) Za1))) Za1))))
 (Za4 (Yb7 (Zd1 C__law_drawn hr (Za0 (pvM 0) (Za0 (pvM 2) Za1))) (Xe9 rfl (Zc6 (Zc2 (i:=3) sc_ax0.nd rfl (Or.inl rfl)) (Zc6 (Zc2 (i:=4) sc_ax0.nd rfl (Or.inl rfl)) Zi6))))
 (Za4 (Zd7 (ptcM (Zf2) (Zb8 Zd0 (Zd1 C__law_cell hr (Za0 (pvM 0) (Za0 Za2 Za1))) Za2) Za2)
  (Za4 (pst 3 sc_ax0.nd (Zb1 (Za0 Za8 (Za0 (pxl (pvM 2) (Wd9 Xr5 Za2)) (Za0 (Zd1 C__law_lifted hr (Za0 (pvM 3) (Za0 Za2 (Za0 Za2 Za1)))) Za1)))))
 (Za7 (pst 4 sc_ax0.nd (Zb1 (Za0 Za8 (Za0 (pxl (pvM 2) (Wd9 Xr5 Za2)) (Za0 (Zd1 C__law_lifted hr (Za0 (pvM 4) (Za0 Za2 (Za0 Za2 Za1)))) Za1)))))))
  Zb4)
 (Za4 (Zd7 (Zu0 (Zt9 (Zd1 C__law_is_lifted hr (Za0 (Zo3 G_av0 hr (by exact rfl) m_av0 k_av0 b_av0 .nil Yu6 (Za0 (pvM 3) Za1)) (Za0 (pvM 4) (Za0 Za2 (Za0 Za2 Za1)))))))
  (Za7 (Zb2 Yf4))
  Zb4)
 (Za4 (pst 5 sc_ax0.nd (pvM 3))
 (Za4 (Zm3 PassesOwn.never rfl (Zh3 rfl m_range (Za0 Za2 Za1)) (Zc2 (i:=6) sc_ax0.nd rfl (Or.inl rfl))
  (Za4 (pst 7 sc_ax0.nd (Zd1 C_turnings hr (Za0 (pvM 5) Za1)))
 (Za4 (Zd7 (ptcM (Zf2) (pvM 7) Za2)
  (Za7 Xo8)
  Zb4)
 (Za4 (pst 8 sc_ax0.nd (Zd1 C__law_mix hr (Za0 (Zd1 C__law_cell hr (Za0 (pvM 0) (Za0 (Zb8 Zd0 (pvM 6) (Zd2 (Ya1 rfl) (by exact rfl) m_max boot_max (Za0 Za2 (Za0 (Zd2 Zc3 (by exact rfl) m_len Zf0 (Za0 (pvM 0) Za1)) Za1)))) Za1))) (Za0 (Zb8 Zd3 (pvM 6) Za2) Za1))))
 (Za4 (pst 5 sc_ax0.nd (Zo3 G_bg0 hr (by exact rfl) m_bg0 k_bg0 b_bg0 .nil Yu6 (Za0 (pvM 5) (Za0 (Zb8 Zd0 (pvM 8) (pvM 7)) Za1))))
 (Za7 (Zd7 ((Xs1 (ptcM (Zf2) (pvM 6) Za2) (Xe4 (Zu0 (Zt9 (Zd1 C__law_is_lifted hr (Za0 (Zo3 G_av0 hr (by exact rfl) m_av0 k_av0 b_av0 .nil Yu6 (Za0 (pvM 5) Za1)) (Za0 (pvM 4) (Za0 Za2 (Za0 Za2 Za1)))))))))).pt
  (Za7 (Zb2 Yf4))
  Zb4)))))))
 (Za4 (Zd7 ((Yy0 (ptcM (Xf5) (Zd1 C_turnings hr (Za0 (pvM 5) Za1)) Za2) (Yu1 (Zu0 (Zt9 (Zd1 C__law_is_lifted hr (Za0 (pvM 5) (Za0 (pvM 4) (Za0 Za2 (Za0 Za2 Za1)))))))))).pt
  (Za7 (Zb2 Yf4))
  Zb4)
 (Za7 (Zb2 (Zd1 C__law_is_lifted hr (Za0 (Zo3 G_av0 hr (by exact rfl) m_av0 k_av0 b_av0 .nil Yu6 (Za0 (pvM 5) Za1)) (Za0 (pvM 4) (Za0 Za2 (Za0 Za2 Za1))))))))))))))),?_⟩
 refine sqt (fun σ' H'=>∃ wa ws,σ'=[some (.ref a),some (.ref wa),none,none,none,none,none,none,none]∧Same H H'∧H' wa=some (.lst (ws.map V.str))∧Xa8 ws) ?_ ?_
 ·intro C hC
  walk_at "1";have b0:=Int.emod_nonneg (cellOf ns 1) (show (5:Int)≠0 by decide);have b1:=Int.emod_lt_of_pos (cellOf ns 1) (show (0:Int) < 5 by decide);exact⟨_,ns,_,rfl,hS,h63,by decide,by decide,_,ns,_,rfl,hS,h63,by decide,by decide,_,rfl,by decide,_,_,rfl,cn 0,by walk_at "o",by walk_at "o",fun r H' ws e _ h hw=>hC _ _ ⟨r,ws,rfl,e,h,hw⟩⟩
 rintro σ1 H1 ⟨wa,ws,rfl,e1,hw1,hW⟩;refine sqt (fun σ' H'=>∃ ga gs ts lv wd,σ'=[some (.ref a),some (.ref wa),some (.ref ga),none,none,none,none,none,none]∧Same H1 H'∧GvV K H' ws ga (gs++[lv]) ts∧IsT K H' lv (.ltr wd)∧wd∈ws) ?_ ?_
 ·intro C hC
  walk_at "1";obtain⟨wd,hwd⟩:∃ wd,ws[0]?=some wd:=⟨_,List.getElem?_eq_getElem (by have:=hW.1;walk_at "o")⟩;have h0:atI (ws.map V.str) (0:Int)=some (V.str wd):=Zb9 (j:=0) (by rw[List.getElem?_map,hwd];rfl);refine⟨_,_,ns,ws,rfl,e1.seq hS,h63,SqL.of hw1,hW,fun r H2 gs ts e2 hg hp ho hl=>⟨_,SqL.of (e2 _ _ hw1),_,h0,by decide,?_⟩⟩;intro p1 h_p1;generalize e_p1:upd H2 p1 (.tup [.str "letter",.str wd])=J1;have s1:=nw1 h_p1 e_p1;have q1:=nw2 (K:=K) e_p1;refine⟨by decide,fun p2 h2=>?_⟩;have s2:=Za6 h2 (.lst [.ref p1]);have hg2:upd J1 p2 (.lst [.ref p1]) r=some (.lst gs):=s2 _ _ (s1 _ _ hg);have lg:=Paired.length hp;refine⟨_,rfl,_,hg2,_,Za5,Nat.le_of_lt (Zk6 (by show gs.length+1≤_;walk_at "o")),fun p3 h3=>?_⟩;have s3:=Za6 h3 (.lst (gs++[.ref p1]));have s23:=s2.trans s3;have s13:=s1.trans s23;have il:=isT_ltr.mpr ⟨p1,rfl,s23.sqt q1⟩;have mw:=List.mem_of_getElem? hwd;refine hC _ _ ⟨p3,gs,ts++[.ltr wd],.ref p1,wd,rfl,e2.trans s13,⟨Za5,Zg8 (Paired.mapP hp fun _ _ z=>IsT.keep z s13.keepT) (.cons il .nil),fun s hs=>?_,by rw[List.length_append];exact Nat.le_add_left 1 _,by rw[List.length_append];show gs.length+1≤5;walk_at "o"⟩,il,mw⟩;rcases List.mem_append.mp hs with hs | hs
  ·exact ho s hs
  ·rw[List.mem_singleton.mp hs];exact⟨mw,by show 1≤25;decide⟩
 rintro σ2 H2 ⟨ga,gs,ts,lv,wd,rfl,e2,G,hlv,mwd⟩;have e02:=e1.trans e2;refine sqt (fun σ' H'=>∃ tv rv t r,σ'=[some (.ref a),some (.ref wa),some (.ref ga),some tv,some rv,none,none,none,none]∧Same H2 H'∧IsE K H' tv t∧IsE K H' rv r∧t.fine ws∧r.fine ws∧r.deep≤60∧Ym6 t r) ?_ ?_
 ·intro C hC
  walk_at "1";exact⟨a,ga,ns,ws,_,ts,rfl,e02.seq hS,h63,G,fun l H' tv rv t r e hl h1 h2 h3 h4 h5 h6=>⟨l,rfl,_,SqL.of hl,rfl,_,_,rfl,_,_,rfl,rfl,hC _ _ ⟨tv,rv,t,r,rfl,e,h1,h2,h3,h4,h5,h6⟩⟩⟩
 rintro σ3 H3 ⟨tv,rv,t,r,rfl,e3,ht,hrv,tf,rf,rd,cm⟩;have e03:=e02.trans e3;have G3:=G.keep e3;refine sqt (fun σ' H'=>∃ tv rv t r,σ'=[some (.ref a),some (.ref wa),some (.ref ga),some tv,some rv,none,none,none,none]∧Same H3 H'∧IsE K H' tv t∧IsE K H' rv r∧t.fine ws∧r.fine ws∧r.deep≤80∧Goes r 301 57 100 t) ?_ ?_
 ·intro C hC
  walk_at "3";refine⟨_,ns,_,rfl,e03.seq hS,h63,by decide,by decide,_,rfl,by decide,ite2 (fun _=>?_) (fun _=>hC _ _ ⟨tv,rv,t,r,rfl,Same.refl _,ht,hrv,tf,rf,by walk_at "o",Goes.mono (by decide) (by decide) (Nat.le_refl _) cm⟩)⟩;have gl:∀ {J:Hp},Same H3 J→∃ xs,SqL K J ga xs∧atI xs (-1)=some lv:=fun {J} e=>⟨_,SqL.of (e _ _ G3.g),Xr4 _ _⟩;have okl:okW ws (.ltr wd):=⟨mwd,by show 1≤60;decide⟩;refine sqt (fun σ' H'=>∃ tv,σ'=[some (.ref a),some (.ref wa),some (.ref ga),some tv,some rv,none,none,none,none]∧Same H3 H'∧IsE K H' tv (.fn (.ltr wd) (t.mp (Zb5 1) 0))) ?_ ?_
  ·intro C' hC'
   walk_at "1";obtain⟨xs,g1,g2⟩:=gl (Same.refl H3);refine⟨xs,g1,_,g2,tv,t,1,0,ws,rfl,ht,tf,Nat.le_trans cm.d (by decide),fun u J1 ej hu=>⟨by decide,?_⟩⟩;intro p1 h_p1;generalize e_p1:upd J1 p1 (.tup [.str "fun",lv,u])=J2;have s1:=nw1 h_p1 e_p1;have q1:=nw2 (K:=K) e_p1;exact hC' _ _ ⟨_,rfl,ej.trans s1,Zj4 q1 (IsT.keep hlv (e3.trans (ej.trans s1)).keepT) (IsE.keep hu s1.keepT)⟩
  rintro σ4 H4 ⟨tv',rfl,e4,ht'⟩;walk_at "1";obtain⟨xs,g1,g2⟩:=gl e4;refine⟨xs,g1,_,g2,rv,r,1,0,ws,rfl,IsE.keep hrv e4.keepT,rf,rd,fun u J1 ej hu=>⟨by decide,?_⟩⟩;intro p1 h_p1;generalize e_p1:upd J1 p1 (.tup [.str "fun",lv,u])=J2;have s1:=nw1 h_p1 e_p1;have q1:=nw2 (K:=K) e_p1;have e4':=e4.trans (ej.trans s1);exact hC _ _ ⟨_,_,_,_,rfl,e4',IsE.keep ht' (ej.trans s1).keepT,Zj4 q1 (IsT.keep hlv (e3.trans e4').keepT) (IsE.keep hu s1.keepT),⟨okl,Zg1 tf⟩,⟨okl,Zg1 rf⟩,by show 1+(r.mp (Zb5 1) 0).deep≤80;rw[Zf5];walk_at "o",Xr0 cm⟩
 rintro σ4 H4 ⟨tv,rv,t,r,rfl,e4,ht,hrv,tf,rf,rd,go⟩;have e04:=e03.trans e4;have tab4:Tabs H4 tb:=tabs.keep e04;have okB:∀ {J:Hp} {v:V} {u:Te} {n:Nat},IsE K J v u→u.all Tm.ok→Goes r 301 57 n u→OkB K J v u:=fun h1 h2 h3=>⟨h1,Nat.le_trans h3.s (by decide),Nat.le_trans (Zi1 _) (Nat.le_trans h3.d (by decide)),h2⟩
 have bring:∀ {J:Hp} {Z:VK} {v:V} {u:Te} {n:Nat},IsE K J v u→u.all Tm.ok→n≤150→Goes r 301 57 n u→Tabs J tb→(∀ x J',SameV (tb.map (·.1)) J J'→Tabs J' tb→IsE K J' x r→Z x J')→Zs3 K tb aLarge [v] J Z E0:=fun {J Z v u n} h1 h2 hn h3 tj fin =>
  ⟨v,u,some r,rfl,okB h1 h2 h3,tj,Yk6 (by decide) (by decide) hn h3,fun t' x J' er sv tk hx=>fin x J' sv tk (by cases er;exact hx),fun er=>nomatch er⟩
 have isL:∀ {J:Hp} {Z:VK} {x:V},IsE K J x r→IsE K J rv r→(∀ J',Same J J'→Z (.bl true) J')→Zj0 K 80 [x,rv,.int 0,.int 0] J Z E0:=fun {J Z x} h1 h2 fin =>
  ⟨x,rv,r,0,0,ws,rfl,by rw[Zz2];exact h1,h2,rf,hW.2.2,rd,fin⟩
 have ta:t.all Tm.ok:=tf.ok hW.2.2;have rvk:∀ {J:Hp},SameV (tb.map (·.1)) H4 J→IsE K J rv r:=fun sv=>IsE.keep hrv (SameT.keepT sv.toT);refine sqt (fun σ' H'=>σ'=[some (.ref a),some (.ref wa),some (.ref ga),some tv,some rv,none,none,none,none]∧SameV (tb.map (·.1)) H4 H'∧Tabs H' tb) ?_ ?_
 ·intro C hC
  walk_at "1";refine bring ht ta (by decide) go tab4 fun x J sv tj hx=>isL hx (rvk sv) fun J' s'=>⟨true,rfl,?_⟩;rw[if_neg (by decide)];exact hC _ _ ⟨rfl,sv.trans s'.toV,tj.keep s'⟩
 rintro σ5 H5 ⟨rfl,sv5,tab5⟩;refine sqt (fun σ' H'=>σ'=[some (.ref a),some (.ref wa),some (.ref ga),some tv,some rv,some tv,none,none,none]∧H'=H5) ?_ ?_
 ·intro C hC
  walk_at "1";exact hC _ _ ⟨rfl,rfl⟩
 rintro σ6 H6 ⟨rfl,rfl⟩;refine sqt (fun σ' H'=>∃ fv x6 x7 x8,σ'=[some (.ref a),some (.ref wa),some (.ref ga),some tv,some rv,some fv,x6,x7,x8]∧SameV (tb.map (·.1)) H4 H'∧Tabs H' tb∧IsE K H' fv r∧r.all Tm.ok∧Goes r 301 57 0 r) ?_ ?_
 ·intro C hC
  walk_at "2"
  have rest:∀ {n:Nat} {u:Te},Goes r 301 57 n u→u.st=none→u=r∧Goes r 301 57 0 r:=fun {n u} h e=>by
   have:=h.r e;subst this;exact⟨rfl,h.s,h.d,e,rfl⟩
  refine⟨by decide,by decide,Zj5 (D:={ nx:=C,rt:=Q }) (n:=Int.toNat 150) (lo:=0) (fun i σ' H'=>∃ fv u x6 x7 x8,σ'=[some (.ref a),some (.ref wa),some (.ref ga),some tv,some rv,some fv,x6,x7,x8]∧SameV (tb.map (·.1)) H4 H'∧Tabs H' tb∧IsE K H' fv u∧u.all Tm.ok∧Goes r 301 57 (100 - i) u) ⟨tv,t,none,none,none,rfl,sv5,tab5,IsE.keep ht (SameT.keepT sv5.toT),ta,go⟩ (fun i σ' H' hi hp=>?_) (fun σ' H' hp=>?_)⟩
  rotate_left
  ·obtain⟨fv,u,x6,x7,x8,rfl,sv,tj,hf,ua,g⟩:=hp
   have g0:Goes r 301 57 0 u:=g;obtain⟨rfl,z⟩:=rest g0 g0.2.2.1;exact hC _ _ ⟨fv,x6,x7,x8,rfl,sv,tj,hf,ua,z⟩
  obtain⟨fv,u,x6,x7,x8,rfl,sv,tj,hf,ua,g⟩:=hp;have hi:i < 150:=hi;unfold Zv1;refine Zp9 (fun σ' J=>σ'=[some (.ref a),some (.ref wa),some (.ref ga),some tv,some rv,some fv,some (.int (0+(i:Int))),some (.int ((idxT 0 (u.pre 0)).length:Nat)),x8]∧Same H' J) ?_ ?_
  rotate_left
  ·intro C' hC'
   walk_at "1";exact⟨fv,u,rfl,hf,Nat.le_trans g.s (by decide),fun J e=>hC' _ _ ⟨rfl,e⟩⟩
  rintro σ7 H7 ⟨rfl,e7⟩;have sv7:=sv.trans e7.toV;have tj7:=tj.keep e7;have hf7:=IsE.keep hf e7.keepT;refine Zp9 (fun σ' J=>σ'=[some (.ref a),some (.ref wa),some (.ref ga),some tv,some rv,some fv,some (.int (0+(i:Int))),some (.int ((idxT 0 (u.pre 0)).length:Nat)),x8]∧J=H7∧(0:Int) < ((idxT 0 (u.pre 0)).length:Nat)) ?_ ?_
  rotate_left
  ·intro C' hC'
   walk_at "1";refine ite2 (fun z=>?_) (fun z=>hC' _ _ ⟨rfl,rfl,by walk_at "o"⟩);obtain⟨rfl,z⟩:=rest g (Wj1 z);exact hC _ _ ⟨fv,_,_,_,rfl,sv7,tj7,hf7,ua,z⟩
  rintro σ8 H8 ⟨rfl,rfl,pos⟩;refine Zp9 (fun σ' J=>∃ x:Int,0≤x∧σ'=[some (.ref a),some (.ref wa),some (.ref ga),some tv,some rv,some fv,some (.int (0+(i:Int))),some (.int ((idxT 0 (u.pre 0)).length:Nat)),some (.int x)]∧J=H8) ?_ ?_
  rotate_left
  ·intro C' hC'
   walk_at "1";have hS8:=SameT.seq sv7.toT (e04.seq hS);refine⟨ns.map V.int,.inl hS8,?_⟩
   have m0:0 < (if ((ns.map V.int).length:Int) > 1 then ((ns.map V.int).length:Int) else 1):=by split<;>walk_at "o"
   have m1:(if ((ns.map V.int).length:Int) > 1 then ((ns.map V.int).length:Int) else 1)≤63:=by rw[List.length_map];split<;>walk_at "o"
   generalize (if ((ns.map V.int).length:Int) > 1 then ((ns.map V.int).length:Int) else 1)=M at m0 m1 ⊢;have a0:=Int.emod_nonneg (0+(i:Int)) (show M≠0 by walk_at "o");have a1:=Int.emod_lt_of_pos (0+(i:Int)) m0;exact⟨m0,_,ns,_,rfl,hS8,h63,by walk_at "o",by walk_at "o",_,_,rfl,by walk_at "o",by walk_at "o",hC' _ _ ⟨_,Zy9 _ _,rfl,rfl⟩⟩
  rintro σ9 H9 ⟨x,hx,rfl,rfl⟩;refine Zp9 (fun σ' J=>∃ fv u',σ'=[some (.ref a),some (.ref wa),some (.ref ga),some tv,some rv,some fv,some (.int (0+(i:Int))),some (.int ((idxT 0 (u.pre 0)).length:Nat)),some (.int x)]∧SameV (tb.map (·.1)) H4 J∧Tabs J tb∧IsE K J fv u'∧u'.all Tm.ok∧Goes r 301 57 (100 - (i+1)) u') ?_ ?_
  rotate_left
  ·intro C' hC'
   walk_at "1";have n0:=Int.emod_nonneg x (show (((idxT 0 (u.pre 0)).length:Nat):Int)≠0 by walk_at "o");have n1:=Int.emod_lt_of_pos x pos;have corr:=Ze9 (t:=u) (f:=0) (n:=0) (π:=[])
   have way:∀ {j m:Nat},(idxT 0 (u.pre 0))[j]?=some m→∃ n ρ,100 - i=n+1∧u.tpm m 0=u.tat ρ∧u.okp ρ∧Goes r 301 57 n (u.tat ρ):=fun {j m} h=>by
    obtain⟨_,_,ρ,_,c2,_,_,c5⟩:=Ze3 corr h;obtain⟨n,en,g'⟩:=g.step c5;exact⟨n,ρ,en,c2,c5,g'⟩
   refine⟨by walk_at "o",fv,u,_,rfl,hf7,Nat.le_trans g.s (by decide),Nat.le_trans (Zi1 _) (Nat.le_trans g.d (by decide)),ua,tj7,fun j m _ hm=>?_,fun no=>absurd ⟨n0,n1⟩ no,fun j m _ hm=>?_⟩
   ·obtain⟨n,ρ,_,e,_,g'⟩:=way hm
    rw[e];exact Nat.le_trans g'.s (by decide)
   ·obtain⟨n,ρ,en,e,o,g'⟩:=way hm
    rw[e];exact⟨fun _ y J sv' tj' hy=>hC' _ _ ⟨y,_,rfl,sv7.trans sv',tj',hy,Zk5 o ua,by rw[show 100 - (i+1)=n by walk_at "o"];exact g'⟩,fun no=>absurd ⟨Nat.le_trans g'.s (by decide),Nat.le_trans g'.d (by decide)⟩ no⟩
  rintro σ10 H10 ⟨fv',u',rfl,sv10,tj10,hf10,ua',g10⟩;walk_at "1";refine ite2 (fun _=>?_) (fun _=>?_)
  ·refine bring hf10 ua' (by walk_at "o") g10 tj10 fun y J sv' tj' hy=>isL hy (rvk (sv10.trans sv')) fun J' s'=>⟨true,rfl,?_⟩
   rw[if_neg (by decide)];have svJ:=sv'.trans s'.toV;exact⟨sv10.trans svJ,tj'.keep s',u',IsE.keep hf10 (SameT.keepT svJ.toT),ua',g10⟩
  ·rw[if_neg (by decide)]
   exact⟨sv10,tj10,u',hf10,ua',g10⟩
 rintro σ7 H7 ⟨fv,x6,x7,x8,rfl,sv7,tj7,hf7,ra,g7⟩;have st0:r.st=none:=g7.2.2.1;refine sqt (fun σ' J=>σ'=[some (.ref a),some (.ref wa),some (.ref ga),some tv,some rv,some fv,x6,x7,x8]∧SameV (tb.map (·.1)) H4 J∧Tabs J tb∧IsE K J fv r) ?_ ?_
 ·intro C hC
  walk_at "1";refine⟨fv,r,rfl,hf7,Nat.le_trans g7.s (by decide),fun J e=>⟨rfl,?_⟩⟩;rw[Xv7 st0,if_neg (by decide)];refine isL (IsE.keep hf7 e.keepT) (rvk (sv7.trans e.toV)) fun J' s'=>⟨true,rfl,?_⟩;rw[if_neg (by decide)];exact hC _ _ ⟨rfl,(sv7.trans e.toV).trans s'.toV,(tj7.keep e).keep s',IsE.keep hf7 (e.trans s').keepT⟩
 rintro σ8 H8 ⟨rfl,sv8,tj8,hf8⟩;walk_at "1";exact bring hf8 ra (by decide) g7 tj8 fun x J sv tj hx=>isL hx (rvk (sv8.trans sv)) fun J' s'=>q _
theorem Wa4 {l:W.OpenLaw} {w:World} {K:W.Frag} {h:Heap} {mg:Str→Option Value} {fa bm:Addr} (X:K.In h) (G:h.Ns mainGlobals mg) (hfa:MgI mg "law" fa) (E:Hd.obsK pg ask K=Hd.valK pg ask w.params) (D:Hd.chk pg cask K=true) (E2:Hd.iniK pg mask K=Hd.iniV pg mask) (D2:Hd.chkM pg mask K=true) (hc:Hd.codesOk pg tas K=true) (hIn:Hd.inSeen K "INNER"=Hd.inWant w.params Hd.innK) (hTr:Hd.trSeen K "TURNING"=Hd.trWant w.params Hd.trK) (hNd:(Hd.tabs pg tas K).Nodup) (hblt:BltK K mg bm) (nT:∀ T∈Hd.tabs pg tas K,bm≠T) :
  ∃ fd:FuncData,(∀ (s:Shared) (v:Value),BindsTo s fd ⟨[v],[]⟩ [("_law_script",v)])∧∀ base:Heap,K.In base→base.Ns mainGlobals mg→FnOk l.prog w K mg base CX0 82 fa fd ["_law_script"] ((fun K=>Yd8 K (tb5 (Hd.tabAt K "changed") (Hd.tabAt K "lifted") (Hd.tabAt K "put") (Hd.tabAt K "term_deep") (Hd.tabAt K "turned"))) K):=by
 obtain⟨f_ao0,fd_ao0,m_ao0,F_ao0,k_ao0,b_ao0⟩:=(show Df K mg "_law_mix" (top 28) ["_law_cell_here","_law_k"] from Hd.df2 X G E 28).ex;obtain⟨f_af0,fd_af0,m_af0,F_af0,k_af0,b_af0⟩:=(show Df K mg "_law_cell" (top 29) ["_law_script","_law_k"] from Hd.df2 X G E 29).ex;obtain⟨f_at0,fd_at0,m_at0,F_at0,k_at0,b_at0⟩:=(show Df K mg "_law_words" (top 30) ["_law_cell_here","_law_many"] from Hd.df2 X G E 30).ex;obtain⟨f_am0,fd_am0,m_am0,F_am0,k_am0,b_am0⟩:=(show Df K mg "_law_leaf" (top 31) ["_law_cell_here","_law_words_here"] from Hd.df2 X G E 31).ex;obtain⟨f_as0,fd_as0,m_as0,F_as0,k_as0,b_as0⟩:=(show Df K mg "_law_statement" (top 32) ["_law_cell_here","_law_size","_law_words_here"] from Hd.df3 X G E 32).ex;obtain⟨f_ai0,fd_ai0,m_ai0,F_ai0,k_ai0,b_ai0⟩:=(show Df K mg "_law_given" (top 33) ["_law_script","_law_words_here"] from Hd.df2 X G E 33).ex;obtain⟨f_an0,fd_an0,m_an0,F_an0,k_an0,b_an0⟩:=(show Df K mg "_law_lifted" (top 34) ["_law_term","_law_by","_law_own"] from Hd.df3 X G E 34).ex;obtain⟨f_au0,fd_au0,m_au0,F_au0,k_au0,b_au0⟩:=(show Df K mg "_law_wrapped" (top 35) ["_law_term","_law_base","_law_shape","_law_cell_here","_law_given_here"] from Hd.df5 X G E 35).ex;obtain⟨f_ag0,fd_ag0,m_ag0,F_ag0,k_ag0,b_ag0⟩:=(show Df K mg "_law_doubled" (top 36) ["_law_many","_law_shape","_law_base"] from Hd.df3 X G E 36).ex;obtain⟨f_aq0,fd_aq0,m_aq0,F_aq0,k_aq0,b_aq0⟩:=(show Df K mg "_law_rest_of" (top 37) ["_law_many","_law_shape","_law_base"] from Hd.df3 X G E 37).ex;obtain⟨f_aj0,fd_aj0,m_aj0,F_aj0,k_aj0,b_aj0⟩:=(show Df K mg "_law_inner_of" (top 38) ["_law_term"] from Hd.df1 X G E 38).ex;obtain⟨f_ar0,fd_ar0,m_ar0,F_ar0,k_ar0,b_ar0⟩:=(show Df K mg "_law_shaped" (top 39) ["_law_found","_law_term"] from Hd.df2 X G E 39).ex;obtain⟨f_ak0,fd_ak0,m_ak0,F_ak0,k_ak0,b_ak0⟩:=(show Df K mg "_law_is_at" (top 40) ["_law_found","_law_number"] from Hd.df2 X G E 40).ex;obtain⟨f_al0,fd_al0,m_al0,F_al0,k_al0,b_al0⟩:=(show Df K mg "_law_is_lifted" (top 41) ["_law_found","_law_term","_law_by","_law_own"] from Hd.df4 X G E 41).ex;obtain⟨f_ap0,fd_ap0,m_ap0,F_ap0,k_ap0,b_ap0⟩:=(show Df K mg "_law_one" (top 42) ["_law_script","_law_start","_law_given_here"] from Hd.df3 X G E 42).ex;obtain⟨f_ah0,fd_ah0,m_ah0,F_ah0,k_ah0,b_ah0⟩:=(show Df K mg "_law_drawn" (top 43) ["_law_script","_law_given_here"] from Hd.df2 X G E 43).ex;obtain⟨f_bk0,fd_bk0,m_bk0,F_bk0,k_bk0,b_bk0⟩:=(show Df K mg "turns" (top 21) ["term"] from Hd.df1 X G E 21).ex;obtain⟨f_bi0,fd_bi0,m_bi0,F_bi0,k_bi0,b_bi0⟩:=(show Df K mg "turning_places" (top 23) ["pieces"] from Hd.df1 X G E 23).ex;obtain⟨f_bc0,fd_bc0,m_bc0,F_bc0,k_bc0,b_bc0⟩:=(show Df K mg "standing" (top 6) ["term"] from Hd.df1 X G E 6).ex;obtain⟨f_be0,fd_be0,m_be0,F_be0,k_be0,b_be0⟩:=(show Df K mg "term_folded" (top 7) ["pieces","of_piece"] from Hd.df2 X G E 7).ex;obtain⟨f_bl0,fd_bl0,m_bl0,F_bl0,k_bl0,b_bl0⟩:=(show Df K mg "with_inner" (top 8) ["piece","inner"] from Hd.df2 X G E 8).ex;obtain⟨f_bf0,fd_bf0,m_bf0,F_bf0,k_bf0,b_bf0⟩:=(show Df K mg "term_parts" (top 11) ["term"] from Hd.df1 X G E 11).ex;obtain⟨f_bh0,fd_bh0,m_bh0,F_bh0,k_bh0,b_bh0⟩:=(show Df K mg "turned_itself" (top 22) ["term"] from Hd.df1 X G E 22).ex;obtain⟨f_bj0,fd_bj0,m_bj0,F_bj0,k_bj0,b_bj0⟩:=(show Df K mg "turnings" (top 24) ["term"] from Hd.df1 X G E 24).ex;obtain⟨f_av0,fd_av0,m_av0,F_av0,k_av0,b_av0⟩:=(show Df K mg "brought" (top 26) ["term"] from Hd.df1 X G E 26).ex;obtain⟨f_ax0,oc_ax0,od_ax0,sl_ax0,kV_ax0,dc_ax0,pm_ax0,an_ax0,cd_ax0,ct_ax0,a_ax0,l_ax0,c_ax0,k_ax0⟩:Hd.FnF K "law" (top 44):=Hd.fn_ofx (by kernel_rfl) (Hd.e_fn E (i:=44) (by decide));obtain⟨f_aw0,fd_aw0,a_aw0,F_aw0,F0_changed,v_changed,_,_⟩:Hd.FunTF K "changed" (top 9) (Hd.tabAt K "changed"):=Hd.funT_ofx (by kernel_rfl) (Hd.e_fn E (i:=9) (by decide)) (Hd.t_code hc (by decide));have m_aw0:=W.mg_of X G a_aw0;have k_aw0:=F0_changed.kp
 have b_aw0:=F0_changed.binds (ps:=["term","of_at"]) fun _ _ _ _ _ _ us hl=>match us,hl with | [_,_],_=>rfl
 have hB_changed:=fun h k=>hblt.at (nT _ (Yx3 K)) h k;obtain⟨f_ay0,fd_ay0,a_ay0,F_ay0,F0_lifted,v_lifted,_,_⟩:Hd.FunTF K "lifted" (top 14) (Hd.tabAt K "lifted"):=Hd.funT_ofx (by kernel_rfl) (Hd.e_fn E (i:=14) (by decide)) (Hd.t_code hc (by decide));have m_ay0:=W.mg_of X G a_ay0;have k_ay0:=F0_lifted.kp
 have b_ay0:=F0_lifted.binds (ps:=["term","by"]) fun _ _ _ _ _ _ us hl=>match us,hl with | [_,_],_=>rfl
 have hB_lifted:=fun h k=>hblt.at (nT _ (Xc3 K)) h k;obtain⟨f_bb0,fd_bb0,a_bb0,F_bb0,F0_put,v_put,_,_⟩:Hd.FunTF K "put" (top 15) (Hd.tabAt K "put"):=Hd.funT_ofx (by kernel_rfl) (Hd.e_fn E (i:=15) (by decide)) (Hd.t_code hc (by decide));have m_bb0:=W.mg_of X G a_bb0;have k_bb0:=F0_put.kp
 have b_bb0:=F0_put.binds (ps:=["term","other"]) fun _ _ _ _ _ _ us hl=>match us,hl with | [_,_],_=>rfl
 have hB_put:=fun h k=>hblt.at (nT _ (Wb3 K)) h k;obtain⟨f_bd0,fd_bd0,a_bd0,F_bd0,F0_term_deep,v_term_deep,_,_⟩:Hd.FunTF K "term_deep" (top 12) (Hd.tabAt K "term_deep"):=Hd.funT_ofx (by kernel_rfl) (Hd.e_fn E (i:=12) (by decide)) (Hd.t_code hc (by decide));have m_bd0:=W.mg_of X G a_bd0;have k_bd0:=F0_term_deep.kp
 have b_bd0:=F0_term_deep.binds (ps:=["term"]) fun _ _ _ _ _ _ us hl=>match us,hl with | [_],_=>rfl
 have hB_term_deep:=fun h k=>hblt.at (nT _ (Yh6 K)) h k;obtain⟨f_bg0,fd_bg0,a_bg0,F_bg0,F0_turned,v_turned,_,_⟩:Hd.FunTF K "turned" (top 25) (Hd.tabAt K "turned"):=Hd.funT_ofx (by kernel_rfl) (Hd.e_fn E (i:=25) (by decide)) (Hd.t_code hc (by decide));have m_bg0:=W.mg_of X G a_bg0;have k_bg0:=F0_turned.kp
 have b_bg0:=F0_turned.binds (ps:=["term","number"]) fun _ _ _ _ _ _ us hl=>match us,hl with | [_,_],_=>rfl
 have hB_turned:=fun h k=>hblt.at (nT _ (Xc2 K)) h k;have g_KenError:=Hd.c_refx (x:="KenError") D (i:=1) (by kernel_rfl) (by decide);have g_NoTurning:=Hd.c_refx (x:="NoTurning") D (i:=2) (by kernel_rfl) (by decide);have g_Large:=Hd.c_refx (x:="Large") D (i:=3) (by kernel_rfl) (by decide);obtain⟨tk_MOST_PARTS,g_MOST_PARTS⟩:=Hd.m_int D2 (x:="MOST_PARTS") (i:=1000) (.head _);obtain⟨tk_MOST_DEEP,g_MOST_DEEP⟩:=Hd.m_int D2 (x:="MOST_DEEP") (i:=120) (.tail _ (.head _));obtain⟨tk_MOST_STEPS,g_MOST_STEPS⟩:=Hd.m_int D2 (x:="MOST_STEPS") (i:=150) (.tail _ (.tail _ (.head _)));obtain⟨x_NoTurning,z_NoTurning,i_1,i_2⟩:=Hd.c_exc D (ij:=(2,1)) (by decide);obtain⟨x_Large,z_Large,i_3,i_4⟩:=Hd.c_exc D (ij:=(3,1)) (by decide);have m_len:=W.mg_none_of X G (n:="len") (Hd.e_bl E (.head _));have m_range:=W.mg_none_of X G (n:="range") (Hd.e_bl E (.tail _ (.head _)));have m_max:=W.mg_none_of X G (n:="max") (Hd.e_bl E (.tail _ (.tail _ (.head _))));have m_isinstance:=W.mg_none_of X G (n:="isinstance") (Hd.e_bl E (.tail _ (.tail _ (.tail _ (.head _)))));have m_tuple:=W.mg_none_of X G (n:="tuple") (Hd.e_bl E (.tail _ (.tail _ (.tail _ (.tail _ (.head _))))));have m_int:=W.mg_none_of X G (n:="int") (Hd.e_bl E (.tail _ (.tail _ (.tail _ (.tail _ (.tail _ (.head _)))))));have m_bool:=W.mg_none_of X G (n:="bool") (Hd.e_bl E (.tail _ (.tail _ (.tail _ (.tail _ (.tail _ (.tail _ (.head _))))))));have m_enumerate:=W.mg_none_of X G (n:="enumerate") (Hd.e_bl E (.tail _ (.tail _ (.tail _ (.tail _ (.tail _ (.tail _ (.tail _ (.head _)))))))));have m_reversed:=W.mg_none_of X G (n:="reversed") (Hd.e_bl E (.tail _ (.tail _ (.tail _ (.tail _ (.tail _ (.tail _ (.tail _ (.tail _ (.head _))))))))));have m_list:=W.mg_none_of X G (n:="list") (Hd.e_bl E (.tail _ (.tail _ (.tail _ (.tail _ (.tail _ (.tail _ (.tail _ (.tail _ (.tail _ (.head _)))))))))));have m_zip:=W.mg_none_of X G (n:="zip") (Hd.e_bl E (.tail _ (.tail _ (.tail _ (.tail _ (.tail _ (.tail _ (.tail _ (.tail _ (.tail _ (.tail _ (.head _))))))))))));have m_sorted:=W.mg_none_of X G (n:="sorted") (Hd.e_bl E (.tail _ (.tail _ (.tail _ (.tail _ (.tail _ (.tail _ (.tail _ (.tail _ (.tail _ (.tail _ (.tail _ (.head _)))))))))))));cases hfa.symm.trans (W.mg_of X G a_ax0);have F_ax0:=Xj3 (st:=(top 44)) l_ax0 c_ax0 k_ax0;have m_ac0:=W.mg_of X G g_MOST_PARTS;have m_ab0:=W.mg_of X G g_MOST_DEEP;have m_ad0:=W.mg_of X G g_MOST_STEPS;have m_KenError:=W.mg_of X G g_KenError;have m_NoTurning:=W.mg_of X G g_NoTurning;have m_Large:=W.mg_of X G g_Large;have xc_NoTurning:=x_NoTurning.xc;obtain⟨aINNER,aT,g_INNER,D_INNER,hI⟩:=Hd.in_of hIn;have m_aa0:=W.mg_of X G g_INNER;obtain⟨aTURNING,aU,g_TURNING,D_TURNING,hU⟩:=Hd.tr_of hTr;have m_ae0:=W.mg_of X G g_TURNING
 have hN:([Hd.tabAt K "changed",Hd.tabAt K "lifted",Hd.tabAt K "put",Hd.tabAt K "term_deep",Hd.tabAt K "turned"]:List Addr).Nodup:=by
  rw[← Zt1,← Zy8,← Xg1,← Zm7,← Zy7];exact hNd
 refine⟨W.fnOf "law" "law" (Zc5 (top 44)) (Zc1 (top 44)) (Za3 (top 44)) .none kV_ax0 dc_ax0 pm_ax0 an_ax0 cd_ax0 ct_ax0,fun s v=>.of_eq rfl,fun base _ _=>?_⟩;have G_ao0:=Xs9 (P:=l.prog) (w:=w) (mg:=mg) (base:=base) (k:=0) F_ao0;have G_af0:=Wh6 (P:=l.prog) (w:=w) (mg:=mg) (base:=base) (k:=1) F_af0 (.of (G_ao0.mono (by decide)) m_ao0 k_ao0 b_ao0) m_len;have G_at0:=Wg4 (P:=l.prog) (w:=w) (mg:=mg) (base:=base) (k:=0) F_at0 m_range;have G_am0:=Xt0 (P:=l.prog) (w:=w) (mg:=mg) (base:=base) (k:=0) F_am0 m_len;have G_as0:=Xm4 (P:=l.prog) (w:=w) (mg:=mg) (base:=base) F_as0 m_as0 b_as0 (fun k=>Xs9 F_ao0) m_ao0 k_ao0 b_ao0 (fun k=>Xt0 F_am0 m_len) m_am0 k_am0 b_am0 12;have G_ai0:=Wh3 (P:=l.prog) (w:=w) (mg:=mg) (base:=base) (k:=13) F_ai0 (.of (G_af0.mono (by decide)) m_af0 k_af0 b_af0) (.of (G_ao0.mono (by decide)) m_ao0 k_ao0 b_ao0) (.of (G_as0.mono (by decide)) m_as0 k_as0 b_as0) m_range m_max m_len;have G_an0:=Xm5 (P:=l.prog) (w:=w) (mg:=mg) (base:=base) F_an0 m_an0 b_an0 m_int 60;have G_au0:=Wg3 (P:=l.prog) (w:=w) (mg:=mg) (base:=base) (k:=60) F_au0 (.of (G_an0.mono (by decide)) m_an0 k_an0 b_an0) m_len;have G_ag0:=Wh5 (P:=l.prog) (w:=w) (mg:=mg) (base:=base) (k:=0) F_ag0 m_range;have G_aq0:=Wg7 (P:=l.prog) (w:=w) (mg:=mg) (base:=base) (k:=0) F_aq0 m_range;have G_aj0:=Wh2 (P:=l.prog) (w:=w) (mg:=mg) (base:=base) (k:=0) F_aj0;have G_ar0:=Wg6 (P:=l.prog) (w:=w) (mg:=mg) (base:=base) (k:=0) F_ar0 m_isinstance m_tuple m_len;have G_ak0:=Wh1 (P:=l.prog) (w:=w) (mg:=mg) (base:=base) (k:=0) F_ak0 m_isinstance m_int m_tuple m_len m_bool;have G_al0:=Xm6 (P:=l.prog) (w:=w) (mg:=mg) (base:=base) (k:=1) F_al0 m_al0 b_al0 (.of (G_aj0.mono (by decide)) m_aj0 k_aj0 b_aj0) (.of (G_ar0.mono (by decide)) m_ar0 k_ar0 b_ar0) (.of (G_ak0.mono (by decide)) m_ak0 k_ak0 b_ak0) m_int 80;have G_ap0:=Wg8 (P:=l.prog) (w:=w) (mg:=mg) (base:=base) (k:=61) F_ap0 (.of (G_af0.mono (by decide)) m_af0 k_af0 b_af0) (.of (G_ao0.mono (by decide)) m_ao0 k_ao0 b_ao0) (.of (G_au0.mono (by decide)) m_au0 k_au0 b_au0) m_range m_max m_len;have G_ah0:=Wh4 (P:=l.prog) (w:=w) (mg:=mg) (base:=base) (k:=62) F_ah0 (.of (G_af0.mono (by decide)) m_af0 k_af0 b_af0) (.of (G_ap0.mono (by decide)) m_ap0 k_ap0 b_ap0) (.of (G_ag0.mono (by decide)) m_ag0 k_ag0 b_ag0) (.of (G_aq0.mono (by decide)) m_aq0 k_aq0 b_aq0);have G_bk0:=Wf1 (P:=l.prog) (w:=w) (mg:=mg) (base:=base) (k:=0) F_bk0 m_ae0 D_TURNING hU;have G_bi0:=Wf3 (P:=l.prog) (w:=w) (mg:=mg) (base:=base) (k:=1) F_bi0 (.of (G_bk0.mono (by decide)) m_bk0 k_bk0 b_bk0) m_enumerate;have G_bc0:=Xf9 (P:=l.prog) (w:=w) (mg:=mg) (base:=base) (k:=10) F_bc0 m_aa0 D_INNER hI m_reversed;have G_bg0:=Wa5 (P:=l.prog) (w:=w) (mg:=mg) (base:=base) hN F_aw0 hB_changed v_changed m_aw0 b_aw0 F_ay0 hB_lifted v_lifted m_ay0 b_ay0 F_bb0 hB_put v_put m_bb0 b_bb0 F_bd0 hB_term_deep v_term_deep m_bd0 b_bd0 F_bg0 hB_turned v_turned m_bg0 b_bg0 F_bc0 m_bc0 b_bc0 F_bl0 m_bl0 b_bl0 F_be0 m_be0 b_be0 F_bh0 m_bh0 b_bh0 F_bf0 m_bf0 b_bf0 m_aa0 D_INNER hI m_reversed m_range m_len m_list m_zip m_tuple m_sorted m_max m_NoTurning x_NoTurning m_Large x_Large m_ac0 m_ab0 (.of (G_bi0.mono (by decide)) m_bi0 k_bi0 b_bi0);have G_bj0:=Wf2 (P:=l.prog) (w:=w) (mg:=mg) (base:=base) (k:=11) F_bj0 (.of (G_bc0.mono (by decide)) m_bc0 k_bc0 b_bc0) (.of (G_bi0.mono (by decide)) m_bi0 k_bi0 b_bi0) m_len;have G_av0:=Wg2 (P:=l.prog) (w:=w) (mg:=mg) (base:=base) (k:=12) F_av0 (G_bg0.mono (by decide)) m_bg0 k_bg0 b_bg0 (.of (G_bj0.mono (by decide)) m_bj0 k_bj0 b_bj0) m_ad0 m_Large x_Large m_range;have G_ax0:=Wg0 (P:=l.prog) (w:=w) (mg:=mg) (base:=base) (k:=81) F_ax0 (.of (G_at0.mono (by decide)) m_at0 k_at0 b_at0) (.of (G_af0.mono (by decide)) m_af0 k_af0 b_af0) (.of (G_ao0.mono (by decide)) m_ao0 k_ao0 b_ao0) (.of (G_ai0.mono (by decide)) m_ai0 k_ai0 b_ai0) (.of (G_ah0.mono (by decide)) m_ah0 k_ah0 b_ah0) (.of (G_an0.mono (by decide)) m_an0 k_an0 b_an0) (.of (G_al0.mono (by decide)) m_al0 k_al0 b_al0) (.of (G_bj0.mono (by decide)) m_bj0 k_bj0 b_bj0) (G_av0.mono (by decide)) m_av0 k_av0 b_av0 (G_bg0.mono (by decide)) m_bg0 k_bg0 b_bg0 m_range m_max m_len;exact G_ax0
noncomputable def dLaw:PySem.DefRec:=⟨"law",Zc5 (top 44),Zc1 (top 44),Za3 (top 44),Hd.posOf (top 44)⟩
theorem wlk:W.WalkO q loose (W.XL q []) (Hd.hook9 pg ask cask mask tas).says (PySem.Challenge.rw_ken_k55_same_whichever_first).row.toRowW dLaw [] (fun f vs=>PySem.call f vs) :=
 Hd.walkH9 (l:=PySem.Challenge.rw_ken_k55_same_whichever_first) (n:=63) (k:=82) (x:="_law_script") (CX:=CX0) (sp:=fun K ts=>(fun K=>Yd8 K (tb5 (ts.getD 0 0) (ts.getD 1 0) (ts.getD 2 0) (ts.getD 3 0) (ts.getD 4 0))) K) rfl (by decide) rfl ⟨rfl,by decide,by decide⟩ (by decide) (fun w mg fa h K bm KX G hmg E D E2 D2 hc hI hTr hN hb nT=>by
   rw[Yx5,Xc5,Wb4,Yh7,Xc4]
   exact Wa4 KX G hmg E D E2 D2 hc hI hTr hN hb nT)
  (fun K ts H a ns hl hn hO hS=>by
   have hn:ts.length=5:=hn
   match ts,hn,hO with
   | [T_changed,T_lifted,T_put,T_term_deep,T_turned],_,hO=>exact⟨a,ns,rfl,hS,hl,fun x hx=>by
    simp only[List.mem_cons,List.not_mem_nil,or_false] at hx;rcases hx with rfl | rfl | rfl | rfl | rfl
    all_goals exact TabOk.new (hO _ (by simp)),fun _=>rfl⟩) fun _ _ _ _ z=>z
end
end KLaw
open PySem PySem.W PyProof.Rows
set_option maxRecDepth 100000 in
set_option maxHeartbeats 0 in
theorem PySem.Challenge.cw_ken_k55_same_whichever_first_holds : PySem.Challenge.rw_ken_k55_same_whichever_first.Holds := by
 refine W.holds_law ws0 fun said=>W.holds_open (q:=KLaw.q) (loose:=KLaw.loose) (XP:=XL KLaw.q []) (d:=KLaw.dLaw) (kwd:=[]) (YP:=(Hd.hook9 KLaw.pg KLaw.ask KLaw.cask KLaw.mask KLaw.tas).says)
  KLaw.lft (Hd.hook9 KLaw.pg KLaw.ask KLaw.cask KLaw.mask KLaw.tas).of (Hd.hook9 KLaw.pg KLaw.ask KLaw.cask KLaw.mask KLaw.tas).keeps
  (fun s e=>xl_of s (Bool.and_eq_true_iff.mp e).1) XL.keeps (by kernel_rfl) (by kernel_rfl) rfl (fun s e=>recFacts_of (Bool.and_eq_true_iff.mp e).2)
  rfl said (by decide +kernel) ⟨rfl,rfl,rfl,rfl,rfl,by decide +kernel⟩ ?hw ?hc
 (case hw=>w_witness2)
 exact KLaw.wlk
